/-
  What num.Put does: for every number below 2^64 it returns the number's bytes, and turns nothing that was there.
-/
import Derived.Test.YtjbdofjheeljkaaBase
namespace Go.Proofs.Ytjbdofjheeljkaa
open Go.RowKit

theorem info_u8 : (Try.prog.info? 5).map (fun i => (i.zero, i.size, i.bytes)) = some (some (.int .u8 0), 1, 1) := by kernel_rfl

theorem rel_put {w wr w1 : World} {pre : List UInt8} {v v' : Value} {o : Obj} {base : Nat} {c : Nat} {C : Int} (hb : base ≤ wr.heap.size) (hC : C = (c : Int)) (hc : c < 256) (hown : (wr.alloc o).ownsRow base 5 1 v pre.length (bytesV pre)) (hnx : Below base w wr)
    (hown' : w1.ownsRow base 5 1 v' (pre.length + 1) (bytesV pre ++ [.int .u8 C])) (hgrow : (wr.alloc o).grownBy w1 v.ownBlock) :
    w1.ownsRow base 5 1 v' (pre ++ [UInt8.ofNat c]).length (bytesV (pre ++ [UInt8.ofNat c])) ∧ Below base w w1 := by
  refine ⟨?_, (hnx.alloc hb o).grown hgrow (by simp; omega) (fun k hk => (hown.lt k hk).1)⟩
  have e : bytesV (pre ++ [UInt8.ofNat c]) = bytesV pre ++ [.int .u8 C] := by
    simp only [bytesV, List.map_append, List.map_cons, List.map_nil, Num.ofNat_toNat hc, hC]
  rw [e]
  simpa using hown'

set_option maxRecDepth 100000 in
set_option maxHeartbeats 400000 in
theorem put_any (n : Nat) (w : World) (hn : n < 18446744073709551616) :
    Calls Try.prog 85 #[.int .u64 (n : Int)] w fun e w' => e = .returned (.string (Num.bs (Num.put n))) ∧ Below w.heap.size w w' := by
  obtain ⟨i0, hi, hz0, hz1, hz2⟩ := info_parts info_u8
  have h10 := Num.put_len10 hn
  go_enter Try.func85, Try.ntmps85
  go_wp2
  go_loopw [0, 3] (fun x v wr => ∃ (m : Nat) (pre : List UInt8), x = .int .u64 (m : Int) ∧ m ≤ n ∧ pre ++ Num.put m = Num.put n ∧ wr.ownsRow w.heap.size 5 1 v pre.length (bytesV pre) ∧ Below w.heap.size w wr)
    (fun x _ _ => (intOf x).toNat)
  case atStart => exact ⟨n, [], rfl, Nat.le_refl _, rfl, World.ownsRow_nil _ _ _ _, Below.refl _ _⟩
  case round =>
    obtain ⟨m, pre, rfl, hm, hpre, hown, hnx⟩ := hrel
    have hpl : pre.length < 10 := by
      have h1 := congrArg List.length hpre
      have h2 := Num.put_pos m
      simp at h1; omega
    have HP : Hid (pre ++ Num.put m = Num.put n) := hpre
    have hbz := hnx.size
    clear hpre h10
    by_cases hge : 128 ≤ m
    · go_wp2_with (at_builtin; refine wpList_append_own _ rfl _ _ 97 rfl w.heap.size 5 i0 (.int .u8 0) 1 1 Try.underlying97 hi hz0 hz1 hz2 rfl (by decide) _ _ _ rfl (hown.alloc _) ⟨wr.heap.size, 0, none⟩ 1 1 [.int .u8 ((m : Int) % 128 + 128)] rfl rfl ?c1 ?c2 ?c3 ?c4 ?c5 ?_)
      case c1 => exact cell_one_new _ _ _
      case c2 => intro u hu; simp at hu; subst hu; rfl
      case c3 => unfold maxLen; omega
      case c4 => omega
      case c5 => simp; omega
      · intro v' w1 hown' hgrow _
        have R := rel_put (c := m % 128 + 128) hbz (by omega) (by omega) (hown.alloc _) hnx hown' hgrow
        clear hown hown' hgrow hnx
        go_wp2
        go_roundw
        case rel => exact ⟨m / 128, pre ++ [UInt8.ofNat (m % 128 + 128)], by go_num, by omega, by rw [← HP.out, Num.put_ge hge]; simp, R.1, R.2⟩
        case measure => simp [intOf]; omega
    · go_wp2_with (at_builtin; refine wpList_append_own _ rfl _ _ 97 rfl w.heap.size 5 i0 (.int .u8 0) 1 1 Try.underlying97 hi hz0 hz1 hz2 rfl (by decide) _ _ _ rfl (hown.alloc _) ⟨wr.heap.size, 0, none⟩ 1 1 [.int .u8 (m : Int)] rfl rfl ?c1 ?c2 ?c3 ?c4 ?c5 ?_)
      case c1 => exact cell_one_new _ _ _
      case c2 => intro u hu; simp at hu; subst hu; rfl
      case c3 => unfold maxLen; omega
      case c4 => omega
      case c5 => simp; omega
      · intro v' w1 hown' hgrow _
        have R := rel_put (c := m) hbz (by omega) (by omega) (hown.alloc _) hnx hown' hgrow
        have hcv := conv_own (P := Try.prog) (src := 97) (dst := 9) (pre ++ [UInt8.ofNat m]) Try.underlying97 Try.underlying5 Try.underlying9 R.1 rfl rfl (by simp)
        have hbel := R.2
        clear hown hown' hgrow hnx R
        go_wp2
        go_ret
        exact ⟨ret_bs (by rw [← HP.out, Num.put_lt (by omega)]), hbel⟩
theorem put_int (x : Int) (w : World) (h0 : 0 ≤ x) (h1 : x < 18446744073709551616) :
    Calls Try.prog 85 #[.int .u64 x] w fun e w' => e = .returned (.string (Num.bs (Num.put x.toNat))) ∧ Below w.heap.size w w' := by
  obtain ⟨n, rfl⟩ := Int.eq_ofNat_of_zero_le h0
  exact put_any n w (by omega)

theorem ret_bsz {a b : Nat} (h : a = b) : Ending.returned (.string (Num.bs (Num.put a))) = .returned (.string (Num.bs (Num.put b))) := by rw [h]

theorem bs_append (l : List UInt8) (t : ByteArray) : Num.bs l ++ t = Num.bs (l ++ t.data.toList) := by
  apply ByteArray.ext; simp [Num.bs]


set_option maxRecDepth 100000 in
set_option maxHeartbeats 400000 in
theorem putText_any (t : ByteArray) (w : World) (ht : t.size ≤ 1099511627776) :
    Calls Try.prog 87 #[.string t] w fun e w' => e = .returned (.string (Num.bs (Num.put t.size ++ t.data.toList))) ∧ Below w.heap.size w w' := by
  go_enter Try.func87, Try.ntmps87
  go_wp2_with fail
  refine (put_int _ _ (by omega) (by omega)).mono ?_
  rintro e w1 ⟨rfl, hb⟩
  have hl : (Num.bs (Num.put t.size)).size ≤ 10 := by rw [Num.bs_size]; exact Num.put_len10 (by omega)
  go_wp2
  go_ret
  exact ⟨by rw [← bs_append]; rfl, hb⟩

theorem putText_bs (l : List UInt8) (w : World) (ht : l.length ≤ 1099511627776) :
    Calls Try.prog 87 #[.string (Num.bs l)] w fun e w' => e = .returned (.string (Num.bs (Num.put l.length ++ l))) ∧ Below w.heap.size w w' := by
  have := putText_any (Num.bs l) w (by rw [Num.bs_size]; exact ht)
  rwa [Num.bs_size, Num.bs_toList] at this

end Go.Proofs.Ytjbdofjheeljkaa
