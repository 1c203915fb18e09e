/-
  What the document's own Put, PutInt and PutText (postroomref1) do: the same as num's.
-/
import Derived.Test.YtdpkpcoadojkhaaDoorPutW
namespace Go.Proofs.YtdpkpcoadojkhaaDoor
open Go.RowKit

set_option maxRecDepth 100000 in
set_option maxHeartbeats 800000 in
theorem refPut_any (n : Nat) (w : World) (hn : n < 18446744073709551616) :
    Calls Tryd.prog 25 #[.int .u64 (n : Int)] w fun e w' => e = .returned (.string (Num.bs (Num.put n))) ∧ Below w.heap.size w w' := by
  obtain ⟨i0, hi, hz0, hz1, hz2⟩ := info_parts info_u8
  have h10 := Num.put_len10 hn
  go_enter Tryd.func25, Tryd.ntmps25
  go_wp2
  go_loopw [0, 3] (fun x v wr => ∃ (m : Nat) (pre : List UInt8), x = .int .u64 (m : Int) ∧ m ≤ n ∧ pre ++ Num.put m = Num.put n ∧ wr.ownsRow w.heap.size 5 1 v pre.length (bytesV pre) ∧ Below w.heap.size w wr)
    (fun x _ _ => (intOf x).toNat)
  case atStart => exact ⟨n, [], rfl, Nat.le_refl _, rfl, World.ownsRow_nil _ _ _ _, Below.refl _ _⟩
  case round =>
    obtain ⟨m, pre, rfl, hm, hpre, hown, hnx⟩ := hrel
    have hpl : pre.length < 10 := by
      have h1 := congrArg List.length hpre
      have h2 := Num.put_pos m
      simp at h1; omega
    have HP : Hid (pre ++ Num.put m = Num.put n) := hpre
    have hbz := hnx.size
    clear hpre h10
    by_cases hge : 128 ≤ m
    · have hz : (((m : Int) / 128) == 0) = false := beq_eq_false_iff_ne.2 (by omega)
      go_wp2_with (at_builtin; refine wpList_append_own _ rfl _ _ 49 rfl w.heap.size 5 i0 (.int .u8 0) 1 1 Tryd.underlying49 hi hz0 hz1 hz2 rfl (by decide) _ _ _ rfl (hown.alloc _) ⟨wr.heap.size, 0, none⟩ 1 1 [.int .u8 (128 + (m : Int) % 128)] rfl rfl ?c1 ?c2 ?c3 ?c4 ?c5 ?_)
      case c1 => exact cell_one_new _ _ _
      case c2 => intro u hu; simp at hu; subst hu; rfl
      case c3 => unfold maxLen; omega
      case c4 => omega
      case c5 => simp; omega
      · intro v' w1 hown' hgrow _
        have R := rel_put (c := m % 128 + 128) hbz (by omega) (by omega) (hown.alloc _) hnx hown' hgrow
        clear hown hown' hgrow hnx
        go_wp2
        go_roundw
        case rel => exact ⟨m / 128, pre ++ [UInt8.ofNat (m % 128 + 128)], by go_num, by omega, by rw [← HP.out, Num.put_ge hge]; simp, R.1, R.2⟩
        case measure => simp [intOf]; omega
    · have hz : (((m : Int) / 128) == 0) = true := beq_iff_eq.2 (by omega)
      go_wp2_with (at_builtin; refine wpList_append_own _ rfl _ _ 49 rfl w.heap.size 5 i0 (.int .u8 0) 1 1 Tryd.underlying49 hi hz0 hz1 hz2 rfl (by decide) _ _ _ rfl (hown.alloc _) ⟨wr.heap.size, 0, none⟩ 1 1 [.int .u8 ((m : Int) % 128)] rfl rfl ?c1 ?c2 ?c3 ?c4 ?c5 ?_)
      case c1 => exact cell_one_new _ _ _
      case c2 => intro u hu; simp at hu; subst hu; rfl
      case c3 => unfold maxLen; omega
      case c4 => omega
      case c5 => simp; omega
      · intro v' w1 hown' hgrow _
        have R := rel_put (c := m) hbz (by omega) (by omega) (hown.alloc _) hnx hown' hgrow
        have hcv := conv_own (P := Tryd.prog) (src := 49) (dst := 9) (pre ++ [UInt8.ofNat m]) Tryd.underlying49 Tryd.underlying5 Tryd.underlying9 R.1 rfl rfl (by simp)
        have hbel := R.2
        clear hown hown' hgrow hnx R
        go_wp2
        go_ret
        exact ⟨ret_bs (by rw [← HP.out, Num.put_lt (by omega)]), hbel⟩

theorem refPut_int (x : Int) (w : World) (h0 : 0 ≤ x) (h1 : x < 18446744073709551616) :
    Calls Tryd.prog 25 #[.int .u64 x] w fun e w' => e = .returned (.string (Num.bs (Num.put x.toNat))) ∧ Below w.heap.size w w' := by
  obtain ⟨n, rfl⟩ := Int.eq_ofNat_of_zero_le h0
  exact refPut_any n w (by omega)


end Go.Proofs.YtdpkpcoadojkhaaDoor
