/-
  label.Canon, label.Put.
-/
import Derived.Test.YtbjcphefaciihaaCheckW
import Derived.Test.YtbjcphefaciihaaInOrderW
import Derived.Test.YtbjcphefaciihaaPutW
namespace Go.Proofs.Ytbjcphefaciihaa
open Go.RowKit
open Lab (Pr)

def Small (l : List Pr) : Prop := l.length ≤ 9223372036854775807 ∧ ∀ p ∈ l, p.1.size ≤ 9223372036854775807 ∧ p.2.size ≤ 9223372036854775807

set_option maxRecDepth 100000 in
set_option maxHeartbeats 800000 in
theorem canon_bad (a : Option Addr) (cap : Nat) (l : List Pr) (w : World) (hp : PairsAt w a l) (hcap : l.length ≤ cap) (hs : Small l) (h0 : Lab.check l ≠ 0) :
    Calls Try.prog 47 #[.slice a l.length cap] w fun e w' => e = .returned (.tuple #[.slice none 0 0, .int .i64 (Lab.check l : Int)]) ∧ Below w.heap.size w w' := by
  have hne : ((Lab.check l : Int) == 0) = false := beq_eq_false_iff_ne.2 (by omega)
  have HC := hide (check_any a cap l w hp hs.1 hcap hs.2)
  clear hp hs
  go_enter Try.func47, Try.ntmps47
  go_wp2_with fail
  refine HC.out.mono ?_
  rintro e w1 ⟨rfl, hb1⟩
  go_wp2
  go_ret2
  exact ⟨rfl, hb1⟩

set_option maxRecDepth 100000 in
set_option maxHeartbeats 800000 in
theorem canon_good (a : Option Addr) (cap : Nat) (l : List Pr) (w : World) (hp : PairsAt w a l) (hcap : l.length ≤ cap) (hr : Lab.Right l) :
    Calls Try.prog 47 #[.slice a l.length cap] w fun e w' => ∃ g, e = .returned (.tuple #[.slice (some ⟨g, 0, none⟩) l.length l.length, .int .i64 0]) ∧ w.heap.size ≤ g ∧ RowAt w' g (Lab.canon l) ∧ Below w.heap.size w w' := by
  have h8 := hr.1
  have HC := hide (check_any a cap l w hp (by omega) hcap (fun p h => by have := Lab.right_small hr p h; omega))
  rw [Lab.check_zero.2 hr] at HC
  have HP := hide hp
  clear hp hr
  go_enter Try.func47, Try.ntmps47
  go_wp2_with fail
  refine HC.out.mono ?_
  rintro e w1 ⟨rfl, hb1⟩
  go_wp2_with fail
  refine (inOrder_any a cap l w1 (HP.out.below hb1) (by omega)).mono ?_
  rintro e w2 ⟨rfl, hrow, hb2⟩
  have hsz := hb1.size
  have hbz := bl hb1 hb2
  clear hb1 hb2 HC
  go_wp2
  go_ret2
  exact ⟨_, rfl, hsz, hrow, hbz⟩

set_option maxRecDepth 100000 in
set_option maxHeartbeats 800000 in
theorem lput_bad (a : Option Addr) (cap : Nat) (l : List Pr) (w : World) (hp : PairsAt w a l) (hcap : l.length ≤ cap) (hs : Small l) (h0 : Lab.check l ≠ 0) :
    Calls Try.prog 30 #[.slice a l.length cap] w fun e w' => e = .returned (.tuple #[.string ⟨#[]⟩, .int .i64 (Lab.check l : Int)]) ∧ Below w.heap.size w w' := by
  have hne : ((Lab.check l : Int) == 0) = false := beq_eq_false_iff_ne.2 (by omega)
  have HC := hide (canon_bad a cap l w hp hcap hs h0)
  clear hp hs
  go_enter Try.func30, Try.ntmps30
  go_wp2_with fail
  refine HC.out.mono ?_
  rintro e w1 ⟨rfl, hb1⟩
  go_wp2
  go_ret2
  exact ⟨rfl, hb1⟩

theorem pb_next {c : List Pr} {k : Nat} {zn zv : ByteArray} {X : List UInt8} (hk : k < c.length) (hz : c[k] = (zn, zv)) :
    Num.bs (X ++ Lab.pb (c.take k)) ++ (Num.bs (Num.put zn.size ++ zn.data.toList) ++ Num.bs (Num.put zv.size ++ zv.data.toList)) = Num.bs (X ++ Lab.pb (c.take (k + 1))) := by
  rw [bs_append, bs_append, Num.bs_toList, Num.bs_toList, List.take_succ_eq_append_getElem hk, Lab.pb_app, hz]
  simp [Lab.pb, Lab.txt]
theorem pb_take_len {c : List Pr} (hc : Lab.Right c) (k : Nat) : (Num.bs (Num.put c.length ++ Lab.pb (c.take k))).size ≤ 50000 := by
  rw [Num.bs_size]
  have h1 := Lab.pb_len (c.take k) (fun p hp => Lab.right_small hc p (List.mem_of_mem_take hp))
  have h2 := hc.1
  have h3 := Num.put_len10 (n := c.length) (by omega)
  have h4 : (c.take k).length ≤ c.length := by simp; omega
  simp only [List.length_append]; omega

theorem ret_put {a b : ByteArray} (h : a = b) : Ending.returned (.tuple #[.string a, .int .i64 0]) = .returned (.tuple #[.string b, .int .i64 0]) := by rw [h]

set_option maxRecDepth 100000 in
set_option maxHeartbeats 1600000 in
theorem lput_good (a : Option Addr) (cap : Nat) (l : List Pr) (w : World) (hp : PairsAt w a l) (hcap : l.length ≤ cap) (hr : Lab.Right l) :
    Calls Try.prog 30 #[.slice a l.length cap] w fun e w' => e = .returned (.tuple #[.string (Num.bs (Lab.putL (Lab.canon l))), .int .i64 0]) ∧ Below w.heap.size w w' := by
  have h8 := hr.1
  have HC := hide (canon_good a cap l w hp hcap hr)
  obtain ⟨c, hc⟩ : ∃ c, c = Lab.canon l := ⟨_, rfl⟩
  have HR : Hid (Lab.Right c) := by rw [hc]; exact Lab.canon_right hr
  have hcl : l.length = c.length := by rw [hc, Lab.canon_length]
  rw [← hc] at HC
  rw [← hc, hcl]
  rw [hcl] at HC h8
  clear hp hr hcap hcl hc
  go_enter Try.func30, Try.ntmps30
  go_wp2_with fail
  refine HC.out.mono ?_
  rintro e w1 ⟨g, rfl, hg, hrow, hb1⟩
  have HP := hide hrow
  clear HC hrow
  go_wp2_with fail
  refine (put_int _ _ (by omega) (by omega)).mono ?_
  rintro e w2 ⟨rfl, hb2⟩
  have HP2 := hide (HP.out.later hb2)
  have hb3 := bl hb1 hb2
  clear hb1 hb2 HP
  simp only [Int.toNat_natCast]
  go_wp2
  go_loopw [6, 23] (fun s i wr => ∃ k : Nat, k ≤ c.length ∧ i = .int .i64 (k : Int) ∧ s = .string (Num.bs (Num.put c.length ++ Lab.pb (c.take k))) ∧ Below w2.heap.size w2 wr)
    (fun _ i _ => c.length - (intOf i).toNat)
  case atStart => exact ⟨0, Nat.zero_le _, rfl, by simp [Lab.pb], Below.refl _ _⟩
  case round =>
    obtain ⟨k, hk, rfl, rfl, hnx⟩ := hrel
    by_cases hlt : k < c.length
    · obtain ⟨zn, zv, hz, hc1, hc2⟩ := HP2.out.get hnx hlt
      have hsm := Lab.right_small HR.out c[k] (List.getElem_mem hlt)
      rw [hz] at hsm
      obtain ⟨hs1, hs2⟩ := hsm
      have HE := hide (pb_next (X := Num.put c.length) hlt hz)
      have l1 := pb_take_len HR.out k
      have l2 : (Num.bs (Num.put zn.size ++ zn.data.toList)).size ≤ 5000 := by
        rw [Num.bs_size]; have := Num.put_len10 (n := zn.size) (by simp at hs1; omega); simp at hs1 ⊢; omega
      have l3 : (Num.bs (Num.put zv.size ++ zv.data.toList)).size ≤ 5000 := by
        rw [Num.bs_size]; have := Num.put_len10 (n := zv.size) (by simp at hs2; omega); simp at hs2 ⊢; omega
      have HPn := fun wx => hide (putText_any zn wx (by simp at hs1; omega))
      have HPv := fun wx => hide (putText_any zv wx (by simp at hs2; omega))
      have hsz := hnx.size
      have hal := hnx.alloc hsz (Obj.cells #[.string zn, .string zv] 53)
      clear hz
      go_wp2_with fail
      obtain ⟨wa, hwa⟩ : ∃ wa, wa = wr.alloc (Obj.cells #[.string zn, .string zv] 53) := ⟨_, rfl⟩
      have e1 : wa.cell? ⟨wr.heap.size, 0, none⟩ = some (.string zn) := by rw [hwa]; simp
      have e2 : wa.cell? ⟨wr.heap.size, 1, none⟩ = some (.string zv) := by rw [hwa]; simp
      rw [← hwa] at hal ⊢
      clear hwa
      have inh : Nonempty (Ext wa) := Ext.some wa
      have x1 : ∀ x : Ext wa, x.w.cell? _ = _ := fun x => x.cell e1
      have x2 : ∀ x : Ext wa, x.w.cell? _ = _ := fun x => x.cell e2
      refine wp_region_calm (by kernel_rfl) (by kernel_rfl) ?_
      repeat (go_big_quiet_step ((go_at_call 51; first | exact calm_of (HPn _).out | exact calm_of (HPv _).out)))
      refine wpQuiet_nil ?_
      intro _ hw'
      obtain ⟨xq, rfl⟩ := hw'
      have hbx : Below w2.heap.size w2 xq.w := bl hal xq.below
      generalize xq.w = wc at *
      go_wp2
      go_roundw
      case rel => exact ⟨k + 1, by omega, by go_num, by rw [← HE.out], hbx⟩
      case measure => simp [intOf]; omega
    · go_wp2
      go_ret2
      exact ⟨ret_put (by rw [List.take_of_length_le (by omega)]; rfl), bl hb3 hnx⟩

end Go.Proofs.Ytbjcphefaciihaa
