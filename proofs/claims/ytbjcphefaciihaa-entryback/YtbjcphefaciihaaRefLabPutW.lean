/-
  The document's own Put of labels.
-/
import Derived.Test.YtbjcphefaciihaaRefCanonW
import Derived.Test.YtbjcphefaciihaaLabPutW
import Derived.Test.YtbjcphefaciihaaRefPutW
namespace Go.Proofs.Ytbjcphefaciihaa
open Go.RowKit
open Lab (Pr)

set_option maxRecDepth 100000 in
set_option maxHeartbeats 800000 in
theorem rlput_bad (a : Option Addr) (cap : Nat) (l : List Pr) (w : World) (hp : PairsAt w a l) (hs : Small l) (h0 : Lab.check l ≠ 0) :
    Calls Try.prog 17 #[.slice a l.length cap] w fun e w' => e = .returned (.tuple #[.string ⟨#[]⟩, .int .i64 (Lab.check l : Int)]) ∧ Below w.heap.size w w' := by
  have hne : ((Lab.check l : Int) == 0) = false := beq_eq_false_iff_ne.2 (by omega)
  have HC := hide (refCanon_bad a cap l w hp hs.1 hs.2 h0)
  clear hp hs
  go_enter Try.func17, Try.ntmps17
  go_wp2_with fail
  refine HC.out.mono ?_
  rintro e w1 ⟨rfl, hb1⟩
  go_wp2
  go_ret2
  exact ⟨rfl, hb1⟩

theorem pb_next2 {c : List Pr} {k : Nat} {zn zv : ByteArray} {X : List UInt8} (hk : k < c.length) (hz : c[k] = (zn, zv)) :
    Num.bs (X ++ Lab.pb (c.take k)) ++ Num.bs (Num.put zn.size ++ zn.data.toList) ++ Num.bs (Num.put zv.size ++ zv.data.toList) = Num.bs (X ++ Lab.pb (c.take (k + 1))) := by
  rw [bs_append, bs_append, Num.bs_toList, Num.bs_toList, List.take_succ_eq_append_getElem hk, Lab.pb_app, hz]
  simp [Lab.pb, Lab.txt]

set_option maxRecDepth 100000 in
set_option maxHeartbeats 1600000 in
theorem rlput_good (a : Option Addr) (cap : Nat) (l : List Pr) (w : World) (hp : PairsAt w a l) (hr : Lab.Right l) :
    Calls Try.prog 17 #[.slice a l.length cap] w fun e w' => e = .returned (.tuple #[.string (Num.bs (Lab.putL (Lab.canon l))), .int .i64 0]) ∧ Below w.heap.size w w' := by
  have h8 := hr.1
  have HC := hide (refCanon_good a cap l w hp hr)
  obtain ⟨c, hc⟩ : ∃ c, c = Lab.canon l := ⟨_, rfl⟩
  have HR : Hid (Lab.Right c) := by rw [hc]; exact Lab.canon_right hr
  have hcl : l.length = c.length := by rw [hc, Lab.canon_length]
  rw [← hc] at HC
  rw [← hc, hcl]
  rw [hcl] at HC h8
  clear hp hr hcl hc
  go_enter Try.func17, Try.ntmps17
  go_wp2_with fail
  refine HC.out.mono ?_
  rintro e w1 ⟨v, rfl, hown, hb1⟩
  obtain ⟨oa, ocap, rfl, hocap, hop, _⟩ := hown.view
  have HP := hide hop
  clear HC hop hown
  go_wp2_with fail
  refine (refPut_int _ _ (by omega) (by omega)).mono ?_
  rintro e w2 ⟨rfl, hb2⟩
  have HP2 := hide (HP.out.below hb2)
  have hb3 := bl hb1 hb2
  clear hb1 hb2 HP
  simp only [Int.toNat_natCast]
  go_wp2
  go_loopw [6, 7] (fun s i wr => ∃ k : Nat, k ≤ c.length ∧ i = .int .i64 (k : Int) ∧ s = .string (Num.bs (Num.put c.length ++ Lab.pb (c.take k))) ∧ Below w2.heap.size w2 wr)
    (fun _ i _ => c.length - (intOf i).toNat)
  case atStart => exact ⟨0, Nat.zero_le _, rfl, by simp [Lab.pb], Below.refl _ _⟩
  case round =>
    obtain ⟨k, hk, rfl, rfl, hnx⟩ := hrel
    by_cases hlt : k < c.length
    · obtain ⟨b, off, zn, zv, rfl, hbl, hz, hc1, hc2⟩ := HP2.out.get hnx hlt
      have hsm := Lab.right_small HR.out c[k] (List.getElem_mem hlt)
      rw [hz] at hsm
      obtain ⟨hs1, hs2⟩ := hsm
      have HE := hide (pb_next2 (X := Num.put c.length) hlt hz)
      have l1 := pb_take_len HR.out k
      have l2 : (Num.bs (Num.put zn.size ++ zn.data.toList)).size ≤ 5000 := by
        rw [Num.bs_size]; have := Num.put_len10 (n := zn.size) (by simp at hs1; omega); simp at hs1 ⊢; omega
      have l3 : (Num.bs (Num.put zv.size ++ zv.data.toList)).size ≤ 5000 := by
        rw [Num.bs_size]; have := Num.put_len10 (n := zv.size) (by simp at hs2; omega); simp at hs2 ⊢; omega
      have HPn := fun wx => hide (refPutText_any zn wx (by simp at hs1; omega))
      have HPv := fun wx => hide (refPutText_any zv wx (by simp at hs2; omega))
      have hki : (k : Int) < (c.length : Int) := by omega
      have inh : Nonempty (Ext wr) := Ext.some wr
      have x1 : ∀ x : Ext wr, x.w.cell? _ = _ := fun x => x.cell hc1
      have x2 : ∀ x : Ext wr, x.w.cell? _ = _ := fun x => x.cell hc2
      clear hz
      go_wp2_with fail
      refine wp_region_calm (by kernel_rfl) (by kernel_rfl) ?_
      repeat (go_big_quiet_step ((go_at_call 40; first | exact calm_of (HPn _).out | exact calm_of (HPv _).out)))
      refine wpQuiet_nil ?_
      intro _ hw'
      obtain ⟨xq, rfl⟩ := hw'
      have hbx : Below w2.heap.size w2 xq.w := bl hnx xq.below
      clear x1 x2 inh
      generalize xq.w = wc at *
      go_wp2
      go_roundw
      case rel => exact ⟨k + 1, by omega, by go_num, by rw [← HE.out], hbx⟩
      case measure => simp [intOf]; omega
    · go_wp2
      go_ret2
      exact ⟨ret_put (by rw [List.take_of_length_le (by omega)]; rfl), bl hb3 hnx⟩

end Go.Proofs.Ytbjcphefaciihaa
