/-
  The walk of EntryJoins.
-/
import Derived.Test.YtbjcphefaciihaaEntryBackW
namespace Go.Proofs.Ytbjcphefaciihaa
open Go.RowKit
open Lab (Pr)
open Smp (Sm)

theorem take_all {l : List Sm} (h : Smp.check l = 0) (ho : ∀ x ∈ l, Smp.Ok x) (w : World) :
    Calls Try.prog 33 #[.string (Num.bs (Smp.putS l))] w fun e w' => ∃ b cb, e = .returned (.tuple #[.slice b l.length cb, .string ⟨#[]⟩, .int .i64 0]) ∧ SmpsAt w' b l ∧ l.length ≤ cb ∧ Below w.heap.size w w' := by
  have hl := Smp.putS_len h ho
  have h2 := Smp.take_putS h ho []
  rw [List.append_nil] at h2
  refine (takeS_any _ w (by rw [Num.bs_size]; unfold maxLen; omega)).mono fun e' w' ⟨hT, hb⟩ => ?_
  rw [Num.bs_toList] at hT
  rcases hT with ⟨hT, _⟩ | ⟨ps, r, v, hT, he, ho'⟩
  · rw [hT] at h2; cases h2
  · rw [hT] at h2
    simp only [Option.some.injEq, Prod.mk.injEq] at h2
    obtain ⟨rfl, rfl⟩ := h2
    obtain ⟨b, cb, rfl, hcb, hsa, _⟩ := ho'.view
    exact ⟨b, cb, he, hsa, hcb, hb⟩

set_option maxRecDepth 100000 in
set_option maxHeartbeats 3200000 in
theorem walkEntryJoins (a0 : Option Addr) (len0 cap0 : Nat) (z0 : List Int) (t : Int) (a2 : Option Addr) (len2 cap2 : Nat) (z2 : List Int) (w : World) (h0 : IsRow .i64 w a0 len0 cap0 z0) (ht : 0 ≤ t ∧ t ≤ 18446744073709551615) (h2 : IsRow .i64 w a2 len2 cap2 z2) :
    Calls Try.prog 9 #[.slice a0 len0 cap0, .int .u64 t, .slice a2 len2 cap2] w fun e w' => e = .returned (.bool true) ∧ Below w.heap.size w w' := by
  obtain ⟨zs, rfl, hzl, hzp, hzw⟩ := isRow_nums h0
  obtain ⟨vs, rfl, hvl, hvp, hvw⟩ := isRow_nums h2
  clear h0 h2
  have hzb : ∀ z ∈ zs, -9223372036854775808 ≤ z ∧ z ≤ 9223372036854775807 := fun z h => bounds_i64 (hzw z h)
  have hvb : ∀ z ∈ vs, -9223372036854775808 ≤ z ∧ z ≤ 9223372036854775807 := fun z h => bounds_i64 (hvw z h)
  clear hzw hvw
  have HEO := hide (fun wx (hb : Below w.heap.size w wx) => entryOf_any a0 cap0 zs t a2 cap2 vs wx (hzp.below hb) hzb (by omega) (hvp.below hb) hvl hvb)
  have HLR := hide (labs_right zs)
  have HSO := hide (smps_ok t hvb)
  have HSC := hide (smps_check t vs)
  have hsl := smps_len t vs
  clear hzp hvp hzb hvb
  generalize labs zs = l at *
  generalize smps t vs = s at *
  have HSM : Hid (EntSm l s) := hide (entSm_of HLR.out (by omega) HSO.out)
  go_enter Try.func9, Try.ntmps9
  go_wp2_with fail
  refine (eshown_any _).mono ?_
  rintro e w1 ⟨rfl, hb1⟩
  go_wp2_with fail
  refine (HEO.out _ hb1).mono ?_
  rintro e w2 ⟨a, ca, b, cb, rfl, hE, hb2⟩
  have HE := hide hE
  have HB := hide (bl hb1 hb2)
  clear hb1 hb2 hE
  have HPU := hide (fun wx (hb : Below w2.heap.size w2 wx) => eput_any a ca l b cb s wx (HE.out.below hb) HSM.out)
  have HLP := hide (fun wx (hb : Below w2.heap.size w2 wx) => lput_good a ca l wx (HE.out.1.below hb) HE.out.2.1 HLR.out)
  have HSP := hide (fun wx (hb : Below w2.heap.size w2 wx) => put_form b cb s wx (HE.out.2.2.1.below hb) HE.out.2.2.2 (by omega) HSO.out)
  rw [Ent.check_zero.2 ⟨HLR.out, HSC.out⟩, ← put_join (Lab.check_zero.2 HLR.out) HSC.out, Ent.lput_ok HLR.out, putRes_ok HSC.out] at HPU
  rw [HSC.out, putRes_ok HSC.out] at HSP
  have hS1 : (Num.bs (Lab.putL (Lab.canon l))).size ≤ 650 := by rw [Num.bs_size]; exact putL_less (Lab.canon_right HLR.out)
  have hS2 : (Num.bs (Smp.putS s)).size ≤ 500 := by rw [Num.bs_size]; exact Smp.putS_len HSC.out HSO.out
  have HLT := hide (fun wx => ltake_back (Lab.canon_right HLR.out) (Lab.canon_rise HLR.out) (Num.bs (Smp.putS s)) (by omega) wx)
  have HST := hide (fun wx => take_all HSC.out HSO.out wx)
  have HET := hide (fun wx (hq : (Num.bs (Lab.putL (Lab.canon l)) ++ Num.bs (Smp.putS s)).size ≤ 100000) => etake_some (x := Num.bs (Lab.putL (Lab.canon l)) ++ Num.bs (Smp.putS s)) (l := Lab.canon l) (s := s) (by
    have : (Num.bs (Lab.putL (Lab.canon l)) ++ Num.bs (Smp.putS s)).data.toList = Lab.putL (Lab.canon l) ++ Smp.putS s := by simp [Num.bs]
    rw [this]; exact Ent.take_put HLR.out HSC.out HSO.out) wx hq)
  have hcl : (Lab.canon l).length ≤ 9223372036854775807 := by rw [Lab.canon_length]; have := HLR.out.1; omega
  generalize Num.bs (Lab.putL (Lab.canon l)) = A at *
  generalize Num.bs (Smp.putS s) = B at *
  have hAB : (A ++ B).size ≤ 100000 := by simp; omega
  go_wp2_with fail
  refine (HPU.out _ (bel_alloc _ _)).mono ?_
  rintro e w3 ⟨rfl, hb3⟩
  obtain ⟨c0, c1, f0, f1⟩ := two_later hb3
  have hz3 := hb3.size
  simp only [World.size_alloc] at hz3
  have HB3 := hide (bel_al hb3)
  clear hb3
  go_wp2_with fail
  refine (HLP.out _ HB3.out).mono ?_
  rintro e w4 ⟨rfl, hb4⟩
  obtain ⟨c0, c1, f0, f1⟩ := cells_keep (by omega) c0 c1 f0 f1 hb4
  have HB4 := hide (bl HB3.out hb4)
  clear hb4
  go_wp2_with fail
  refine (HSP.out _ HB4.out).mono ?_
  rintro e w5 ⟨rfl, hb5⟩
  have HB5 := hide (bl HB4.out hb5)
  clear hb5 c0 c1 f0 f1
  go_wp2_with fail
  refine (HLT.out _).mono ?_
  rintro e w6 ⟨v, rfl, ho, hb6⟩
  obtain ⟨pa, pc, rfl, hpc, hpp, _⟩ := ho.view
  have HP := hide hpp
  have HB6 := hide (bl HB5.out hb6)
  clear hb6 ho hpp
  go_wp2_with fail
  refine (HST.out _).mono ?_
  rintro e w7 ⟨sa, sc, rfl, hsa, hsc, hb7⟩
  have HC : Hid (EntIn w7 pa pc (Lab.canon l) sa sc s) := hide ⟨HP.out.below hb7, hpc, hsa, hsc⟩
  have HB7 := hide (bl HB6.out hb7)
  clear hb7 hsa HP
  go_wp2_with fail
  refine (HET.out _ hAB).mono ?_
  rintro e w8 ⟨ya, yc, yb, yd, rfl, hY, hb8⟩
  have HY := hide hY
  have HC := hide (HC.out.below hb8)
  have HB8 := hide (bl HB7.out hb8)
  clear hb8 hY
  go_wp2_with fail
  refine (esame_yes ya yc (Lab.canon l) yb yd s pa pc sa sc _ hcl HSM.out.2.1 (HY.out.alloc _) (HC.out.alloc _)).mono ?_
  rintro e w9 ⟨rfl, hb9⟩
  have hbz := bl (bl (bl HB.out HB8.out) (bel_alloc _ _)) hb9
  go_wp2
  go_ret
  exact ⟨rfl, hbz⟩

end Go.Proofs.Ytbjcphefaciihaa
