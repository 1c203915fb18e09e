/-
  The walk of EntryOne.
-/
import Derived.Test.YtbjcphefaciihaaEntryBackW
namespace Go.Proofs.Ytbjcphefaciihaa
open Go.RowKit
open Lab (Pr)
open Smp (Sm)

theorem one_eq {l m : List Pr} {s t : List Sm} (hl : Lab.Right l) (hm : Lab.Right m) (hs : Smp.check s = 0) (ht : Smp.check t = 0) (os : ∀ x ∈ s, Smp.Ok x) (ot : ∀ x ∈ t, Smp.Ok x) :
    ((Num.bs (Lab.putL (Lab.canon l) ++ Smp.putS s)).toList == (Num.bs (Lab.putL (Lab.canon m) ++ Smp.putS t)).toList) = (decide (Lab.canon l = Lab.canon m) && decide (s = t)) := by
  rw [Lab.eqB, ← Bool.decide_and]
  apply decide_eq_decide.2
  constructor
  · intro h
    have h2 := congrArg (fun x : ByteArray => x.data.toList) h
    simp only [Num.bs_toList] at h2
    exact Ent.put_inj hl hm hs ht os ot h2
  · rintro ⟨h, rfl⟩
    rw [h]
theorem put_back {x : ByteArray} {l : List Pr} {s : List Sm} (h : Ent.take x.data.toList = some (l, s)) : Ent.put l s = x ∧ Ent.check l s = 0 ∧ EntSm l s := by
  obtain ⟨h1, h2, h3, h4, h5⟩ := Ent.of_take h
  refine ⟨?_, Ent.check_zero.2 ⟨h2, h4⟩, entSm_of h2 (by have := Smp.of_check h4; omega) h5⟩
  rw [Ent.put_ok h2 h4, Lab.canon_of_rise h3 h2, ← h1, Num.bs_of]

set_option maxRecDepth 100000 in
set_option maxHeartbeats 3200000 in
theorem walkEntryOne (q : ByteArray) (a0 : Option Addr) (len0 cap0 : Nat) (z0 : List Int) (a1 : Option Addr) (len1 cap1 : Nat) (z1 : List Int) (t : Int) (a2 : Option Addr) (len2 cap2 : Nat) (z2 : List Int) (a3 : Option Addr) (len3 cap3 : Nat) (z3 : List Int) (w : World) (hqm : q.size ≤ maxLen) (h0 : IsRow .i64 w a0 len0 cap0 z0) (h1 : IsRow .i64 w a1 len1 cap1 z1) (ht : 0 ≤ t ∧ t ≤ 18446744073709551615) (h2 : IsRow .i64 w a2 len2 cap2 z2) (h3 : IsRow .i64 w a3 len3 cap3 z3) :
    Calls Try.prog 6 #[.string q, .slice a0 len0 cap0, .slice a1 len1 cap1, .int .u64 t, .slice a2 len2 cap2, .slice a3 len3 cap3] w fun e w' => e = .returned (.bool true) ∧ Below w.heap.size w w' := by
  obtain ⟨zl, rfl, hzl, hzp, hzw⟩ := isRow_nums h0
  obtain ⟨zm, rfl, hyl, hyp, hyw⟩ := isRow_nums h1
  obtain ⟨vs, rfl, hvl, hvp, hvw⟩ := isRow_nums h2
  obtain ⟨us, rfl, hul, hup, huw⟩ := isRow_nums h3
  clear h0 h1 h2 h3
  have hzb : ∀ z ∈ zl, -9223372036854775808 ≤ z ∧ z ≤ 9223372036854775807 := fun z h => bounds_i64 (hzw z h)
  have hyb : ∀ z ∈ zm, -9223372036854775808 ≤ z ∧ z ≤ 9223372036854775807 := fun z h => bounds_i64 (hyw z h)
  have hvb : ∀ z ∈ vs, -9223372036854775808 ≤ z ∧ z ≤ 9223372036854775807 := fun z h => bounds_i64 (hvw z h)
  have hub : ∀ z ∈ us, -9223372036854775808 ≤ z ∧ z ≤ 9223372036854775807 := fun z h => bounds_i64 (huw z h)
  clear hzw hyw hvw huw
  have hqm' : q.size ≤ 9223372036854775807 := hqm
  by_cases h2000 : 2000 < q.size
  · clear hzp hvp hzb hvb hyp hup hyb hub
    go_enter Try.func6, Try.ntmps6
    go_wp2_with fail
    refine (eshown_any _).mono ?_
    rintro e w1 ⟨rfl, hb1⟩
    go_wp2
    go_ret
    exact ⟨rfl, hb1⟩
  have HEX := hide (fun wx (hb : Below w.heap.size w wx) => entryOf_any a0 cap0 zl t a2 cap2 vs wx (hzp.below hb) hzb (by omega) (hvp.below hb) hvl hvb)
  have HEY := hide (fun wx (hb : Below w.heap.size w wx) => entryOf_any a1 cap1 zm t a3 cap3 us wx (hyp.below hb) hyb (by omega) (hup.below hb) hul hub)
  have HRX := hide (labs_right zl)
  have HRY := hide (labs_right zm)
  have HOX := hide (smps_ok t hvb)
  have HOY := hide (smps_ok t hub)
  have HCX := hide (smps_check t vs)
  have HCY := hide (smps_check t us)
  have hsl := smps_len t vs
  have hul2 := smps_len t us
  clear hzp hvp hzb hvb hyp hup hyb hub
  generalize labs zl = l at *
  generalize labs zm = m at *
  generalize smps t vs = s at *
  generalize smps t us = r at *
  have HSX : Hid (EntSm l s) := hide (entSm_of HRX.out (by omega) HOX.out)
  have HSY : Hid (EntSm m r) := hide (entSm_of HRY.out (by omega) HOY.out)
  go_enter Try.func6, Try.ntmps6
  go_wp2_with fail
  refine (eshown_any _).mono ?_
  rintro e w1 ⟨rfl, hb1⟩
  go_wp2_with fail
  refine (HEX.out _ hb1).mono ?_
  rintro e w2 ⟨a, ca, b, cb, rfl, hE, hb2⟩
  have HE := hide hE
  have HB := hide (bl hb1 hb2)
  clear hb1 hb2 hE
  go_wp2_with fail
  refine (HEY.out _ (bl HB.out (bel_alloc _ _))).mono ?_
  rintro e w3 ⟨c, cc, d, cd, rfl, hF, hb3⟩
  obtain ⟨k0, k1, f0, f1⟩ := two_later hb3
  have hz3 := hb3.size
  simp only [World.size_alloc] at hz3
  have HE := hide (HE.out.below (bel_al hb3))
  have HF := hide hF
  have HB := hide (bl HB.out (bel_al hb3))
  clear hb3 hF
  have HPX := hide (fun wx (hb : Below w3.heap.size w3 wx) => eput_any a ca l b cb s wx (HE.out.below hb) HSX.out)
  have HPY := hide (fun wx (hb : Below w3.heap.size w3 wx) => eput_any c cc m d cd r wx (HF.out.below hb) HSY.out)
  have HKX := hide (fun wx (hb : Below w3.heap.size w3 wx) => ecanon_any a ca l b cb s wx (HE.out.below hb) HRX.out)
  have HKY := hide (fun wx (hb : Below w3.heap.size w3 wx) => ecanon_any c cc m d cd r wx (HF.out.below hb) HRY.out)
  rw [Ent.check_zero.2 ⟨HRX.out, HCX.out⟩, Ent.put_ok HRX.out HCX.out] at HPX
  rw [Ent.check_zero.2 ⟨HRY.out, HCY.out⟩, Ent.put_ok HRY.out HCY.out] at HPY
  have hAB := one_eq HRX.out HRY.out HCX.out HCY.out HOX.out HOY.out
  have hcl : (Lab.canon l).length ≤ 9223372036854775807 := by rw [Lab.canon_length]; have := HRX.out.1; omega
  have hcm : (Lab.canon m).length ≤ 9223372036854775807 := by rw [Lab.canon_length]; have := HRY.out.1; omega
  generalize Num.bs (Lab.putL (Lab.canon l) ++ Smp.putS s) = A at *
  generalize Num.bs (Lab.putL (Lab.canon m) ++ Smp.putS r) = B at *
  have k0' := fun o => cell_alloc k0 o
  have k1' := fun o => cell_alloc k1 o
  go_wp2_with fail
  refine (HPX.out _ (bel_alloc _ _)).mono ?_
  rintro e w4 ⟨rfl, hb4⟩
  obtain ⟨g0, g1, f2, f3⟩ := two_later hb4
  obtain ⟨k0, k1, f0, f1⟩ := cells_keep (by omega) k0 k1 f0 f1 (bel_al hb4)
  have hz4 := hb4.size
  simp only [World.size_alloc] at hz4
  have HB4 := hide (bel_al hb4)
  clear hb4 k0' k1'
  go_wp2_with fail
  refine (HPY.out _ HB4.out).mono ?_
  rintro e w5 ⟨rfl, hb5⟩
  obtain ⟨g0, g1, f2, f3⟩ := cells_keep (by omega) g0 g1 f2 f3 hb5
  obtain ⟨k0, k1, f0, f1⟩ := cells_keep (by omega) k0 k1 f0 f1 hb5
  have hz5 := hb5.size
  have HB5 := hide (bl HB4.out hb5)
  clear hb5 HB4
  have HSM := hide (fun wx a' ca' c' cc' (h : EntIn wx a' ca' (Lab.canon l) b cb s) (k : EntIn wx c' cc' (Lab.canon m) d cd r) => esame_any a' ca' (Lab.canon l) b cb s c' cc' (Lab.canon m) d cd r wx h k hcl hcm HSX.out.2.1 HSY.out.2.1)
  generalize (decide (Lab.canon l = Lab.canon m) && decide (s = r)) = D at *
  go_wp2_with fail
  refine wp_region_grow w5.heap.size [([0, 1, 2, 3, 4, 5, 6, 7, 8, 9, 10, 12], 11), ([], 13), ([], 14)] [15, 16] [] (by kernel_rfl) (by kernel_rfl) (by kernel_rfl) (by kernel_rfl) ?_
  intro w6 hb6
  simp only [stagesOf, getL, pickL]
  obtain ⟨g0, g1, f2, f3⟩ := cells_keep (by omega) g0 g1 f2 f3 hb6
  obtain ⟨k0, k1, f0, f1⟩ := cells_keep (by omega) k0 k1 f0 f1 hb6
  have HB6 := hide (bl HB5.out hb6)
  have hz6 := hb6.size
  have hq1 : w2.heap.size < w5.heap.size := by omega
  have hq2 : w3.heap.size < w5.heap.size := by omega
  clear hb6
  have inh : Nonempty (Gr w5.heap.size w6) := Gr.some _ w6
  have x0 : ∀ x : Gr w5.heap.size w6, x.w.cell? _ = _ := fun x => x.cell hq1 k0
  have x1 : ∀ x : Gr w5.heap.size w6, x.w.cell? _ = _ := fun x => x.cell hq1 k1
  have x2 : ∀ x : Gr w5.heap.size w6, x.w.cell? _ = _ := fun x => x.cell hq2 g0
  have x3 : ∀ x : Gr w5.heap.size w6, x.w.cell? _ = _ := fun x => x.cell hq2 g1
  refine wpG_stage ?_
  repeat (go_big_quiet_step (fail))
  refine wpQuiet_nil ?_
  go_wp2_with fail
  refine (HKX.out _ HB6.out).mono ?_
  rintro e w7 ⟨xa, xc, rfl, hE7, hb7⟩
  clear x0 x1 x2 x3 inh
  have hz7 := hb7.size
  go_wp2
  refine OnTo.mk (hb7.mono hz6) (Nat.le_refl _) ?_
  have HB7 := hide (bl HB6.out hb7)
  have inh : Nonempty (Gr w5.heap.size w7) := Gr.some _ w7
  refine wpG_stage ?_
  repeat (go_big_quiet_step (fail))
  refine wpQuiet_nil ?_
  go_wp2_with fail
  refine (HKY.out _ HB7.out).mono ?_
  rintro e w8 ⟨ya, yc, rfl, hE8, hb8⟩
  clear inh
  have hz8 := hb8.size
  go_wp2
  refine OnTo.mk (hb8.mono (Nat.le_trans hz6 hz7)) (Nat.le_refl _) ?_
  have HB8 := hide (bl HB7.out hb8)
  have hE7 := hE7.below hb8
  refine wpG_stage ?_
  repeat (go_big_quiet_step (fail))
  refine wpQuiet_nil ?_
  go_wp2_with fail
  refine (HSM.out _ _ _ _ _ hE7 hE8).mono ?_
  rintro e w9 ⟨rfl, hb9⟩
  go_wp2
  refine OnTo.mk (hb9.mono (Nat.le_trans (Nat.le_trans hz6 hz7) hz8)) (Nat.le_refl _) ?_
  have HB9 := hide (bl (bl HB.out HB8.out) hb9)
  have inh : Nonempty (Gr w5.heap.size w9) := Gr.some _ w9
  refine wpG_last ?_
  repeat (go_big_quiet_step (fail))
  refine wpQuiet_nil ?_
  clear g0 g1 f2 f3 k0 k1 f0 f1 hE7 hE8 hb7 hb8 hb9 inh HB8 HB7 HB6 HB5 HSM HKX HKY HPX HPY hAB
  cases hT : Ent.take q.data.toList with
  | none =>
    have HTN := hide (fun wx => etake_any q wx (by omega))
    have hR : eRes q.data.toList = (([], []), 2) := by unfold eRes; rw [hT]
    go_wp2_with fail
    refine (HTN.out _).mono ?_
    rintro e wa ⟨⟨za, zc, zb, zd, he, hZ⟩, hba⟩
    rw [hR] at he hZ
    subst he
    have HY := hide (fun wx (hb : Below wa.heap.size wa wx) => esame_yes za zc [] zb zd [] none 0 none 0 wx (Nat.zero_le _) (Nat.zero_le _) (hZ.below hb) ⟨PairsAt.nil _ _, Nat.le_refl _, SmpsAt.nil _ _, Nat.le_refl _⟩)
    have HBa := hide (bl HB9.out hba)
    clear hZ hba hR hT
    go_wp2_with fail
    refine (HY.out _ (bel_alloc _ _)).mono ?_
    rintro e wb ⟨rfl, hbb⟩
    have hbz := bl (bl HBa.out (bel_alloc _ _)) hbb
    go_wp2
    go_ret
    exact ⟨rfl, hbz⟩
  | some p =>
    obtain ⟨pl, ps⟩ := p
    obtain ⟨hP1, hP2, hP3⟩ := put_back hT
    have HTS := hide (fun wx => etake_some hT wx (by omega))
    go_wp2_with fail
    refine (HTS.out _).mono ?_
    rintro e wa ⟨za, zc, zb, zd, rfl, hZ, hba⟩
    have HPZ := hide (fun wx (hb : Below wa.heap.size wa wx) => eput_any za zc pl zb zd ps wx (hZ.below hb) hP3)
    rw [hP1, hP2] at HPZ
    have HBa := hide (bl HB9.out hba)
    clear hZ hba hT hP1 hP2 hP3
    go_wp2_with fail
    refine (HPZ.out _ (bel_alloc _ _)).mono ?_
    rintro e wb ⟨rfl, hbb⟩
    have hbz := bl (bl HBa.out (bel_alloc _ _)) hbb
    go_wp2
    go_ret
    exact ⟨rfl, hbz⟩

end Go.Proofs.Ytbjcphefaciihaa
