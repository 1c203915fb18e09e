/-
  The walk of EntryBack.
-/
import Derived.Test.YtbjcphefaciihaaRefEntW
import Derived.Test.YtbjcphefaciihaaEntOfW
import Derived.Test.YtbjcphefaciihaaGrow
namespace Go.Proofs.Ytbjcphefaciihaa
open Go.RowKit
open Lab (Pr)
open Smp (Sm)

theorem pb_less : ∀ l : List Pr, (∀ p ∈ l, p.1.size ≤ 20 ∧ p.2.size ≤ 40) → (Lab.pb l).length ≤ 80 * l.length
  | [], _ => by simp [Lab.pb]
  | p :: r, h => by
    have h1 := h p (List.mem_cons_self ..)
    have h2 := pb_less r (fun q hq => h q (List.mem_cons_of_mem _ hq))
    have h3 := Lab.txt_len (s := p.1) (by omega)
    have h4 := Lab.txt_len (s := p.2) (by omega)
    simp only [Lab.pb, List.length_append, List.length_cons]
    omega
theorem putL_less {l : List Pr} (h : Lab.Right l) : (Lab.putL l).length ≤ 650 := by
  have h1 := pb_less l (fun p hp => by have := h.2.1 p hp; have := Lab.isName_true this.1; omega)
  have h2 := h.1
  have h3 : (Num.put l.length).length ≤ 10 := Num.put_len10 (by omega)
  simp only [Lab.putL, List.length_append]
  omega
theorem ent_len {l : List Pr} {s : List Sm} (h : Lab.Right l) (k : Smp.check s = 0) (ho : ∀ x ∈ s, Smp.Ok x) : (Lab.putL (Lab.canon l) ++ Smp.putS s).length ≤ 1150 := by
  have h1 := putL_less (Lab.canon_right h)
  have h2 := Smp.putS_len k ho
  simp only [List.length_append]; omega
theorem ent_pos (l : List Pr) (s : List Sm) : 0 < (Lab.putL l ++ Smp.putS s).length := by
  have : 0 < (Num.put l.length).length := Num.put_pos _
  simp only [Lab.putL, List.length_append]; omega

set_option maxRecDepth 100000 in
set_option maxHeartbeats 3200000 in
theorem walkEntryBack (a0 : Option Addr) (len0 cap0 : Nat) (z0 : List Int) (t : Int) (a2 : Option Addr) (len2 cap2 : Nat) (z2 : List Int) (more : ByteArray) (cut : Int) (w : World) (h0 : IsRow .i64 w a0 len0 cap0 z0) (ht : 0 ≤ t ∧ t ≤ 18446744073709551615) (h2 : IsRow .i64 w a2 len2 cap2 z2) (hmm : more.size ≤ maxLen) (hc : -9223372036854775808 ≤ cut ∧ cut ≤ 9223372036854775807) :
    Calls Try.prog 5 #[.slice a0 len0 cap0, .int .u64 t, .slice a2 len2 cap2, .string more, .int .i64 cut] w fun e w' => e = .returned (.bool true) ∧ Below w.heap.size w w' := by
  obtain ⟨zs, rfl, hzl, hzp, hzw⟩ := isRow_nums h0
  obtain ⟨vs, rfl, hvl, hvp, hvw⟩ := isRow_nums h2
  clear h0 h2
  have hzb : ∀ z ∈ zs, -9223372036854775808 ≤ z ∧ z ≤ 9223372036854775807 := fun z h => bounds_i64 (hzw z h)
  have hvb : ∀ z ∈ vs, -9223372036854775808 ≤ z ∧ z ≤ 9223372036854775807 := fun z h => bounds_i64 (hvw z h)
  clear hzw hvw
  have hmm' : more.size ≤ 9223372036854775807 := hmm
  by_cases h1000 : 1000 < more.size
  · clear hzp hvp hzb hvb
    go_enter Try.func5, Try.ntmps5
    go_wp2_with fail
    refine (eshown_any _).mono ?_
    rintro e w1 ⟨rfl, hb1⟩
    go_wp2
    go_ret
    exact ⟨rfl, hb1⟩
  have HEO := hide (fun wx (hb : Below w.heap.size w wx) => entryOf_any a0 cap0 zs t a2 cap2 vs wx (hzp.below hb) hzb (by omega) (hvp.below hb) hvl hvb)
  have HLR := hide (labs_right zs)
  have HSO := hide (smps_ok t hvb)
  have HSC := hide (smps_check t vs)
  have hsl := smps_len t vs
  clear hzp hvp hzb hvb
  generalize labs zs = l at *
  generalize smps t vs = s at *
  have HSM : Hid (EntSm l s) := hide ⟨⟨by have := HLR.out.1; omega, fun p hp => by have := HLR.out.2.1 p hp; have := Lab.isName_true this.1; omega⟩, by omega, HSO.out⟩
  go_enter Try.func5, Try.ntmps5
  go_wp2_with fail
  refine (eshown_any _).mono ?_
  rintro e w1 ⟨rfl, hb1⟩
  go_wp2_with fail
  refine (HEO.out _ hb1).mono ?_
  rintro e w2 ⟨a, ca, b, cb, rfl, hE, hb2⟩
  have HE := hide hE
  have HB := hide (bl hb1 hb2)
  clear hb1 hb2 hE
  have hsz := ent_len HLR.out HSC.out HSO.out
  have hps := ent_pos (Lab.canon l) s
  have HPU := hide (fun wx (hb : Below w2.heap.size w2 wx) => eput_any a ca l b cb s wx (HE.out.below hb) HSM.out)
  have HCK := hide (fun wx (hb : Below w2.heap.size w2 wx) => echeck_any a ca l b cb s wx (HE.out.below hb) HSM.out)
  have HCA := hide (fun wx (hb : Below w2.heap.size w2 wx) => ecanon_any a ca l b cb s wx (HE.out.below hb) HLR.out)
  rw [Ent.check_zero.2 ⟨HLR.out, HSC.out⟩, Ent.put_ok HLR.out HSC.out] at HPU
  rw [Ent.check_zero.2 ⟨HLR.out, HSC.out⟩] at HCK
  have HTK := hide (fun wx (hq : (Num.bs (Lab.putL (Lab.canon l) ++ Smp.putS s)).size ≤ 100000) => etake_some (x := Num.bs (Lab.putL (Lab.canon l) ++ Smp.putS s)) (by rw [Num.bs_toList]; exact Ent.take_put HLR.out HSC.out HSO.out) wx hq)
  have HCU := hide (fun wx k (hk : k < (Num.bs (Lab.putL (Lab.canon l) ++ Smp.putS s)).size) (hq : (Num.bs (Lab.putL (Lab.canon l) ++ Smp.putS s)).size ≤ 100000) => etake_no (x := (Num.bs (Lab.putL (Lab.canon l) ++ Smp.putS s)).extract 0 k) (by
    rw [Num.bs_size] at hk
    have : ((Num.bs (Lab.putL (Lab.canon l) ++ Smp.putS s)).extract 0 k).data.toList = (Lab.putL (Lab.canon l) ++ Smp.putS s).take k := by simp [Num.bs]
    rw [this]; exact Ent.take_cut HLR.out HSC.out HSO.out hk) wx (by simp; omega))
  have HM1 := hide (fun wx (hm : more.data.toList ≠ []) (hq : (Num.bs (Lab.putL (Lab.canon l) ++ Smp.putS s)).size ≤ 100000 - 1000) => etake_no (x := Num.bs (Lab.putL (Lab.canon l) ++ Smp.putS s) ++ more) (by
    have : (Num.bs (Lab.putL (Lab.canon l) ++ Smp.putS s) ++ more).data.toList = (Lab.putL (Lab.canon l) ++ Smp.putS s) ++ more.data.toList := by simp [Num.bs]
    rw [this]; exact Ent.take_more HLR.out HSC.out HSO.out hm) wx (by simp; omega))
  have hS1 : (Num.bs (Lab.putL (Lab.canon l) ++ Smp.putS s)).size ≤ 1150 := by rw [Num.bs_size]; exact hsz
  have hS2 : 0 < (Num.bs (Lab.putL (Lab.canon l) ++ Smp.putS s)).size := by rw [Num.bs_size]; exact hps
  have hcl : (Lab.canon l).length ≤ 9223372036854775807 := by rw [Lab.canon_length]; have := HLR.out.1; omega
  clear hsz hps
  generalize Num.bs (Lab.putL (Lab.canon l) ++ Smp.putS s) = S at *
  go_wp2_with fail
  refine (HPU.out _ (bel_alloc _ _)).mono ?_
  rintro e w3 ⟨rfl, hb3⟩
  obtain ⟨c0, c1, f0, f1⟩ := two_later hb3
  have hz3 := hb3.size
  simp only [World.size_alloc] at hz3
  have HB3 := hide (bel_al hb3)
  clear hb3
  go_wp2_with fail
  refine (HTK.out _ (by omega)).mono ?_
  rintro e w4 ⟨ya, yc, yb, yd, rfl, hY, hb4⟩
  have HY := hide hY
  obtain ⟨c0, c1, f0, f1⟩ := cells_keep (by omega) c0 c1 f0 f1 hb4
  have hz4 := hb4.size
  have HB4 := hide (bl HB3.out hb4)
  clear hb4 hY
  obtain ⟨w5, hw5⟩ : ∃ w5, w4.alloc (Obj.cells #[.slice ya (Lab.canon l).length yc, .slice yb s.length yd] 25) = w5 := ⟨_, rfl⟩
  have hz5 : w5.heap.size = w4.heap.size + 1 := by rw [← hw5]; exact World.size_alloc _ _
  have hb5 : Below w4.heap.size w4 w5 := by rw [← hw5]; exact bel_alloc _ _
  have y0 : w5.cell? ⟨w4.heap.size, 0, none⟩ = some (.slice ya (Lab.canon l).length yc) := by rw [← hw5]; simp
  have y1 : w5.cell? ⟨w4.heap.size, 1, none⟩ = some (.slice yb s.length yd) := by rw [← hw5]; simp
  obtain ⟨c0, c1, f0, f1⟩ := cells_keep (by omega) c0 c1 f0 f1 hb5
  have HB5 := hide (bl HB4.out hb5)
  have HY5 := hide (HY.out.below hb5)
  have hq1 : w4.heap.size < w5.heap.size := by omega
  have hq2 : w2.heap.size < w5.heap.size := by omega
  have hS3 : ((S.size : Int) == 0) = false := beq_eq_false_iff_ne.2 (by omega)
  have hS4 : decide ((2000 : Int) < (S.size : Int)) = false := decide_eq_false (by omega)
  clear hz5 hb5 HY
  go_wp2_with fail
  refine wp_region_grow w5.heap.size [([0, 1, 2, 3, 4, 5, 6, 7], 8), ([9, 10, 11, 12, 13], 14), ([], 15)] [16, 17, 18, 19, 20, 21, 22, 23, 24, 25, 26, 27] [] (by kernel_rfl) (by kernel_rfl) (by kernel_rfl) (by kernel_rfl) ?_
  intro w6 hb6
  simp only [stagesOf, getL, pickL]
  have inh : Nonempty (Gr w5.heap.size w6) := Gr.some _ w6
  obtain ⟨c0, c1, f0, f1⟩ := cells_keep hq2 c0 c1 f0 f1 hb6
  have x0 : ∀ x : Gr w5.heap.size w6, x.w.cell? _ = _ := fun x => x.cell hq2 c0
  have x1 : ∀ x : Gr w5.heap.size w6, x.w.cell? _ = _ := fun x => x.cell hq2 c1
  refine wpG_stage ?_
  repeat (go_big_quiet_step (fail))
  refine wpQuiet_nil ?_
  go_wp2_with fail
  refine (HCK.out _ (bl HB5.out hb6)).mono ?_
  rintro e w7 ⟨rfl, hb7⟩
  clear x0 x1 inh
  go_wp2
  refine OnTo.mk (hb7.mono hb6.size) (Nat.le_refl _) ?_
  obtain ⟨c0, c1, f0, f1⟩ := cells_keep (Nat.lt_of_lt_of_le hq2 hb6.size) c0 c1 f0 f1 hb7
  have hb7 := bl hb6 hb7
  have y0 := (hb7.cell hq1).trans y0
  have y1 := (hb7.cell hq1).trans y1
  have inh : Nonempty (Gr w5.heap.size w7) := Gr.some _ w7
  have x0 : ∀ x : Gr w5.heap.size w7, x.w.cell? _ = _ := fun x => x.cell hq2 c0
  have x1 : ∀ x : Gr w5.heap.size w7, x.w.cell? _ = _ := fun x => x.cell hq2 c1
  have x2 : ∀ x : Gr w5.heap.size w7, x.w.cell? _ = _ := fun x => x.cell hq1 y0
  have x3 : ∀ x : Gr w5.heap.size w7, x.w.cell? _ = _ := fun x => x.cell hq1 y1
  refine wpG_stage ?_
  repeat (go_big_quiet_step (fail))
  refine wpQuiet_nil ?_
  go_wp2_with fail
  refine (HCA.out _ (bl HB5.out hb7)).mono ?_
  rintro e w8 ⟨xa, xc, rfl, hE8, hb8⟩
  clear x0 x1 x2 x3 inh
  go_wp2
  refine OnTo.mk (hb8.mono hb7.size) (Nat.le_refl _) ?_
  have hb8 := bl hb7 hb8
  refine wpG_stage (wpQuiet_nil ?_)
  go_wp2_with fail
  refine (esame_yes ya yc (Lab.canon l) yb yd s xa xc b cb _ hcl HSM.out.2.1 (HY5.out.below hb8) hE8).mono ?_
  rintro e w9 ⟨rfl, hb9⟩
  go_wp2
  refine OnTo.mk (hb9.mono hb8.size) (Nat.le_refl _) ?_
  have hb9 := bl hb8 hb9
  have inh : Nonempty (Gr w5.heap.size w9) := Gr.some _ w9
  refine wpG_last ?_
  repeat (go_big_quiet_step (fail))
  refine wpQuiet_nil ?_
  have hb9 := bl (bl HB.out HB5.out) hb9
  clear c0 c1 y0 y1 f0 f1 hb6 hb7 hb8 inh hE8
  have hpk := pk_lt cut hS2
  have hpi : ((pk cut S.size : Nat) : Int) ≤ (S.size : Int) := by omega
  go_wp2_with fail
  refine (pick_any cut S.size _ hc.1 hc.2 hS2 (by omega)).mono ?_
  rintro e wa ⟨rfl, hwa⟩
  rw [hwa]
  clear hwa
  have HC9 := hide (fun wx => HCU.out wx _ hpk (by omega))
  generalize pk cut S.size = K at *
  go_wp2_with fail
  refine (HC9.out _).mono ?_
  rintro e wb ⟨ga, gc, gb, gd, rfl, hbb⟩
  have hbb := bl hb9 hbb
  by_cases hmo : more.data.toList = []
  · have hme : more.toList.isEmpty = true := by rw [ByteArray.toList_eq, hmo]; rfl
    have hSM : S ++ more = S := by
      apply ByteArray.ext; apply Array.ext'; simp [hmo]
    have HT9 := HTK
    rw [← hSM] at HT9
    clear hSM
    have hSM2 : (S ++ more).size ≤ 100000 := by simp; omega
    go_wp2_with fail
    refine (HT9.out _ hSM2).mono ?_
    rintro e wd ⟨ha, hc, hb, hd, rfl, _, hbd⟩
    have hbd := bl (bl hbb (bel_alloc _ _)) hbd
    go_wp2
    go_ret
    exact ⟨rfl, hbd.alloc hbd.size _⟩
  · have hme : more.toList.isEmpty = false := by rw [ByteArray.toList_eq]; simpa using hmo
    go_wp2_with fail
    refine (HM1.out _ hmo (by omega)).mono ?_
    rintro e wd ⟨ha, hc, hb, hd, rfl, hbd⟩
    have hbd := bl (bl hbb (bel_alloc _ _)) hbd
    go_wp2
    go_ret
    exact ⟨rfl, hbd.alloc hbd.size _⟩

end Go.Proofs.Ytbjcphefaciihaa
