/-
  The walk of EntryParts.
-/
import Derived.Test.YtbjcphefaciihaaRefEntW
import Derived.Test.YtbjcphefaciihaaEntOfW
import Derived.Test.YtbjcphefaciihaaOnlyW
import Derived.Test.YtbjcphefaciihaaSmpAppW
import Derived.Test.YtbjcphefaciihaaSmpCutM
import Derived.Test.YtbjcphefaciihaaGrow
namespace Go.Proofs.Ytbjcphefaciihaa
open Go.RowKit
open Lab (Pr)
open Smp (Sm)

def isB (P : List Sm) : Bool := !P.isEmpty
theorem isB_len (P : List Sm) : decide ((0 : Int) < (P.length : Int)) = isB P := by
  cases P with
  | nil => rfl
  | cons x r => simp [isB]
theorem mat_nil (l : List Pr) : mat [] l = true := rfl
/-- Asked without matchers: the samples between, and whether there are some. -/
theorem only_plain (a : Option Addr) (ca : Nat) (l : List Pr) (b : Option Addr) (cb : Nat) (s : List Sm) (f t : Int) (w : World) (hp : EntIn w a ca l b cb s) (hr : Lab.Right l) (hc : Smp.check s = 0) (ho : ∀ x ∈ s, Smp.Ok x) :
    Calls Try.prog 21 #[.agg #[.slice a l.length ca, .slice b s.length cb], .slice none 0 0, .int .u64 f, .int .u64 t] w fun e w' => ∃ a' n' ca' b' cb', e = .returned (.tuple #[.agg #[.slice a' n' ca', .slice b' (Smp.between s f t).length cb'], .bool (isB (Smp.between s f t))]) ∧ SmpsAt w' b' (Smp.between s f t) ∧ (b' = none → cb' = 0) ∧ Below w.heap.size w w' := by
  have h20 := (Smp.of_check hc).2.1
  refine (only_any a ca l b cb s none 0 [] f t w hp (entSm_of hr (by omega) ho) (MatsAt.nil _ _) (Nat.zero_le _) (by omega)).mono fun e w' ⟨h, hb⟩ => ?_
  obtain ⟨a', ca', b', cb', he, hE, hn⟩ := h
  by_cases hP : Smp.between s f t = []
  · rw [oRes_no (fun x => x.2.2 hP)] at he hE
    rw [hP]
    exact ⟨a', _, ca', b', cb', he, hE.2.2.1, hn, hb⟩
  · rw [oRes_yes (Ent.check_zero.2 ⟨hr, hc⟩) (mat_nil l) hP] at he hE
    refine ⟨a', (Lab.canon l).length, ca', b', cb', ?_, hE.2.2.1, hn, hb⟩
    rw [he]
    cases hQ : Smp.between s f t with
    | nil => exact absurd hQ hP
    | cons x r => rfl
/-- Asked for all. -/
theorem only_whole (a : Option Addr) (ca : Nat) (l : List Pr) (b : Option Addr) (cb : Nat) (s : List Sm) (w : World) (hp : EntIn w a ca l b cb s) (hr : Lab.Right l) (hc : Smp.check s = 0) (ho : ∀ x ∈ s, Smp.Ok x) :
    Calls Try.prog 21 #[.agg #[.slice a l.length ca, .slice b s.length cb], .slice none 0 0, .int .u64 0, .int .u64 18446744073709551615] w fun e w' => ∃ a' ca' b' cb', e = .returned (.tuple #[.agg #[.slice a' (Lab.canon l).length ca', .slice b' s.length cb'], .bool true]) ∧ EntIn w' a' ca' (Lab.canon l) b' cb' s ∧ Below w.heap.size w w' := by
  have h20 := Smp.of_check hc
  refine (only_any a ca l b cb s none 0 [] 0 18446744073709551615 w hp (entSm_of hr (by omega) ho) (MatsAt.nil _ _) (Nat.zero_le _) (by omega)).mono fun e w' ⟨h, hb⟩ => ?_
  obtain ⟨a', ca', b', cb', he, hE, hn⟩ := h
  have hA := bet_all ho
  rw [oRes_yes (Ent.check_zero.2 ⟨hr, hc⟩) (mat_nil l) (by rw [hA]; intro h; rw [h] at h20; simp at h20), hA] at he hE
  exact ⟨a', ca', b', cb', he, hE, hb⟩
/-- Asked of a label that is not there. -/
theorem only_none (a : Option Addr) (ca : Nat) (l : List Pr) (b : Option Addr) (cb : Nat) (s : List Sm) (q : Nat) (f t : Int) (w : World) (hp : EntIn w a ca l b cb s) (hr : Lab.Right l) (hc : Smp.check s = 0) (ho : ∀ x ∈ s, Smp.Ok x)
    (hv : Lab.value l ⟨#[110, 111, 110, 101]⟩ = ⟨#[]⟩) (h0 : w.cell? ⟨q, 0, none⟩ = some (.string ⟨#[110, 111, 110, 101]⟩)) (h1 : w.cell? ⟨q, 1, none⟩ = some (.string ⟨#[120]⟩)) (h2 : w.cell? ⟨q, 2, none⟩ = some (.bool false)) :
    Calls Try.prog 21 #[.agg #[.slice a l.length ca, .slice b s.length cb], .slice (some ⟨q, 0, none⟩) 1 1, .int .u64 f, .int .u64 t] w fun e w' => ∃ a' ca' b' cb', e = .returned (.tuple #[.agg #[.slice a' 0 ca', .slice b' 0 cb'], .bool false]) ∧ Below w.heap.size w w' := by
  have h20 := Smp.of_check hc
  have hm : MatsAt w (some ⟨q, 0, none⟩) [(⟨#[110, 111, 110, 101]⟩, ⟨#[120]⟩, false)] := by
    intro i hi
    refine ⟨q, 0, rfl, World.block_lt_of_cell? w ⟨q, 0, none⟩ h0, fun j hj => ?_⟩
    match j, hj with
    | 0, _ => exact ⟨h0, h1, h2⟩
  refine (only_any a ca l b cb s (some ⟨q, 0, none⟩) 1 [(⟨#[110, 111, 110, 101]⟩, ⟨#[120]⟩, false)] f t w hp (entSm_of hr (by omega) ho) hm (by decide) (by omega)).mono fun e w' ⟨h, hb⟩ => ?_
  obtain ⟨a', ca', b', cb', he, hE, hn⟩ := h
  rw [oRes_no (fun x => by
    have := x.2.1
    unfold mat holds1 at this
    simp only [List.all_cons, List.all_nil, Bool.and_true, hv] at this
    rw [Lab.eqB] at this
    simp at this)] at he hE
  exact ⟨a', ca', b', cb', he, hb⟩
theorem labs_none (zs : List Int) : Lab.value (labs zs) ⟨#[110, 111, 110, 101]⟩ = ⟨#[]⟩ := by
  refine Lab.value_none fun p hp => ?_
  obtain ⟨i, hi, h⟩ := labs_names zs p hp
  rw [h]
  have : ∀ i, i < 8 → (nm8 i).data.toList ≠ [110, 111, 110, 101] := by decide
  intro e
  exact this i hi (by rw [e])

set_option maxRecDepth 100000 in
set_option maxHeartbeats 3200000 in
theorem walkEntryParts (a0 : Option Addr) (len0 cap0 : Nat) (z0 : List Int) (t : Int) (a2 : Option Addr) (len2 cap2 : Nat) (z2 : List Int) (u : Int) (w : World) (h0 : IsRow .i64 w a0 len0 cap0 z0) (ht : 0 ≤ t ∧ t ≤ 18446744073709551615) (h2 : IsRow .i64 w a2 len2 cap2 z2) (hu : 0 ≤ u ∧ u ≤ 18446744073709551615) :
    Calls Try.prog 8 #[.slice a0 len0 cap0, .int .u64 t, .slice a2 len2 cap2, .int .u64 u] w fun e w' => e = .returned (.bool true) ∧ Below w.heap.size w w' := by
  obtain ⟨zs, rfl, hzl, hzp, hzw⟩ := isRow_nums h0
  obtain ⟨vs, rfl, hvl, hvp, hvw⟩ := isRow_nums h2
  clear h0 h2
  have hzb : ∀ z ∈ zs, -9223372036854775808 ≤ z ∧ z ≤ 9223372036854775807 := fun z h => bounds_i64 (hzw z h)
  have hvb : ∀ z ∈ vs, -9223372036854775808 ≤ z ∧ z ≤ 9223372036854775807 := fun z h => bounds_i64 (hvw z h)
  clear hzw hvw
  by_cases hu0 : u = 0
  · subst hu0
    clear hzp hvp hzb hvb
    go_enter Try.func8, Try.ntmps8
    go_wp2_with fail
    refine (eshown_any _).mono ?_
    rintro e w1 ⟨rfl, hb1⟩
    go_wp2
    go_ret
    exact ⟨rfl, hb1⟩
  have hu1 : (u == 0) = false := beq_eq_false_iff_ne.2 hu0
  have hw1 : IntKind.u64.wrap (u - 1) = u - 1 := by rw [IntKind.wrap_u64]; omega
  have HEO := hide (fun wx (hb : Below w.heap.size w wx) => entryOf_any a0 cap0 zs t a2 cap2 vs wx (hzp.below hb) hzb (by omega) (hvp.below hb) hvl hvb)
  have HLR := hide (labs_right zs)
  have HLN := hide (labs_none zs)
  have HSO := hide (smps_ok t hvb)
  have HSC := hide (smps_check t vs)
  have hsl := smps_len t vs
  clear hzp hvp hzb hvb
  generalize labs zs = l at *
  generalize smps t vs = s at *
  have HCU := hide (bet_cut s u (Smp.of_check HSC.out).2.2 HSO.out)
  go_enter Try.func8, Try.ntmps8
  go_wp2_with fail
  refine (eshown_any _).mono ?_
  rintro e w1 ⟨rfl, hb1⟩
  go_wp2_with fail
  refine (HEO.out _ hb1).mono ?_
  rintro e w2 ⟨a, ca, b, cb, rfl, hE, hb2⟩
  have HB := hide (bl hb1 hb2)
  have HE := hide hE
  clear hb1 hb2 hE
  have HO1 := hide (fun wx f g (hb : Below w2.heap.size w2 wx) => only_plain a ca l b cb s f g wx (HE.out.below hb) HLR.out HSC.out HSO.out)
  have HO2 := hide (fun wx (hb : Below w2.heap.size w2 wx) => only_whole a ca l b cb s wx (HE.out.below hb) HLR.out HSC.out HSO.out)
  have HO3 := hide (fun wx q f g (hb : Below w2.heap.size w2 wx) => only_none a ca l b cb s q f g wx (HE.out.below hb) HLR.out HSC.out HSO.out HLN.out)
  have HCA := hide (fun wx (hb : Below w2.heap.size w2 wx) => ecanon_any a ca l b cb s wx (HE.out.below hb) HLR.out)
  have HSS := hide (HE.out.2.2.1)
  go_wp2_with fail
  refine (HO1.out _ 0 (u - 1) (bel_alloc _ _)).mono ?_
  rintro e w3 ⟨pa, pn, pc, pb, pd, rfl, hP, hPn, hb3⟩
  obtain ⟨c0, c1, f0, f1⟩ := two_later hb3
  have hz3 := hb3.size
  simp only [World.size_alloc] at hz3
  have HB3 := hide (bel_al hb3)
  have HP := hide hP
  clear hb3 hP
  have hBP := isB_len (Smp.between s 0 (u - 1))
  have hLP := bet_len s 0 (u - 1)
  have hLQ := bet_len s u 18446744073709551615
  have hBQ := isB_len (Smp.between s u 18446744073709551615)
  have HO1b := hide (fun wx (hb : Below w2.heap.size w2 wx) => HO1.out wx u 18446744073709551615 hb)
  have s20 := (Smp.of_check HSC.out).2.1
  have s0 := (Smp.of_check HSC.out).1
  have HOT : Hid ((isB (Smp.between s 0 (u - 1)) || isB (Smp.between s u 18446744073709551615)) = true) := hide (by
    have h1 := congrArg List.length HCU.out
    rw [List.length_append] at h1
    rw [← hBP, ← hBQ, Bool.or_eq_true, decide_eq_true_eq, decide_eq_true_eq]
    omega)
  clear HO1
  generalize Smp.between s 0 (u - 1) = P at *
  generalize Smp.between s u 18446744073709551615 = Q at *
  generalize isB P = OP at *
  generalize isB Q = OQ at *
  obtain ⟨w4, hw4⟩ : ∃ w4, w3.alloc (Obj.cells #[.slice pa pn pc, .slice pb P.length pd] 25) = w4 := ⟨_, rfl⟩
  obtain ⟨p0, p1, pf0, pf1, hz4, hb4⟩ := new_two hw4
  obtain ⟨c0, c1, f0, f1⟩ := cells_keep (by omega) c0 c1 f0 f1 hb4
  have HP := hide (HP.out.below hb4)
  have HB4 := hide (bl HB3.out hb4)
  clear hb4
  go_wp2_with fail
  refine (HO1b.out _ HB4.out).mono ?_
  rintro e w5 ⟨qa, qn, qc, qb, qd, rfl, hQ, hQn, hb5⟩
  obtain ⟨c0, c1, f0, f1⟩ := cells_keep (by omega) c0 c1 f0 f1 hb5
  obtain ⟨p0, p1, pf0, pf1⟩ := cells_keep (by omega) p0 p1 pf0 pf1 hb5
  have HP := hide (HP.out.below hb5)
  have HQ := hide hQ
  have hz5 := hb5.size
  have HB5 := hide (bl HB4.out hb5)
  clear hb5 hQ hw4
  obtain ⟨w6, hw6⟩ : ∃ w6, w5.alloc (Obj.cells #[.slice qa qn qc, .slice qb Q.length qd] 25) = w6 := ⟨_, rfl⟩
  obtain ⟨q0, q1, qf0, qf1, hz6, hb6⟩ := new_two hw6
  obtain ⟨c0, c1, f0, f1⟩ := cells_keep (by omega) c0 c1 f0 f1 hb6
  obtain ⟨p0, p1, pf0, pf1⟩ := cells_keep (by omega) p0 p1 pf0 pf1 hb6
  have HP := hide (HP.out.below hb6)
  have HQ := hide (HQ.out.below hb6)
  have HB6 := hide (bl HB5.out hb6)
  clear hb6
  go_wp2_with fail
  refine (HO2.out _ HB6.out).mono ?_
  rintro e w7 ⟨xa, xc, xb, xd, rfl, hX, hb7⟩
  obtain ⟨c0, c1, f0, f1⟩ := cells_keep (by omega) c0 c1 f0 f1 hb7
  obtain ⟨p0, p1, pf0, pf1⟩ := cells_keep (by omega) p0 p1 pf0 pf1 hb7
  obtain ⟨q0, q1, qf0, qf1⟩ := cells_keep (by omega) q0 q1 qf0 qf1 hb7
  have HP := hide (HP.out.below hb7)
  have HQ := hide (HQ.out.below hb7)
  have HX := hide hX
  have hz7 := hb7.size
  have HB7 := hide (bl HB6.out hb7)
  clear hb7 hX hw6
  obtain ⟨w8, hw8⟩ : ∃ w8, w7.alloc (Obj.cells #[.slice xa (Lab.canon l).length xc, .slice xb s.length xd] 25) = w8 := ⟨_, rfl⟩
  obtain ⟨x0, x1, xf0, xf1, hz8, hb8⟩ := new_two hw8
  obtain ⟨c0, c1, f0, f1⟩ := cells_keep (by omega) c0 c1 f0 f1 hb8
  obtain ⟨p0, p1, pf0, pf1⟩ := cells_keep (by omega) p0 p1 pf0 pf1 hb8
  obtain ⟨q0, q1, qf0, qf1⟩ := cells_keep (by omega) q0 q1 qf0 qf1 hb8
  have HP := hide (HP.out.below hb8)
  have HQ := hide (HQ.out.below hb8)
  have HX := hide (HX.out.below hb8)
  have HB8 := hide (bl HB7.out hb8)
  clear hb8
  have HO4 := only_whole xa xc (Lab.canon l) xb xd s w8 HX.out (Lab.canon_right HLR.out) HSC.out HSO.out
  rw [Lab.canon_of_rise (Lab.canon_rise HLR.out) (Lab.canon_right HLR.out)] at HO4
  have HO4 := hide HO4
  go_wp2_with fail
  refine HO4.out.mono ?_
  rintro e w9 ⟨ga, gc, gb, gd, rfl, hG, hb9⟩
  obtain ⟨c0, c1, f0, f1⟩ := cells_keep (by omega) c0 c1 f0 f1 hb9
  obtain ⟨p0, p1, pf0, pf1⟩ := cells_keep (by omega) p0 p1 pf0 pf1 hb9
  obtain ⟨q0, q1, qf0, qf1⟩ := cells_keep (by omega) q0 q1 qf0 qf1 hb9
  obtain ⟨x0, x1, xf0, xf1⟩ := cells_keep (by omega) x0 x1 xf0 xf1 hb9
  have HP := hide (HP.out.below hb9)
  have HQ := hide (HQ.out.below hb9)
  have HX := hide (HX.out.below hb9)
  have HG := hide hG
  have hz9 := hb9.size
  have HB9 := hide (bl HB8.out hb9)
  clear hb9 hG hw8 HO4
  obtain ⟨wa, hwa⟩ : ∃ wa, w9.alloc (Obj.cells #[.slice ga (Lab.canon l).length gc, .slice gb s.length gd] 25) = wa := ⟨_, rfl⟩
  obtain ⟨g0, g1, gf0, gf1, hza, hba⟩ := new_two hwa
  obtain ⟨c0, c1, f0, f1⟩ := cells_keep (by omega) c0 c1 f0 f1 hba
  obtain ⟨p0, p1, pf0, pf1⟩ := cells_keep (by omega) p0 p1 pf0 pf1 hba
  obtain ⟨q0, q1, qf0, qf1⟩ := cells_keep (by omega) q0 q1 qf0 qf1 hba
  obtain ⟨x0, x1, xf0, xf1⟩ := cells_keep (by omega) x0 x1 xf0 xf1 hba
  have HP := hide (HP.out.below hba)
  have HQ := hide (HQ.out.below hba)
  have HX := hide (HX.out.below hba)
  have HG := hide (HG.out.below hba)
  have HBa := hide (bl HB9.out hba)
  clear hba
  go_wp2_with fail
  refine (HO3.out _ wa.heap.size 0 18446744073709551615 (bl HBa.out (bel_alloc _ _)) ?d1 ?d2 ?d3).mono ?_
  case d1 => simp
  case d2 => simp
  case d3 => simp
  rintro e wb ⟨na, nc, nb, nd, rfl, hbb⟩
  have hbb := bl (bel_alloc wa _) hbb
  obtain ⟨c0, c1, f0, f1⟩ := cells_keep (by omega) c0 c1 f0 f1 hbb
  obtain ⟨p0, p1, pf0, pf1⟩ := cells_keep (by omega) p0 p1 pf0 pf1 hbb
  obtain ⟨q0, q1, qf0, qf1⟩ := cells_keep (by omega) q0 q1 qf0 qf1 hbb
  obtain ⟨x0, x1, xf0, xf1⟩ := cells_keep (by omega) x0 x1 xf0 xf1 hbb
  obtain ⟨g0, g1, gf0, gf1⟩ := cells_keep (by omega) g0 g1 gf0 gf1 hbb
  have HP := hide (HP.out.below hbb)
  have HQ := hide (HQ.out.below hbb)
  have HX := hide (HX.out.below hbb)
  have HG := hide (HG.out.below hbb)
  have hzb := hbb.size
  have HBb := hide (bl HBa.out hbb)
  clear hbb hwa
  obtain ⟨wc, hwc⟩ : ∃ wc, wb.alloc (Obj.cells #[.slice na 0 nc, .slice nb 0 nd] 25) = wc := ⟨_, rfl⟩
  obtain ⟨_, _, _, _, hzc, hbc⟩ := new_two hwc
  obtain ⟨c0, c1, f0, f1⟩ := cells_keep (by omega) c0 c1 f0 f1 hbc
  obtain ⟨p0, p1, pf0, pf1⟩ := cells_keep (by omega) p0 p1 pf0 pf1 hbc
  obtain ⟨q0, q1, qf0, qf1⟩ := cells_keep (by omega) q0 q1 qf0 qf1 hbc
  obtain ⟨x0, x1, xf0, xf1⟩ := cells_keep (by omega) x0 x1 xf0 xf1 hbc
  obtain ⟨g0, g1, gf0, gf1⟩ := cells_keep (by omega) g0 g1 gf0 gf1 hbc
  have HP := hide (HP.out.below hbc)
  have HQ := hide (HQ.out.below hbc)
  have HX := hide (HX.out.below hbc)
  have HG := hide (HG.out.below hbc)
  have HBc := hide (bl HBb.out hbc)
  clear hbc
  have hq1 : w3.heap.size < wc.heap.size := by omega
  have hq2 : w5.heap.size < wc.heap.size := by omega
  go_wp2_with fail
  refine wp_region_grow wc.heap.size [([1, 2, 4, 5], 0), ([], 3), ([], 6)] [7] [] (by kernel_rfl) (by kernel_rfl) (by kernel_rfl) (by kernel_rfl) ?_
  intro wd hbd
  simp only [stagesOf, getL, pickL]
  have inh : Nonempty (Gr wc.heap.size wd) := Gr.some _ wd
  have y0 : ∀ x : Gr wc.heap.size wd, x.w.cell? _ = _ := fun x => x.cell (a := ⟨w3.heap.size, 1, none⟩) hq1 ((hbd.cell (p := ⟨w3.heap.size, 1, none⟩) hq1).trans p1)
  have y1 : ∀ x : Gr wc.heap.size wd, x.w.cell? _ = _ := fun x => x.cell (a := ⟨w5.heap.size, 1, none⟩) hq2 ((hbd.cell (p := ⟨w5.heap.size, 1, none⟩) hq2).trans q1)
  refine wpG_stage ?_
  repeat (go_big_quiet_step (fail))
  refine wpQuiet_nil ?_
  clear y0 y1 inh
  have hzd := hbd.size
  have hbE := (Below.refl wd.heap.size wd).alloc (Nat.le_refl _) (Obj.cells #[] 67)
  have hownE := owns_empty (B := wd.heap.size) (sheap_new wd (Obj.cells #[] 67)) (Nat.le_refl _)
  go_wp2
  refine OnTo.mk (hbE.mono hzd) (Nat.le_refl _) ?_
  refine wpG_stage (wpQuiet_nil ?_)
  go_wp2_with (at_builtin; refine wpList_apps rfl _ _ rfl wd.heap.size _ [] rfl hownE pb pd P.length P rfl rfl ((HP.out.below hbd).below hbE) hPn ?c1 ?c2 ?_)
  case c1 => simp; omega
  case c2 => simp
  intro v8 wf ho8 hg8
  have hbf := hbE.grown hg8 (by simp) (fun k hk => (World.ownsRow.lt hownE k hk).1)
  have hbf1 := (Below.refl wc.heap.size (wd.alloc (Obj.cells #[] 67))).grown hg8 (by simp; omega) (fun k hk => Nat.le_trans hzd (World.ownsRow.lt hownE k hk).1)
  clear hownE hg8
  go_wp2
  refine OnTo.mk hbf1 (Nat.le_refl _) ?_
  clear hbf1
  refine wpG_stage (wpQuiet_nil ?_)
  go_wp2_with (at_builtin; refine wpList_apps rfl _ _ rfl wd.heap.size _ _ rfl ho8 qb qd Q.length Q rfl rfl ((HQ.out.below hbd).below hbf) hQn ?c1 ?c2 ?_)
  case c1 => omega
  case c2 => exact hbf.size
  intro v9 we ho9 hg9
  have hbe := hbf.grown hg9 hbf.size (fun k hk => (World.ownsRow.lt ho8 k hk).1)
  have hbe1 := (Below.refl wc.heap.size wf).grown hg9 (Nat.le_trans hzd hbf.size) (fun k hk => Nat.le_trans hzd (World.ownsRow.lt ho8 k hk).1)
  clear ho8 hg9 hbf hbE
  go_wp2
  refine OnTo.mk hbe1 (Nat.le_refl _) ?_
  have hbe := bl hbd hbe
  clear hbe1 hbd
  have inh : Nonempty (Gr wc.heap.size we) := Gr.some _ we
  refine wpG_last ?_
  repeat (go_big_quiet_step (fail))
  refine wpQuiet_nil ?_
  clear inh
  rw [HCU.out] at ho9
  obtain ⟨a9, cap9, rfl, _, hs9, _⟩ := ho9.view
  have HS9 := hide hs9
  obtain ⟨c0, c1, f0, f1⟩ := cells_keep (by omega) c0 c1 f0 f1 hbe
  obtain ⟨p0, p1, pf0, pf1⟩ := cells_keep (by omega) p0 p1 pf0 pf1 hbe
  obtain ⟨q0, q1, qf0, qf1⟩ := cells_keep (by omega) q0 q1 qf0 qf1 hbe
  obtain ⟨x0, x1, xf0, xf1⟩ := cells_keep (by omega) x0 x1 xf0 xf1 hbe
  obtain ⟨g0, g1, gf0, gf1⟩ := cells_keep (by omega) g0 g1 gf0 gf1 hbe
  have HP := hide (HP.out.below hbe)
  have HQ := hide (HQ.out.below hbe)
  have HX := hide (HX.out.below hbe)
  have HG := hide (HG.out.below hbe)
  have hze := hbe.size
  have HBe := hide (bl HBc.out hbe)
  clear hbe ho9 hs9
  have HSY := hide (fun wx (hb : Below we.heap.size we wx) => ssame_yes a9 cap9 b cb s wx (by omega) (HS9.out.below hb) ((HSS.out.below HBe.out).below hb))
  have hcl : (Lab.canon l).length ≤ 9223372036854775807 := by rw [Lab.canon_length]; have := HLR.out.1; omega
  have hr2 : w2.heap.size < we.heap.size := by omega
  have hr3 : w3.heap.size < we.heap.size := by omega
  have hr5 : w5.heap.size < we.heap.size := by omega
  have hr7 : w7.heap.size < we.heap.size := by omega
  have hr9 : w9.heap.size < we.heap.size := by omega
  have hBP2 : decide (0 < P.length) = OP := by rw [← hBP]; simp
  have hBQ2 : decide (0 < Q.length) = OQ := by rw [← hBQ]; simp
  go_wp2
  cases OP with
  | true =>
    cases OQ with
    | true =>
      go_wp2_with fail
      refine wp_region_grow we.heap.size [([0, 1, 2, 3, 4, 5, 6, 7, 8, 9, 10, 11, 12, 13, 14, 15, 16], 17), ([], 18), ([19, 20, 21, 22], 23), ([24, 25, 26, 27, 28], 29)] [30, 31, 32, 33, 34, 35, 36, 37, 38, 39, 40, 41, 42, 43, 44, 45, 46, 47] [] (by kernel_rfl) (by kernel_rfl) (by kernel_rfl) (by kernel_rfl) ?_
      intro wf hbf
      simp only [stagesOf, getL, pickL]
      have inh : Nonempty (Gr we.heap.size wf) := Gr.some _ wf
      have y0 : ∀ x : Gr we.heap.size wf, x.w.cell? _ = _ := fun x => x.cell (a := ⟨w7.heap.size, 0, none⟩) hr7 ((hbf.cell (p := ⟨w7.heap.size, 0, none⟩) hr7).trans x0)
      have y1 : ∀ x : Gr we.heap.size wf, x.w.cell? _ = _ := fun x => x.cell (a := ⟨w7.heap.size, 1, none⟩) hr7 ((hbf.cell (p := ⟨w7.heap.size, 1, none⟩) hr7).trans x1)
      have y2 : ∀ x : Gr we.heap.size wf, x.w.cell? _ = _ := fun x => x.cell (a := ⟨w2.heap.size, 0, none⟩) hr2 ((hbf.cell (p := ⟨w2.heap.size, 0, none⟩) hr2).trans c0)
      have y3 : ∀ x : Gr we.heap.size wf, x.w.cell? _ = _ := fun x => x.cell (a := ⟨w2.heap.size, 1, none⟩) hr2 ((hbf.cell (p := ⟨w2.heap.size, 1, none⟩) hr2).trans c1)
      refine wpG_stage ?_
      repeat (go_big_quiet_step (fail))
      refine wpQuiet_nil ?_
      clear y0 y1 y2 y3 inh
      go_wp2_with fail
      refine (HCA.out _ (bl HBe.out hbf)).mono ?_
      rintro e wg ⟨ka, kc, rfl, hK, hbg⟩
      go_wp2
      refine OnTo.mk (hbg.mono hbf.size) (Nat.le_refl _) ?_
      have hbg := bl hbf hbg
      refine wpG_stage (wpQuiet_nil ?_)
      go_wp2_with fail
      refine (esame_yes xa xc (Lab.canon l) xb xd s ka kc b cb _ hcl (by omega) (HX.out.below hbg) hK).mono ?_
      rintro e wh ⟨rfl, hbh⟩
      go_wp2
      refine OnTo.mk (hbh.mono hbg.size) (Nat.le_refl _) ?_
      have hbh := bl hbg hbh
      have inh : Nonempty (Gr we.heap.size wh) := Gr.some _ wh
      have y0 : ∀ x : Gr we.heap.size wh, x.w.cell? _ = _ := fun x => x.cell (a := ⟨w7.heap.size, 0, none⟩) hr7 ((hbh.cell (p := ⟨w7.heap.size, 0, none⟩) hr7).trans x0)
      have y1 : ∀ x : Gr we.heap.size wh, x.w.cell? _ = _ := fun x => x.cell (a := ⟨w7.heap.size, 1, none⟩) hr7 ((hbh.cell (p := ⟨w7.heap.size, 1, none⟩) hr7).trans x1)
      have y2 : ∀ x : Gr we.heap.size wh, x.w.cell? _ = _ := fun x => x.cell (a := ⟨w9.heap.size, 0, none⟩) hr9 ((hbh.cell (p := ⟨w9.heap.size, 0, none⟩) hr9).trans g0)
      have y3 : ∀ x : Gr we.heap.size wh, x.w.cell? _ = _ := fun x => x.cell (a := ⟨w9.heap.size, 1, none⟩) hr9 ((hbh.cell (p := ⟨w9.heap.size, 1, none⟩) hr9).trans g1)
      refine wpG_stage ?_
      repeat (go_big_quiet_step (fail))
      refine wpQuiet_nil ?_
      clear y0 y1 y2 y3 inh
      go_wp2_with fail
      refine (esame_yes ga gc (Lab.canon l) gb gd s xa xc xb xd _ hcl (by omega) (HG.out.below hbh) (HX.out.below hbh)).mono ?_
      rintro e wi ⟨rfl, hbi⟩
      go_wp2
      refine OnTo.mk (hbi.mono hbh.size) (Nat.le_refl _) ?_
      have hbi := bl hbh hbi
      have inh : Nonempty (Gr we.heap.size wi) := Gr.some _ wi
      have y0 : ∀ x : Gr we.heap.size wi, x.w.cell? _ = _ := fun x => x.cell (a := ⟨w2.heap.size, 1, none⟩) hr2 ((hbi.cell (p := ⟨w2.heap.size, 1, none⟩) hr2).trans c1)
      refine wpG_stage ?_
      repeat (go_big_quiet_step (fail))
      refine wpQuiet_nil ?_
      clear y0 inh
      go_wp2_with fail
      refine (HSY.out _ hbi).mono ?_
      rintro e wj ⟨rfl, hbj⟩
      go_wp2
      refine OnTo.mk (hbj.mono hbi.size) (Nat.le_refl _) ?_
      have hbj := bl hbi hbj
      have inh : Nonempty (Gr we.heap.size wj) := Gr.some _ wj
      have y0 : ∀ x : Gr we.heap.size wj, x.w.cell? _ = _ := fun x => x.cell (a := ⟨w3.heap.size, 1, none⟩) hr3 ((hbj.cell (p := ⟨w3.heap.size, 1, none⟩) hr3).trans p1)
      have y1 : ∀ x : Gr we.heap.size wj, x.w.cell? _ = _ := fun x => x.cell (a := ⟨w5.heap.size, 1, none⟩) hr5 ((hbj.cell (p := ⟨w5.heap.size, 1, none⟩) hr5).trans q1)
      refine wpG_last ?_
      repeat (go_big_quiet_step (fail))
      refine wpQuiet_nil ?_
      clear y0 y1 inh
      have hbz := bl (bl HB.out HBe.out) hbj
      go_wp2
      go_ret
      exact ⟨rfl, hbz⟩
    | false =>
      go_wp2_with fail
      refine wp_region_grow we.heap.size [([0, 1, 2, 3, 4, 5, 6, 7, 8, 9, 10, 11, 12, 13, 14, 15, 16], 17), ([], 18), ([19, 20, 21, 22], 23), ([24, 25, 26, 27, 28], 29)] [30, 31, 32, 33, 34, 35, 36, 37, 38, 39, 40, 41, 42, 43, 44, 45, 46, 47] [] (by kernel_rfl) (by kernel_rfl) (by kernel_rfl) (by kernel_rfl) ?_
      intro wf hbf
      simp only [stagesOf, getL, pickL]
      have inh : Nonempty (Gr we.heap.size wf) := Gr.some _ wf
      have y0 : ∀ x : Gr we.heap.size wf, x.w.cell? _ = _ := fun x => x.cell (a := ⟨w7.heap.size, 0, none⟩) hr7 ((hbf.cell (p := ⟨w7.heap.size, 0, none⟩) hr7).trans x0)
      have y1 : ∀ x : Gr we.heap.size wf, x.w.cell? _ = _ := fun x => x.cell (a := ⟨w7.heap.size, 1, none⟩) hr7 ((hbf.cell (p := ⟨w7.heap.size, 1, none⟩) hr7).trans x1)
      have y2 : ∀ x : Gr we.heap.size wf, x.w.cell? _ = _ := fun x => x.cell (a := ⟨w2.heap.size, 0, none⟩) hr2 ((hbf.cell (p := ⟨w2.heap.size, 0, none⟩) hr2).trans c0)
      have y3 : ∀ x : Gr we.heap.size wf, x.w.cell? _ = _ := fun x => x.cell (a := ⟨w2.heap.size, 1, none⟩) hr2 ((hbf.cell (p := ⟨w2.heap.size, 1, none⟩) hr2).trans c1)
      refine wpG_stage ?_
      repeat (go_big_quiet_step (fail))
      refine wpQuiet_nil ?_
      clear y0 y1 y2 y3 inh
      go_wp2_with fail
      refine (HCA.out _ (bl HBe.out hbf)).mono ?_
      rintro e wg ⟨ka, kc, rfl, hK, hbg⟩
      go_wp2
      refine OnTo.mk (hbg.mono hbf.size) (Nat.le_refl _) ?_
      have hbg := bl hbf hbg
      refine wpG_stage (wpQuiet_nil ?_)
      go_wp2_with fail
      refine (esame_yes xa xc (Lab.canon l) xb xd s ka kc b cb _ hcl (by omega) (HX.out.below hbg) hK).mono ?_
      rintro e wh ⟨rfl, hbh⟩
      go_wp2
      refine OnTo.mk (hbh.mono hbg.size) (Nat.le_refl _) ?_
      have hbh := bl hbg hbh
      have inh : Nonempty (Gr we.heap.size wh) := Gr.some _ wh
      have y0 : ∀ x : Gr we.heap.size wh, x.w.cell? _ = _ := fun x => x.cell (a := ⟨w7.heap.size, 0, none⟩) hr7 ((hbh.cell (p := ⟨w7.heap.size, 0, none⟩) hr7).trans x0)
      have y1 : ∀ x : Gr we.heap.size wh, x.w.cell? _ = _ := fun x => x.cell (a := ⟨w7.heap.size, 1, none⟩) hr7 ((hbh.cell (p := ⟨w7.heap.size, 1, none⟩) hr7).trans x1)
      have y2 : ∀ x : Gr we.heap.size wh, x.w.cell? _ = _ := fun x => x.cell (a := ⟨w9.heap.size, 0, none⟩) hr9 ((hbh.cell (p := ⟨w9.heap.size, 0, none⟩) hr9).trans g0)
      have y3 : ∀ x : Gr we.heap.size wh, x.w.cell? _ = _ := fun x => x.cell (a := ⟨w9.heap.size, 1, none⟩) hr9 ((hbh.cell (p := ⟨w9.heap.size, 1, none⟩) hr9).trans g1)
      refine wpG_stage ?_
      repeat (go_big_quiet_step (fail))
      refine wpQuiet_nil ?_
      clear y0 y1 y2 y3 inh
      go_wp2_with fail
      refine (esame_yes ga gc (Lab.canon l) gb gd s xa xc xb xd _ hcl (by omega) (HG.out.below hbh) (HX.out.below hbh)).mono ?_
      rintro e wi ⟨rfl, hbi⟩
      go_wp2
      refine OnTo.mk (hbi.mono hbh.size) (Nat.le_refl _) ?_
      have hbi := bl hbh hbi
      have inh : Nonempty (Gr we.heap.size wi) := Gr.some _ wi
      have y0 : ∀ x : Gr we.heap.size wi, x.w.cell? _ = _ := fun x => x.cell (a := ⟨w2.heap.size, 1, none⟩) hr2 ((hbi.cell (p := ⟨w2.heap.size, 1, none⟩) hr2).trans c1)
      refine wpG_stage ?_
      repeat (go_big_quiet_step (fail))
      refine wpQuiet_nil ?_
      clear y0 inh
      go_wp2_with fail
      refine (HSY.out _ hbi).mono ?_
      rintro e wj ⟨rfl, hbj⟩
      go_wp2
      refine OnTo.mk (hbj.mono hbi.size) (Nat.le_refl _) ?_
      have hbj := bl hbi hbj
      have inh : Nonempty (Gr we.heap.size wj) := Gr.some _ wj
      have y0 : ∀ x : Gr we.heap.size wj, x.w.cell? _ = _ := fun x => x.cell (a := ⟨w3.heap.size, 1, none⟩) hr3 ((hbj.cell (p := ⟨w3.heap.size, 1, none⟩) hr3).trans p1)
      have y1 : ∀ x : Gr we.heap.size wj, x.w.cell? _ = _ := fun x => x.cell (a := ⟨w5.heap.size, 1, none⟩) hr5 ((hbj.cell (p := ⟨w5.heap.size, 1, none⟩) hr5).trans q1)
      refine wpG_last ?_
      repeat (go_big_quiet_step (fail))
      refine wpQuiet_nil ?_
      clear y0 y1 inh
      have hbz := bl (bl HB.out HBe.out) hbj
      go_wp2
      go_ret
      exact ⟨rfl, hbz⟩
  | false =>
    cases OQ with
    | true =>
      go_wp2_with fail
      refine wp_region_grow we.heap.size [([0, 1, 2, 3, 4, 5, 6, 7, 8, 9, 10, 11, 12, 13, 14, 15, 16], 17), ([], 18), ([19, 20, 21, 22], 23), ([24, 25, 26, 27, 28], 29)] [30, 31, 32, 33, 34, 35, 36, 37, 38, 39, 40, 41, 42, 43, 44, 45, 46, 47] [] (by kernel_rfl) (by kernel_rfl) (by kernel_rfl) (by kernel_rfl) ?_
      intro wf hbf
      simp only [stagesOf, getL, pickL]
      have inh : Nonempty (Gr we.heap.size wf) := Gr.some _ wf
      have y0 : ∀ x : Gr we.heap.size wf, x.w.cell? _ = _ := fun x => x.cell (a := ⟨w7.heap.size, 0, none⟩) hr7 ((hbf.cell (p := ⟨w7.heap.size, 0, none⟩) hr7).trans x0)
      have y1 : ∀ x : Gr we.heap.size wf, x.w.cell? _ = _ := fun x => x.cell (a := ⟨w7.heap.size, 1, none⟩) hr7 ((hbf.cell (p := ⟨w7.heap.size, 1, none⟩) hr7).trans x1)
      have y2 : ∀ x : Gr we.heap.size wf, x.w.cell? _ = _ := fun x => x.cell (a := ⟨w2.heap.size, 0, none⟩) hr2 ((hbf.cell (p := ⟨w2.heap.size, 0, none⟩) hr2).trans c0)
      have y3 : ∀ x : Gr we.heap.size wf, x.w.cell? _ = _ := fun x => x.cell (a := ⟨w2.heap.size, 1, none⟩) hr2 ((hbf.cell (p := ⟨w2.heap.size, 1, none⟩) hr2).trans c1)
      refine wpG_stage ?_
      repeat (go_big_quiet_step (fail))
      refine wpQuiet_nil ?_
      clear y0 y1 y2 y3 inh
      go_wp2_with fail
      refine (HCA.out _ (bl HBe.out hbf)).mono ?_
      rintro e wg ⟨ka, kc, rfl, hK, hbg⟩
      go_wp2
      refine OnTo.mk (hbg.mono hbf.size) (Nat.le_refl _) ?_
      have hbg := bl hbf hbg
      refine wpG_stage (wpQuiet_nil ?_)
      go_wp2_with fail
      refine (esame_yes xa xc (Lab.canon l) xb xd s ka kc b cb _ hcl (by omega) (HX.out.below hbg) hK).mono ?_
      rintro e wh ⟨rfl, hbh⟩
      go_wp2
      refine OnTo.mk (hbh.mono hbg.size) (Nat.le_refl _) ?_
      have hbh := bl hbg hbh
      have inh : Nonempty (Gr we.heap.size wh) := Gr.some _ wh
      have y0 : ∀ x : Gr we.heap.size wh, x.w.cell? _ = _ := fun x => x.cell (a := ⟨w7.heap.size, 0, none⟩) hr7 ((hbh.cell (p := ⟨w7.heap.size, 0, none⟩) hr7).trans x0)
      have y1 : ∀ x : Gr we.heap.size wh, x.w.cell? _ = _ := fun x => x.cell (a := ⟨w7.heap.size, 1, none⟩) hr7 ((hbh.cell (p := ⟨w7.heap.size, 1, none⟩) hr7).trans x1)
      have y2 : ∀ x : Gr we.heap.size wh, x.w.cell? _ = _ := fun x => x.cell (a := ⟨w9.heap.size, 0, none⟩) hr9 ((hbh.cell (p := ⟨w9.heap.size, 0, none⟩) hr9).trans g0)
      have y3 : ∀ x : Gr we.heap.size wh, x.w.cell? _ = _ := fun x => x.cell (a := ⟨w9.heap.size, 1, none⟩) hr9 ((hbh.cell (p := ⟨w9.heap.size, 1, none⟩) hr9).trans g1)
      refine wpG_stage ?_
      repeat (go_big_quiet_step (fail))
      refine wpQuiet_nil ?_
      clear y0 y1 y2 y3 inh
      go_wp2_with fail
      refine (esame_yes ga gc (Lab.canon l) gb gd s xa xc xb xd _ hcl (by omega) (HG.out.below hbh) (HX.out.below hbh)).mono ?_
      rintro e wi ⟨rfl, hbi⟩
      go_wp2
      refine OnTo.mk (hbi.mono hbh.size) (Nat.le_refl _) ?_
      have hbi := bl hbh hbi
      have inh : Nonempty (Gr we.heap.size wi) := Gr.some _ wi
      have y0 : ∀ x : Gr we.heap.size wi, x.w.cell? _ = _ := fun x => x.cell (a := ⟨w2.heap.size, 1, none⟩) hr2 ((hbi.cell (p := ⟨w2.heap.size, 1, none⟩) hr2).trans c1)
      refine wpG_stage ?_
      repeat (go_big_quiet_step (fail))
      refine wpQuiet_nil ?_
      clear y0 inh
      go_wp2_with fail
      refine (HSY.out _ hbi).mono ?_
      rintro e wj ⟨rfl, hbj⟩
      go_wp2
      refine OnTo.mk (hbj.mono hbi.size) (Nat.le_refl _) ?_
      have hbj := bl hbi hbj
      have inh : Nonempty (Gr we.heap.size wj) := Gr.some _ wj
      have y0 : ∀ x : Gr we.heap.size wj, x.w.cell? _ = _ := fun x => x.cell (a := ⟨w3.heap.size, 1, none⟩) hr3 ((hbj.cell (p := ⟨w3.heap.size, 1, none⟩) hr3).trans p1)
      have y1 : ∀ x : Gr we.heap.size wj, x.w.cell? _ = _ := fun x => x.cell (a := ⟨w5.heap.size, 1, none⟩) hr5 ((hbj.cell (p := ⟨w5.heap.size, 1, none⟩) hr5).trans q1)
      refine wpG_last ?_
      repeat (go_big_quiet_step (fail))
      refine wpQuiet_nil ?_
      clear y0 y1 inh
      have hbz := bl (bl HB.out HBe.out) hbj
      go_wp2
      go_ret
      exact ⟨rfl, hbz⟩
    | false => exact absurd HOT.out (by simp)

end Go.Proofs.Ytbjcphefaciihaa
