/-
  The program's entries: Only.
-/
import Derived.Test.YtbjcphefaciihaaEntTakeW
import Derived.Test.YtbjcphefaciihaaMatchW
import Derived.Test.YtbjcphefaciihaaSmpBetW
namespace Go.Proofs.Ytbjcphefaciihaa
open Go.RowKit
open Lab (Pr)
open Smp (Sm)

/-- What Only answers. -/
def oRes (l : List Pr) (s : List Sm) (ms : List Mt) (f t : Int) : (List Pr × List Sm) × Bool :=
  if Ent.check l s = 0 ∧ mat ms l = true ∧ Smp.between s f t ≠ [] then ((Lab.canon l, Smp.between s f t), true) else (([], []), false)
theorem oRes_yes {l : List Pr} {s : List Sm} {ms : List Mt} {f t : Int} (h : Ent.check l s = 0) (k : mat ms l = true) (m : Smp.between s f t ≠ []) : oRes l s ms f t = ((Lab.canon l, Smp.between s f t), true) := if_pos ⟨h, k, m⟩
theorem oRes_no {l : List Pr} {s : List Sm} {ms : List Mt} {f t : Int} (h : ¬ (Ent.check l s = 0 ∧ mat ms l = true ∧ Smp.between s f t ≠ [])) : oRes l s ms f t = (([], []), false) := if_neg h
def nilB : Value := .tuple #[.agg #[.slice none 0 0, .slice none 0 0], .bool false]
def OnlyE (R : (List Pr × List Sm) × Bool) (e : Ending) (w' : World) : Prop :=
  ∃ a ca b cb, e = .returned (.tuple #[.agg #[.slice a R.1.1.length ca, .slice b R.1.2.length cb], .bool R.2]) ∧ EntIn w' a ca R.1.1 b cb R.1.2 ∧ (b = none → cb = 0)
theorem onlyE_no (w' : World) : OnlyE (([], []), false) (.returned nilB) w' := ⟨none, 0, none, 0, rfl, ⟨PairsAt.nil _ _, Nat.le_refl _, SmpsAt.nil _ _, Nat.le_refl _⟩, fun _ => rfl⟩
theorem PairsAt.setNe {w : World} {a : Option Addr} {ps : List Pr} (h : PairsAt w a ps) {p : Addr} (hne : ∀ x, a = some x → x.block ≠ p.block) (u : Value) : PairsAt (w.setCell p u) a ps := by
  intro i hi
  obtain ⟨b, off, ha, hbl, hc⟩ := h i hi
  have hk := hne _ ha
  exact ⟨b, off, ha, by simpa using hbl, fun j hj => ⟨(World.cell?_setCell_other _ _ _ _ (fun e => hk (by rw [e]))).trans (hc j hj).1, (World.cell?_setCell_other _ _ _ _ (fun e => hk (by rw [e]))).trans (hc j hj).2⟩⟩

set_option maxRecDepth 100000 in
set_option maxHeartbeats 1600000 in
theorem only_any (a : Option Addr) (ca : Nat) (l : List Pr) (b : Option Addr) (cb : Nat) (s : List Sm) (ma : Option Addr) (mc : Nat) (ms : List Mt) (f t : Int) (w : World) (hp : EntIn w a ca l b cb s) (hs : EntSm l s) (hm : MatsAt w ma ms) (hml : ms.length ≤ 9223372036854775807) (h1000 : s.length ≤ 1000) :
    Calls Try.prog 21 #[.agg #[.slice a l.length ca, .slice b s.length cb], .slice ma ms.length mc, .int .u64 f, .int .u64 t] w fun e w' => OnlyE (oRes l s ms f t) e w' ∧ Below w.heap.size w w' := by
  have HK := hide (fun wx (hb : Below w.heap.size w wx) => echeck_any a ca l b cb s wx (hp.below hb) hs)
  have HM := hide (fun wx (hb : Below w.heap.size w wx) => match_any ma mc ms a ca l wx (hm.below hb) (hp.1.below hb) hml hs.1.1)
  have HB := hide (fun wx (hb : Below w.heap.size w wx) => between_any b cb s f t wx (hp.2.2.1.below hb) h1000)
  have HC := hide (fun wx (hb : Below w.heap.size w wx) => canon_good a ca l wx (hp.1.below hb) hp.2.1)
  clear hp hs hm
  by_cases h : Ent.check l s = 0
  case neg =>
    rw [oRes_no (fun x => h x.1)]
    have hn : (Ent.check l s != 0) = true := bne_iff_ne.2 h
    go_enter Try.func21, Try.ntmps21
    go_wp2_with fail
    refine (HK.out _ (bl (bel_alloc w _) (bel_alloc _ _))).mono ?_
    rintro e w1 ⟨rfl, hb1⟩
    obtain ⟨⟨p1, p2, p3, p4⟩, ⟨q1, q2, q3, q4⟩, hz, hb2⟩ := twos_later hb1
    clear hb1
    go_wp2
    have r1 := (set_two q1 q2 (.slice none 0 0) (.slice none 0 0)).1
    have r2 := (set_two q1 q2 (.slice none 0 0) (.slice none 0 0)).2
    refine bodyPost_ret (v := nilB) (by simp [results, Try.results21, go_sem, r1, r2, nilB]) rfl ?_
    exact ⟨onlyE_no _, (hb2.setCell (Nat.le_succ _) _).setCell (Nat.le_succ _) _⟩
  rw [h] at HK
  by_cases k : mat ms l = true
  case neg =>
    rw [oRes_no (fun x => k x.2.1)]
    rw [Bool.eq_false_iff.2 k] at HM
    go_enter Try.func21, Try.ntmps21
    go_wp2_with fail
    refine (HK.out _ (bl (bel_alloc w _) (bel_alloc _ _))).mono ?_
    rintro e w1 ⟨rfl, hb1⟩
    obtain ⟨⟨p1, p2, p3, p4⟩, ⟨q1, q2, q3, q4⟩, hz, hb2⟩ := twos_later hb1
    clear hb1
    go_wp2_with fail
    refine (HM.out _ hb2).mono ?_
    rintro e w2 ⟨rfl, hb3⟩
    obtain ⟨p1, p2, p3, p4⟩ := cells_keep (by omega) p1 p2 p3 p4 hb3
    obtain ⟨q1, q2, q3, q4⟩ := cells_keep (by omega) q1 q2 q3 q4 hb3
    have hb2 := bl hb2 hb3
    have hz := Nat.le_trans hz hb3.size
    clear hb3
    go_wp2
    have r1 := (set_two q1 q2 (.slice none 0 0) (.slice none 0 0)).1
    have r2 := (set_two q1 q2 (.slice none 0 0) (.slice none 0 0)).2
    refine bodyPost_ret (v := nilB) (by simp [results, Try.results21, go_sem, r1, r2, nilB]) rfl ?_
    exact ⟨onlyE_no _, (hb2.setCell (Nat.le_succ _) _).setCell (Nat.le_succ _) _⟩
  rw [k] at HM
  by_cases m : Smp.between s f t = []
  case pos =>
    rw [oRes_no (fun x => x.2.2 m)]
    rw [m] at HB
    go_enter Try.func21, Try.ntmps21
    go_wp2_with fail
    refine (HK.out _ (bl (bel_alloc w _) (bel_alloc _ _))).mono ?_
    rintro e w1 ⟨rfl, hb1⟩
    obtain ⟨⟨p1, p2, p3, p4⟩, ⟨q1, q2, q3, q4⟩, hz, hb2⟩ := twos_later hb1
    clear hb1
    go_wp2_with fail
    refine (HM.out _ hb2).mono ?_
    rintro e w2 ⟨rfl, hb3⟩
    obtain ⟨p1, p2, p3, p4⟩ := cells_keep (by omega) p1 p2 p3 p4 hb3
    obtain ⟨q1, q2, q3, q4⟩ := cells_keep (by omega) q1 q2 q3 q4 hb3
    have hb2 := bl hb2 hb3
    have hz := Nat.le_trans hz hb3.size
    clear hb3
    go_wp2_with fail
    refine (HB.out _ hb2).mono ?_
    rintro e w3 ⟨v, rfl, ho, hb3⟩
    obtain ⟨p1, p2, p3, p4⟩ := cells_keep (by omega) p1 p2 p3 p4 hb3
    obtain ⟨q1, q2, q3, q4⟩ := cells_keep (by omega) q1 q2 q3 q4 hb3
    have ho := ho.mono hz
    have hb2 := bl hb2 hb3
    have hz := Nat.le_trans hz hb3.size
    obtain ⟨b1, cb1, rfl, hcb, _, hn⟩ := ho.view
    have HO := hide ho
    clear hb3 ho
    go_wp2
    have r1 := (set_two q1 q2 (.slice none 0 0) (.slice none 0 0)).1
    have r2 := (set_two q1 q2 (.slice none 0 0) (.slice none 0 0)).2
    refine bodyPost_ret (v := nilB) (by simp [results, Try.results21, go_sem, r1, r2, nilB]) rfl ?_
    exact ⟨onlyE_no _, (hb2.setCell (Nat.le_succ _) _).setCell (Nat.le_succ _) _⟩
  case neg =>
    rw [oRes_yes h k m]
    have HR := hide (Ent.check_zero.1 h).1
    have HBL := hide (bet_len s f t)
    clear h k
    generalize Smp.between s f t = W at *
    have hW : ((W.length : Int) == 0) = false := beq_eq_false_iff_ne.2 (fun e => m (List.length_eq_zero_iff.1 (by omega)))
    go_enter Try.func21, Try.ntmps21
    go_wp2_with fail
    refine (HK.out _ (bl (bel_alloc w _) (bel_alloc _ _))).mono ?_
    rintro e w1 ⟨rfl, hb1⟩
    obtain ⟨⟨p1, p2, p3, p4⟩, ⟨q1, q2, q3, q4⟩, hz, hb2⟩ := twos_later hb1
    clear hb1
    go_wp2_with fail
    refine (HM.out _ hb2).mono ?_
    rintro e w2 ⟨rfl, hb3⟩
    obtain ⟨p1, p2, p3, p4⟩ := cells_keep (by omega) p1 p2 p3 p4 hb3
    obtain ⟨q1, q2, q3, q4⟩ := cells_keep (by omega) q1 q2 q3 q4 hb3
    have hb2 := bl hb2 hb3
    have hz := Nat.le_trans hz hb3.size
    clear hb3
    go_wp2_with fail
    refine (HB.out _ hb2).mono ?_
    rintro e w3 ⟨v, rfl, ho, hb3⟩
    obtain ⟨p1, p2, p3, p4⟩ := cells_keep (by omega) p1 p2 p3 p4 hb3
    obtain ⟨q1, q2, q3, q4⟩ := cells_keep (by omega) q1 q2 q3 q4 hb3
    have ho := ho.mono hz
    have hb2 := bl hb2 hb3
    have hz := Nat.le_trans hz hb3.size
    obtain ⟨b1, cb1, rfl, hcb, _, hn⟩ := ho.view
    have HO := hide ho
    clear hb3 ho
    go_wp2_with fail
    refine (HC.out _ hb2 HR.out).mono ?_
    rintro e w4 ⟨g, rfl, hg, hrow, hb3⟩
    obtain ⟨q1, q2, q3, q4⟩ := cells_keep (by omega) q1 q2 q3 q4 hb3
    have hb4 := bl hb2 hb3
    have HO2 := hide (HO.out.below hb3)
    have HRW := hide hrow.pairs
    clear hb3 HO hrow
    go_wp2
    have r1 := (set_two q1 q2 (.slice (some ⟨g, 0, none⟩) l.length l.length) (.slice b1 W.length cb1)).1
    have r2 := (set_two q1 q2 (.slice (some ⟨g, 0, none⟩) l.length l.length) (.slice b1 W.length cb1)).2
    refine bodyPost_ret (v := .tuple #[.agg #[.slice (some ⟨g, 0, none⟩) l.length l.length, .slice b1 W.length cb1], .bool true]) (by simp [results, Try.results21, go_sem, r1, r2]) rfl ?_
    refine ⟨⟨some ⟨g, 0, none⟩, l.length, b1, cb1, by rw [Lab.canon_length], ?_, hn⟩, (hb4.setCell (Nat.le_succ _) _).setCell (Nat.le_succ _) _⟩
    obtain ⟨b', cb', e2, _, hpb, _⟩ := ((HO2.out.setBelow (p := ⟨w.heap.size + 1, 0, none⟩) (Nat.lt_succ_self _) (.slice (some ⟨g, 0, none⟩) l.length l.length)).setBelow (p := ⟨w.heap.size + 1, 1, none⟩) (Nat.lt_succ_self _) (.slice b1 W.length cb1)).view
    simp only [Value.slice.injEq] at e2
    obtain ⟨rfl, _, rfl⟩ := e2
    refine ⟨(HRW.out.setNe ?_ _).setNe ?_ _, Nat.le_of_eq (Lab.canon_length l), hpb, hcb⟩
    · intro x hx; cases hx; show g ≠ w.heap.size + 1; omega
    · intro x hx; cases hx; show g ≠ w.heap.size + 1; omega

end Go.Proofs.Ytbjcphefaciihaa
