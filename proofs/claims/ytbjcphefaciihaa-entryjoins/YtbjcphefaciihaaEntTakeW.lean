/-
  The program's entries: Take.
-/
import Derived.Test.YtbjcphefaciihaaEntW
import Derived.Laws.EntriesVeiled
import Derived.Below
namespace Go.Proofs.Ytbjcphefaciihaa
open Go.RowKit
open Lab (Pr)
open Smp (Sm)

/-- Samples, and nothing behind them. -/
def sEnd (x : List UInt8) : Option (List Sm) := match Smp.takeS x with
  | none => none
  | some (s, q) => if q = [] then some s else none
def nilV : Value := .tuple #[.agg #[.slice none 0 0, .slice none 0 0], .int .i64 2]
def TookR (u : Value) (x : List UInt8) (e : Ending) (w' : World) (B : Nat) : Prop :=
  (sEnd x = none ∧ e = .returned nilV) ∨ ∃ s v, sEnd x = some s ∧ e = .returned (.tuple #[.agg #[u, v], .int .i64 0]) ∧ OwnS w' B v s
theorem OwnS.setBelow {w : World} {B : Nat} {v : Value} {ss : List Sm} (h : OwnS w B v ss) {p : Addr} (hp : p.block < B) (u : Value) : OwnS (w.setCell p u) B v ss := ownsRow_setCell_below h hp u
theorem OwnP.setBelow {w : World} {B : Nat} {v : Value} {ss : List Pr} (h : OwnP w B v ss) {p : Addr} (hp : p.block < B) (u : Value) : OwnP (w.setCell p u) B v ss := ownsRow_setCell_below h hp u
/-- Two cells that were made ahead of a call stand as they were. -/
theorem cells_keep {w w1 : World} {b : Nat} {x y : Value} (hb : b < w.heap.size) (h0 : w.cell? ⟨b, 0, none⟩ = some x) (h1 : w.cell? ⟨b, 1, none⟩ = some y) (f0 : w.frozen? ⟨b, 0, none⟩ = false) (f1 : w.frozen? ⟨b, 1, none⟩ = false) (hw : Below w.heap.size w w1) :
    w1.cell? ⟨b, 0, none⟩ = some x ∧ w1.cell? ⟨b, 1, none⟩ = some y ∧ w1.frozen? ⟨b, 0, none⟩ = false ∧ w1.frozen? ⟨b, 1, none⟩ = false :=
  ⟨(hw.cell (by exact hb)).trans h0, (hw.cell (by exact hb)).trans h1, (hw.frozen (by exact hb)).trans f0, (hw.frozen (by exact hb)).trans f1⟩

set_option maxRecDepth 100000 in
set_option maxHeartbeats 800000 in
theorem end_yes (a : Option Addr) (la ca : Nat) (A : Nat) (b : Option Addr) (n cb : Nat) (w : World) (hA : w.cell? ⟨A, 0, none⟩ = some (.slice a la ca)) (hA2 : A < w.heap.size) :
    Calls Try.prog 62 #[.slice b n cb, .string ⟨#[]⟩, .pointer (some ⟨A, 0, none⟩)] w fun e w' => e = .returned (.tuple #[.agg #[.slice a la ca, .slice b n cb], .int .i64 0]) ∧ Below w.heap.size w w' := by
  go_enter Try.func62, Try.ntmps62
  go_wp2
  refine bodyPost_ret (v := .tuple #[.agg #[.slice a la ca, .slice b n cb], .int .i64 0]) (by simp [results, Try.results62, go_sem]) rfl ?_
  exact ⟨rfl, bel_alloc _ _⟩

set_option maxRecDepth 100000 in
set_option maxHeartbeats 800000 in
theorem end_no (a : Option Addr) (la ca : Nat) (A : Nat) (b : Option Addr) (n cb : Nat) (q : List UInt8) (hq : q ≠ []) (w : World) (_hA : w.cell? ⟨A, 0, none⟩ = some (.slice a la ca)) (_hA2 : A < w.heap.size) :
    Calls Try.prog 62 #[.slice b n cb, .string (Num.bs q), .pointer (some ⟨A, 0, none⟩)] w fun e w' => e = .returned nilV ∧ Below w.heap.size w w' := by
  have hne : (Num.bs q).toList.isEmpty = false := by rw [ByteArray.toList_eq]; simpa [Num.bs] using hq
  go_enter Try.func62, Try.ntmps62
  go_wp2
  refine bodyPost_ret (v := nilV) (by simp [results, Try.results62, go_sem, nilV]) rfl ?_
  exact ⟨rfl, bel_alloc _ _⟩

/-- A world as one knows it behind an alloc, under a letter. -/
theorem new_two {w w1 : World} {x y : Value} {t : TypeId} (h : w.alloc (.cells #[x, y] t) = w1) :
    w1.cell? ⟨w.heap.size, 0, none⟩ = some x ∧ w1.cell? ⟨w.heap.size, 1, none⟩ = some y ∧ w1.frozen? ⟨w.heap.size, 0, none⟩ = false ∧ w1.frozen? ⟨w.heap.size, 1, none⟩ = false ∧ w.heap.size + 1 ≤ w1.heap.size ∧ Below w.heap.size w w1 := by
  subst h
  obtain ⟨h1, h2, h3, h4⟩ := two_later (w := w) (x := x) (y := y) (t := t) (Below.refl _ _)
  exact ⟨h1, h2, h3, h4, Nat.le_of_eq (World.size_alloc _ _).symm, bel_alloc _ _⟩
/-- Two blocks of two cells, one behind the other, behind a call. -/
theorem twos_later {w w1 : World} {x y p q : Value} {t u : TypeId} (hb : Below ((w.alloc (.cells #[x, y] t)).alloc (.cells #[p, q] u)).heap.size ((w.alloc (.cells #[x, y] t)).alloc (.cells #[p, q] u)) w1) :
    (w1.cell? ⟨w.heap.size, 0, none⟩ = some x ∧ w1.cell? ⟨w.heap.size, 1, none⟩ = some y ∧ w1.frozen? ⟨w.heap.size, 0, none⟩ = false ∧ w1.frozen? ⟨w.heap.size, 1, none⟩ = false) ∧
    (w1.cell? ⟨w.heap.size + 1, 0, none⟩ = some p ∧ w1.cell? ⟨w.heap.size + 1, 1, none⟩ = some q ∧ w1.frozen? ⟨w.heap.size + 1, 0, none⟩ = false ∧ w1.frozen? ⟨w.heap.size + 1, 1, none⟩ = false) ∧ w.heap.size + 2 ≤ w1.heap.size ∧ Below w.heap.size w w1 := by
  have h2 := two_later hb
  have h1 := two_later (bel_al hb)
  have hz := hb.size
  simp only [World.size_alloc] at h2 hz
  exact ⟨h1, h2, by omega, bel_al (bel_al hb)⟩

set_option maxRecDepth 100000 in
set_option maxHeartbeats 1600000 in
theorem fromS_any (a : Option Addr) (la ca : Nat) (A : Nat) (s : ByteArray) (w : World) (hs : s.size ≤ maxLen) (hA : w.cell? ⟨A, 0, none⟩ = some (.slice a la ca)) (hA2 : A < w.heap.size) :
    Calls Try.prog 63 #[.agg #[.func (Fn.func 33) #[] #[], .func (Fn.func 62) #[] #[.pointer (some ⟨A, 0, none⟩)]], .string s] w
      fun e w' => TookR (.slice a la ca) s.data.toList e w' w.heap.size ∧ Below w.heap.size w w' := by
  have HT := hide (fun wx => takeS_any s wx hs)
  have HY := hide (fun b n cb wx (hb : Below w.heap.size w wx) => end_yes a la ca A b n cb wx ((hb.cell (by exact hA2)).trans hA) (Nat.lt_of_lt_of_le hA2 hb.size))
  have HN := hide (fun b n cb q hq wx (hb : Below w.heap.size w wx) => end_no a la ca A b n cb q hq wx ((hb.cell (by exact hA2)).trans hA) (Nat.lt_of_lt_of_le hA2 hb.size))
  clear hA hA2
  go_enter Try.func63, Try.ntmps63
  go_wp2_with fail
  refine (HT.out _).mono ?_
  rintro e w1 ⟨hT, hb1⟩
  obtain ⟨⟨p1, p2, p3, p4⟩, ⟨q1, q2, q3, q4⟩, hz, hb2⟩ := twos_later hb1
  rcases hT with ⟨hT, rfl⟩ | ⟨l, q, v, hT, rfl, ho⟩
  · clear hb1
    go_wp2
    have r1 := (set_two q1 q2 (.slice none 0 0) (.slice none 0 0)).1
    have r2 := (set_two q1 q2 (.slice none 0 0) (.slice none 0 0)).2
    refine bodyPost_ret (v := nilV) (by simp [results, Try.results63, go_sem, r1, r2, nilV]) rfl ?_
    exact ⟨.inl ⟨by unfold sEnd; rw [hT], rfl⟩, (hb2.setCell (Nat.le_succ _) _).setCell (Nat.le_succ _) _⟩
  · obtain ⟨b, cb, rfl, hcb, _, _⟩ := ho.view
    have HO := hide ho
    have HTT := hide hT
    clear hb1 ho hT
    by_cases hq : q = []
    · subst hq
      go_wp2_with fail
      refine (HY.out _ _ _ _ hb2).mono ?_
      rintro e w2 ⟨rfl, hb3⟩
      obtain ⟨s1, s2, s3, s4⟩ := cells_keep (by omega) q1 q2 q3 q4 hb3
      have hb4 := bl hb2 hb3
      have HO2 := hide (HO.out.below hb3)
      clear hb3 HO
      go_wp2
      have r1 := (set_two s1 s2 (.slice a la ca) (.slice b l.length cb)).1
      have r2 := (set_two s1 s2 (.slice a la ca) (.slice b l.length cb)).2
      refine bodyPost_ret (v := .tuple #[.agg #[.slice a la ca, .slice b l.length cb], .int .i64 0]) (by simp [results, Try.results63, go_sem, r1, r2]) rfl ?_
      refine ⟨.inr ⟨l, _, by unfold sEnd; rw [HTT.out]; simp, rfl, ?_⟩, (hb4.setCell (Nat.le_succ _) _).setCell (Nat.le_succ _) _⟩
      have h1 := HO2.out
      simp only [World.size_alloc] at h1
      exact (h1.setBelow (by simp) _ |>.setBelow (by simp) _).mono (by omega)
    · go_wp2_with fail
      refine (HN.out _ _ _ _ hq _ hb2).mono ?_
      rintro e w2 ⟨rfl, hb3⟩
      obtain ⟨s1, s2, s3, s4⟩ := cells_keep (by omega) q1 q2 q3 q4 hb3
      have hb4 := bl hb2 hb3
      clear hb3 HO
      unfold nilV
      go_wp2
      have r1 := (set_two s1 s2 (.slice none 0 0) (.slice none 0 0)).1
      have r2 := (set_two s1 s2 (.slice none 0 0) (.slice none 0 0)).2
      refine bodyPost_ret (v := nilV) (by simp [results, Try.results63, go_sem, r1, r2, nilV]) rfl ?_
      exact ⟨.inl ⟨by unfold sEnd; rw [HTT.out]; simp [hq], rfl⟩, (hb4.setCell (Nat.le_succ _) _).setCell (Nat.le_succ _) _⟩

theorem three_later {w w1 : World} {x p q : Value} {t u : TypeId} {o : Obj} (hb : Below (((w.alloc (.cells #[x] t)).alloc (.cells #[p, q] u)).alloc o).heap.size (((w.alloc (.cells #[x] t)).alloc (.cells #[p, q] u)).alloc o) w1) :
    (w1.cell? ⟨w.heap.size + 1, 0, none⟩ = some p ∧ w1.cell? ⟨w.heap.size + 1, 1, none⟩ = some q ∧ w1.frozen? ⟨w.heap.size + 1, 0, none⟩ = false ∧ w1.frozen? ⟨w.heap.size + 1, 1, none⟩ = false) ∧ w.heap.size + 3 ≤ w1.heap.size ∧ Below w.heap.size w w1 := by
  have h2 := two_later (bel_al hb)
  have hz := hb.size
  simp only [World.size_alloc] at h2 hz
  exact ⟨h2, by omega, bel_al (bel_al (bel_al hb))⟩

set_option maxRecDepth 100000 in
set_option maxHeartbeats 1600000 in
theorem etakeS_any (a : Option Addr) (la ca : Nat) (s : ByteArray) (w : World) (hs : s.size ≤ maxLen) :
    Calls Try.prog 35 #[.slice a la ca, .string s] w fun e w' => TookR (.slice a la ca) s.data.toList e w' w.heap.size ∧ Below w.heap.size w w' := by
  go_enter Try.func35, Try.ntmps35
  go_wp2_with fail
  refine (fromS_any a la ca w.heap.size s _ hs ?c1 ?c2).mono ?c3
  case c1 => exact cell_alloc (cell_alloc (by simp) _) _
  case c2 => simp only [World.size_alloc]; omega
  rintro e w1 ⟨hT, hb1⟩
  obtain ⟨⟨q1, q2, q3, q4⟩, hz, hb2⟩ := three_later hb1
  rcases hT with ⟨hT, rfl⟩ | ⟨l, v, hT, rfl, ho⟩
  · clear hb1
    unfold nilV
    go_wp2
    have r1 := (set_two q1 q2 (.slice none 0 0) (.slice none 0 0)).1
    have r2 := (set_two q1 q2 (.slice none 0 0) (.slice none 0 0)).2
    refine bodyPost_ret (v := nilV) (by simp [results, Try.results35, go_sem, r1, r2, nilV]) rfl ?_
    exact ⟨.inl ⟨hT, rfl⟩, (hb2.setCell (Nat.le_succ _) _).setCell (Nat.le_succ _) _⟩
  · obtain ⟨b, cb, rfl, hcb, _, _⟩ := ho.view
    have HO := hide ho
    have HTT := hide hT
    clear hb1 ho hT
    go_wp2
    have r1 := (set_two q1 q2 (.slice a la ca) (.slice b l.length cb)).1
    have r2 := (set_two q1 q2 (.slice a la ca) (.slice b l.length cb)).2
    refine bodyPost_ret (v := .tuple #[.agg #[.slice a la ca, .slice b l.length cb], .int .i64 0]) (by simp [results, Try.results35, go_sem, r1, r2]) rfl ?_
    refine ⟨.inr ⟨l, _, HTT.out, rfl, ?_⟩, (hb2.setCell (Nat.le_succ _) _).setCell (Nat.le_succ _) _⟩
    have h1 := HO.out
    simp only [World.size_alloc] at h1
    exact (h1.setBelow (by simp) _ |>.setBelow (by simp) _).mono (by omega)

/-- What Take answers: the entry, or nothing; its parts lie where its slices lead. -/
def eRes (x : List UInt8) : (List Pr × List Sm) × Int := match Ent.take x with
  | none => (([], []), 2)
  | some p => (p, 0)
def TookE (x : List UInt8) (e : Ending) (w' : World) : Prop :=
  ∃ a ca b cb, e = .returned (.tuple #[.agg #[.slice a (eRes x).1.1.length ca, .slice b (eRes x).1.2.length cb], .int .i64 (eRes x).2]) ∧ EntIn w' a ca (eRes x).1.1 b cb (eRes x).1.2
theorem tookE_no {x : List UInt8} {w' : World} (h : Ent.take x = none) : TookE x (.returned nilV) w' := by
  unfold TookE eRes
  rw [h]
  exact ⟨none, 0, none, 0, rfl, PairsAt.nil _ _, Nat.le_refl _, SmpsAt.nil _ _, Nat.le_refl _⟩
theorem tookE_yes {x : List UInt8} {w' : World} {l : List Pr} {s : List Sm} {a : Option Addr} {ca : Nat} {b : Option Addr} {cb : Nat} (h : Ent.take x = some (l, s)) (hE : EntIn w' a ca l b cb s) : TookE x (.returned (.tuple #[.agg #[.slice a l.length ca, .slice b s.length cb], .int .i64 0])) w' := by
  unfold TookE eRes
  rw [h]
  exact ⟨a, ca, b, cb, rfl, hE⟩
theorem take_via {x r : List UInt8} {l : List Pr} (h : Lab.takeL x = some (l, r)) : Ent.take x = (sEnd r).map (fun s => (l, s)) := by
  unfold Ent.take sEnd
  rw [h]
  simp only
  cases Smp.takeS r with
  | none => rfl
  | some p =>
    obtain ⟨s, q⟩ := p
    simp only
    split <;> rfl

set_option maxRecDepth 100000 in
set_option maxHeartbeats 1600000 in
theorem fromP_any (s : ByteArray) (w : World) (hs : s.size ≤ 100000) :
    Calls Try.prog 36 #[.agg #[.func (Fn.func 32) #[] #[], .func (Fn.func 35) #[] #[]], .string s] w
      fun e w' => (∃ B, w.heap.size < B ∧ ((Ent.take s.data.toList = none ∧ e = .returned nilV) ∨ ∃ l t v u, Ent.take s.data.toList = some (l, t) ∧ e = .returned (.tuple #[.agg #[v, u], .int .i64 0]) ∧ OwnP w' B v l ∧ OwnS w' B u t)) ∧ Below w.heap.size w w' := by
  have HT := hide (fun wx => ltake_any s wx hs)
  go_enter Try.func36, Try.ntmps36
  go_wp2_with fail
  refine (HT.out _).mono ?_
  rintro e w1 ⟨hT, hb1⟩
  obtain ⟨⟨p1, p2, p3, p4⟩, ⟨q1, q2, q3, q4⟩, hz, hb2⟩ := twos_later hb1
  rcases hT with ⟨hT, rfl⟩ | ⟨l, q, v, hT, rfl, ho⟩
  · clear hb1
    go_wp2
    have r1 := (set_two q1 q2 (.slice none 0 0) (.slice none 0 0)).1
    have r2 := (set_two q1 q2 (.slice none 0 0) (.slice none 0 0)).2
    refine bodyPost_ret (v := nilV) (by simp [results, Try.results36, go_sem, r1, r2, nilV]) rfl ?_
    exact ⟨⟨w.heap.size + 1, by omega, .inl ⟨by unfold Ent.take; rw [hT], rfl⟩⟩, (hb2.setCell (Nat.le_succ _) _).setCell (Nat.le_succ _) _⟩
  · have hql : (Num.bs q).size ≤ maxLen := by
      have := congrArg List.length (Lab.takeL_of hT).1
      rw [List.length_append] at this
      have e1 : s.data.toList.length = s.size := rfl
      rw [Num.bs_size]; unfold maxLen; omega
    obtain ⟨a, ca, rfl, hca, _, _⟩ := ho.view
    have HV := hide (take_via hT)
    simp only [World.size_alloc] at ho
    have HO := hide ho
    have HS := hide (fun wx => etakeS_any a l.length ca (Num.bs q) wx hql)
    clear hb1 ho hT
    go_wp2_with fail
    refine (HS.out _).mono ?_
    rintro e w2 ⟨hT, hb3⟩
    obtain ⟨s1, s2, s3, s4⟩ := cells_keep (by omega) q1 q2 q3 q4 hb3
    have hb4 := bl hb2 hb3
    rw [Num.bs_toList] at hT
    rcases hT with ⟨hT, rfl⟩ | ⟨t, u, hT, rfl, ht⟩
    · rw [hT] at HV
      clear hb3 HO HS
      unfold nilV
      go_wp2
      have r1 := (set_two s1 s2 (.slice none 0 0) (.slice none 0 0)).1
      have r2 := (set_two s1 s2 (.slice none 0 0) (.slice none 0 0)).2
      refine bodyPost_ret (v := nilV) (by simp [results, Try.results36, go_sem, r1, r2, nilV]) rfl ?_
      exact ⟨⟨w.heap.size + 1, by omega, .inl ⟨HV.out, rfl⟩⟩, (hb4.setCell (Nat.le_succ _) _).setCell (Nat.le_succ _) _⟩
    · rw [hT] at HV
      obtain ⟨b, cb, rfl, hcb, _, _⟩ := ht.view
      have HO2 := hide (HO.out.below hb3)
      have HS2 := hide ht
      clear hb3 HO HS ht hT
      go_wp2
      have r1 := (set_two s1 s2 (.slice a l.length ca) (.slice b t.length cb)).1
      have r2 := (set_two s1 s2 (.slice a l.length ca) (.slice b t.length cb)).2
      refine bodyPost_ret (v := .tuple #[.agg #[.slice a l.length ca, .slice b t.length cb], .int .i64 0]) (by simp [results, Try.results36, go_sem, r1, r2]) rfl ?_
      refine ⟨⟨w.heap.size + 2, by omega, .inr ⟨l, t, _, _, HV.out, rfl, ?_, ?_⟩⟩, (hb4.setCell (Nat.le_succ _) _).setCell (Nat.le_succ _) _⟩
      · exact (HO2.out.setBelow (by simp) _ |>.setBelow (by simp) _)
      · exact ((HS2.out.mono hz).setBelow (by simp) _ |>.setBelow (by simp) _)

set_option maxRecDepth 100000 in
set_option maxHeartbeats 1600000 in
theorem etake_any (s : ByteArray) (w : World) (hs : s.size ≤ 100000) :
    Calls Try.prog 14 #[.string s] w fun e w' => TookE s.data.toList e w' ∧ Below w.heap.size w w' := by
  go_enter Try.func14, Try.ntmps14
  go_wp2_with fail
  refine (fromP_any s _ hs).mono ?_
  rintro e w1 ⟨⟨B, hB, hT⟩, hb1⟩
  obtain ⟨⟨p1, p2, p3, p4⟩, _, hz, hb2⟩ := twos_later hb1
  simp only [World.size_alloc] at hB
  rcases hT with ⟨hT, rfl⟩ | ⟨l, t, v, u, hT, rfl, ho, hu⟩
  · clear hb1
    unfold nilV
    go_wp2
    have r1 := (set_two p1 p2 (.slice none 0 0) (.slice none 0 0)).1
    have r2 := (set_two p1 p2 (.slice none 0 0) (.slice none 0 0)).2
    refine bodyPost_ret (v := nilV) (by simp [results, Try.results14, go_sem, r1, r2, nilV]) rfl ?_
    exact ⟨tookE_no hT, (hb2.setCell (Nat.le_refl _) _).setCell (Nat.le_refl _) _⟩
  · obtain ⟨a, ca, rfl, hca, _, _⟩ := ho.view
    obtain ⟨b, cb, rfl, hcb, _, _⟩ := hu.view
    have HO := hide ho
    have HU := hide hu
    have HTT := hide hT
    clear hb1 ho hu hT
    go_wp2
    have r1 := (set_two p1 p2 (.slice a l.length ca) (.slice b t.length cb)).1
    have r2 := (set_two p1 p2 (.slice a l.length ca) (.slice b t.length cb)).2
    refine bodyPost_ret (v := .tuple #[.agg #[.slice a l.length ca, .slice b t.length cb], .int .i64 0]) (by simp [results, Try.results14, go_sem, r1, r2]) rfl ?_
    refine ⟨tookE_yes HTT.out ?_, (hb2.setCell (Nat.le_refl _) _).setCell (Nat.le_refl _) _⟩
    obtain ⟨a', ca', e1, _, hpa, _⟩ := ((HO.out.setBelow (p := ⟨w.heap.size, 0, none⟩) (by show w.heap.size < B; omega) (.slice a l.length ca)).setBelow (p := ⟨w.heap.size, 1, none⟩) (by show w.heap.size < B; omega) (.slice b t.length cb)).view
    obtain ⟨b', cb', e2, _, hpb, _⟩ := ((HU.out.setBelow (p := ⟨w.heap.size, 0, none⟩) (by show w.heap.size < B; omega) (.slice a l.length ca)).setBelow (p := ⟨w.heap.size, 1, none⟩) (by show w.heap.size < B; omega) (.slice b t.length cb)).view
    simp only [Value.slice.injEq] at e1 e2
    obtain ⟨rfl, _, rfl⟩ := e1
    obtain ⟨rfl, _, rfl⟩ := e2
    exact ⟨hpa, hca, hpb, hcb⟩

theorem etake_some {x : ByteArray} {l : List Pr} {s : List Sm} (h : Ent.take x.data.toList = some (l, s)) (w : World) (hs : x.size ≤ 100000) :
    Calls Try.prog 14 #[.string x] w fun e w' => ∃ a ca b cb, e = .returned (.tuple #[.agg #[.slice a l.length ca, .slice b s.length cb], .int .i64 0]) ∧ EntIn w' a ca l b cb s ∧ Below w.heap.size w w' := by
  refine (etake_any x w hs).mono fun e w' ⟨hT, hb⟩ => ?_
  obtain ⟨a, ca, b, cb, he, hE⟩ := hT
  unfold eRes at he hE
  rw [h] at he hE
  exact ⟨a, ca, b, cb, he, hE, hb⟩
theorem etake_no {x : ByteArray} (h : Ent.take x.data.toList = none) (w : World) (hs : x.size ≤ 100000) :
    Calls Try.prog 14 #[.string x] w fun e w' => ∃ a ca b cb, e = .returned (.tuple #[.agg #[.slice a 0 ca, .slice b 0 cb], .int .i64 2]) ∧ Below w.heap.size w w' := by
  refine (etake_any x w hs).mono fun e w' ⟨hT, hb⟩ => ?_
  obtain ⟨a, ca, b, cb, he, hE⟩ := hT
  unfold eRes at he hE
  rw [h] at he hE
  exact ⟨a, ca, b, cb, he, hb⟩

end Go.Proofs.Ytbjcphefaciihaa
