/-
  Pairs in a row of the call's own: made, read, stored into; appended to.
-/
import Derived.Test.YtbjcphefaciihaaPairsW
import Derived.Laws.OwnMore
import Derived.OwnWalk
namespace Go.Proofs.Ytbjcphefaciihaa
open Go.RowKit
open Lab (Pr)

def zeroP : Pr := (⟨#[]⟩, ⟨#[]⟩)

/-- The pairs lie in block g from its head, and may be written. -/
def RowAt (w : World) (g : Nat) (ps : List Pr) : Prop :=
  g < w.heap.size ∧ ∀ j (h : j < ps.length), w.cell? ⟨g, j * 2, none⟩ = some (.string (ps[j]).1) ∧ w.cell? ⟨g, j * 2 + 1, none⟩ = some (.string (ps[j]).2) ∧ w.frozen? ⟨g, j * 2, none⟩ = false ∧ w.frozen? ⟨g, j * 2 + 1, none⟩ = false

theorem RowAt.pairs {w : World} {g : Nat} {ps : List Pr} (h : RowAt w g ps) : PairsAt w (some ⟨g, 0, none⟩) ps :=
  fun _ _ => ⟨g, 0, rfl, h.1, fun j hj => by rw [Nat.zero_add]; exact ⟨(h.2 j hj).1, (h.2 j hj).2.1⟩⟩
theorem RowAt.below {w w' : World} {g : Nat} {ps : List Pr} (h : RowAt w g ps) {n : Nat} (hb : Below n w w') (hn : g < n) : RowAt w' g ps := by
  refine ⟨Nat.lt_of_lt_of_le h.1 hb.size, fun j hj => ?_⟩
  obtain ⟨h1, h2, h3, h4⟩ := h.2 j hj
  exact ⟨by rw [hb.cell (p := ⟨g, j * 2, none⟩) hn]; exact h1, by rw [hb.cell (p := ⟨g, j * 2 + 1, none⟩) hn]; exact h2, by rw [hb.frozen (p := ⟨g, j * 2, none⟩) hn]; exact h3, by rw [hb.frozen (p := ⟨g, j * 2 + 1, none⟩) hn]; exact h4⟩
theorem RowAt.later {w w' : World} {g : Nat} {ps : List Pr} (h : RowAt w g ps) (hb : Below w.heap.size w w') : RowAt w' g ps := h.below hb h.1
/-- Pair k, in a later world. -/
theorem RowAt.get {w wr : World} {g : Nat} {ps : List Pr} (h : RowAt w g ps) (hnx : Below w.heap.size w wr) {k : Nat} (hk : k < ps.length) :
    ∃ zn zv, ps[k] = (zn, zv) ∧ wr.cell? ⟨g, k * 2, none⟩ = some (.string zn) ∧ wr.cell? ⟨g, k * 2 + 1, none⟩ = some (.string zv) :=
  ⟨_, _, rfl, ((h.later hnx).2 k hk).1, ((h.later hnx).2 k hk).2.1⟩
theorem RowAt.drew {w : World} {g : Nat} {ps : List Pr} (h : RowAt w g ps) : RowAt w.drew g ps := h
theorem RowAt.alloc {w : World} {g : Nat} {ps : List Pr} (h : RowAt w g ps) (o : Obj) : RowAt (w.alloc o) g ps := h.later ((Below.refl _ _).alloc (Nat.le_refl _) o)

theorem RowAt.set {w : World} {g : Nat} {ps : List Pr} (h : RowAt w g ps) {i : Nat} (hi : i < ps.length) (x : Pr) :
    RowAt ((w.setCell ⟨g, i * 2, none⟩ (.string x.1)).setCell ⟨g, i * 2 + 1, none⟩ (.string x.2)) g (ps.set i x) := by
  refine ⟨by simpa using h.1, fun j hj => ?_⟩
  have hj' : j < ps.length := by simpa using hj
  obtain ⟨h1, h2, h3, h4⟩ := h.2 j hj'
  obtain ⟨k1, k2, k3, k4⟩ := h.2 i hi
  refine ⟨?_, ?_, by simpa [World.frozen?_setCell] using h3, by simpa [World.frozen?_setCell] using h4⟩
  · rw [World.cell?_setCell_other _ _ _ _ (fun c => by have := congrArg Addr.off c; simp at this; omega)]
    by_cases e : i = j
    · subst e
      rw [World.cell?_setCell_same _ _ _ k1]; simp
    · rw [World.cell?_setCell_other _ _ _ _ (fun c => by have := congrArg Addr.off c; simp at this; omega), h1]; simp [e]
  · by_cases e : i = j
    · subst e
      have : ((w.setCell ⟨g, i * 2, none⟩ (.string x.1)).cell? ⟨g, i * 2 + 1, none⟩) = some (.string (ps[i]).2) := by
        rw [World.cell?_setCell_other _ _ _ _ (fun c => by have := congrArg Addr.off c; simp at this), k2]
      rw [World.cell?_setCell_same _ _ _ this]; simp
    · rw [World.cell?_setCell_other _ _ _ _ (fun c => by have := congrArg Addr.off c; simp at this; omega), World.cell?_setCell_other _ _ _ _ (fun c => by have := congrArg Addr.off c; simp at this; omega), h2]; simp [e]

theorem info_pair : (Try.prog.info? 53).map (fun i => (i.zero, i.size, i.bytes)) = some (some (.agg #[.string ⟨#[]⟩, .string ⟨#[]⟩]), 2, 32) := by kernel_rfl

theorem made2 (a b : Value) (n j : Nat) (h : j < n) : (madeCells #[a, b] (n * 2)).toList[j * 2]? = some a ∧ (madeCells #[a, b] (n * 2)).toList[j * 2 + 1]? = some b := by
  have e0 : (j * 2) % 2 = 0 := by omega
  have e1 : (j * 2 + 1) % 2 = 1 := by omega
  have l0 : j * 2 < n * 2 := by omega
  have l1 : j * 2 + 1 < n * 2 := by omega
  constructor <;> simp [madeCells, l0, l1, e0, e1]

/-- 'make([]api.Pair, n)'. -/
theorem make_pairs (w : World) (n : Nat) (hn : n ≤ 1000000) :
    ∃ w2 : World, (Instr.makeSlice 22 (.int .i64 (n : Int)) (.int .i64 (n : Int))).run Try.prog w = .ok (.slice (some ⟨w.heap.size, 0, none⟩) n n) w2 ∧ Below w.heap.size w w2 ∧ w.heap.size < w2.heap.size ∧ RowAt w2 w.heap.size (List.replicate n zeroP) := by
  obtain ⟨i0, hi, hz0, hz1, hz2⟩ := info_parts info_pair
  obtain ⟨w2, hrun, hown, hgr⟩ := run_make_full (P := Try.prog) w w.heap.size 22 53 i0 _ 2 Try.underlying22 hi hz0 hz1 .i64 .i64 n (by rw [hz2]; omega) (by unfold maxLen; omega) (Nat.le_refl _)
  have hlt : w.heap.size < w2.heap.size := by
    rcases hown.2 with ⟨h', _⟩ | ⟨g', cap', cur, h', _, hg, _⟩
    · simp at h'
    · simp only [Value.slice.injEq, Option.some.injEq, Addr.mk.injEq, and_true, true_and] at h'
      rw [h'.1]
      exact (Array.getElem?_eq_some_iff.1 hg).1
  refine ⟨w2, hrun, (Below.refl _ _).grown hgr (Nat.le_refl _) (fun k h => by cases h), hlt, hlt, fun j hj => ?_⟩
  have hj' : j < n := by simpa using hj
  have hm := made2 (.string ⟨#[]⟩) (.string ⟨#[]⟩) n j hj'
  have hce : (Value.agg #[.string ⟨#[]⟩, .string ⟨#[]⟩]).cells = #[.string ⟨#[]⟩, .string ⟨#[]⟩] := by kernel_rfl
  rw [← hce] at hm
  refine ⟨?_, ?_, hown.frozenAt _, hown.frozenAt _⟩
  · rw [hown.cellAt _ (by omega)]
    simpa [zeroP] using hm.1
  · rw [hown.cellAt _ (by omega)]
    simpa [zeroP] using hm.2

end Go.Proofs.Ytbjcphefaciihaa
