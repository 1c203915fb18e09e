/-
  Chapter 7, plain: the names that are left, by their files' numbers. No program here.
-/
import Derived.Test.YtpbiongoigbmpaaGreatFirsts
namespace Go.Proofs.YtpbiongoigbmpaaGreat.Dsk
open Go.Proofs.YtpbiongoigbmpaaGreat

/-- Two lists that rise, of the same elements, are one. -/
theorem rise_eq {α : Type} (k : α → Nat) : ∀ (a b : List α), a.Pairwise (fun x y => k x < k y) → b.Pairwise (fun x y => k x < k y) → (∀ x, x ∈ a ↔ x ∈ b) → a = b
  | [], [], _, _, _ => rfl
  | [], y :: _, _, _, h => by have := (h y).2 (List.mem_cons_self ..); cases this
  | x :: _, [], _, _, h => by have := (h x).1 (List.mem_cons_self ..); cases this
  | x :: a, y :: b, ha, hb, h => by
    rw [List.pairwise_cons] at ha hb
    have hxy : x = y := by
      have h1 := (h x).1 (List.mem_cons_self ..)
      have h2 := (h y).2 (List.mem_cons_self ..)
      rcases List.mem_cons.1 h1 with e | e
      · exact e
      · rcases List.mem_cons.1 h2 with e2 | e2
        · exact e2.symm
        · have := hb.1 x e; have := ha.1 y e2; omega
    subst hxy
    have hab : ∀ z, z ∈ a ↔ z ∈ b := fun z => by
      have hz := h z
      rw [List.mem_cons, List.mem_cons] at hz
      constructor
      · intro hza
        rcases hz.1 (.inr hza) with e | e
        · subst e; have := ha.1 z hza; omega
        · exact e
      · intro hzb
        rcases hz.2 (.inr hzb) with e | e
        · subst e; have := hb.1 z hzb; omega
        · exact e
    rw [rise_eq k a b ha.2 hb.2 hab]

/-- A row's pairs, by their numbers. -/
def byNum (N : Nat) (r : Row) : Row := (List.range N).flatMap fun n => r.filter (fun p => decide (p.2 = n))
theorem byNum_mem {N : Nat} {r : Row} (h : ∀ p ∈ r, p.2 < N) (x : ByteArray × Nat) : x ∈ byNum N r ↔ x ∈ r := by
  unfold byNum
  rw [List.mem_flatMap]
  constructor
  · rintro ⟨n, _, hx⟩
    exact (List.mem_filter.1 hx).1
  · intro hx
    exact ⟨x.2, List.mem_range.2 (h x hx), List.mem_filter.2 ⟨hx, by simp⟩⟩
theorem filter_one {r : Row} (h : r.Pairwise (fun p q => p.2 ≠ q.2)) (n : Nat) : (r.filter (fun p => decide (p.2 = n))).Pairwise (fun x y => x.2 < y.2) := by
  have h1 := h.filter (fun p => decide (p.2 = n))
  refine h1.imp_of_mem fun {x y} hx hy hne => ?_
  have e1 := (List.mem_filter.1 hx).2
  have e2 := (List.mem_filter.1 hy).2
  simp only [decide_eq_true_eq] at e1 e2
  exact absurd (e1.trans e2.symm) hne
theorem byNum_up {N : Nat} {r : Row} (h : r.Pairwise (fun p q => p.2 ≠ q.2)) : (byNum N r).Pairwise (fun x y => x.2 < y.2) := by
  unfold byNum
  rw [List.pairwise_flatMap]
  refine ⟨fun n _ => filter_one h n, List.pairwise_lt_range.imp fun {a b} hab x hx y hy => ?_⟩
  have e1 := (List.mem_filter.1 hx).2
  have e2 := (List.mem_filter.1 hy).2
  simp only [decide_eq_true_eq] at e1 e2
  omega
theorem picks_by (d : Dk) (k : Int) (ks : List Int) : picks d k ks = (byNum d.files.length (rowAt d k)).map (fun p => (p.1, momAt d ks p.2)) := by
  unfold picks byNum
  rw [List.map_flatMap]
  congr 1
  funext n
  refine List.map_congr_left fun p hp => ?_
  have e1 := (List.mem_filter.1 hp).2
  simp only [decide_eq_true_eq] at e1
  rw [e1]
/-- What is left, from a list that rises and has just the row's pairs. -/
theorem picks_of {d : Dk} {k : Int} {ks : List Int} (hr : RowOk d.files.length (rowAt d k)) {l : Row} (hup : l.Pairwise (fun x y => x.2 < y.2)) (hm : ∀ x, x ∈ l ↔ x ∈ rowAt d k) : picks d k ks = l.map (fun p => (p.1, momAt d ks p.2)) := by
  rw [picks_by, rise_eq (fun p : ByteArray × Nat => p.2) _ l (byNum_up hr.2.2) hup (fun x => (byNum_mem (fun p hp => (hr.1 p hp).2) x).trans (hm x).symm)]

end Go.Proofs.YtpbiongoigbmpaaGreat.Dsk
