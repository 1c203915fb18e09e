/-
  Pairs that are appended to a slice of the call's own.
-/
import Derived.Test.YtbjcphefaciihaaRowW
namespace Go.Proofs.Ytbjcphefaciihaa
open Go.RowKit
open Lab (Pr)

def pcells : List Pr → List Value
  | [] => []
  | p :: r => .string p.1 :: .string p.2 :: pcells r
theorem pcells_app : ∀ a b : List Pr, pcells (a ++ b) = pcells a ++ pcells b
  | [], _ => rfl
  | p :: r, b => by simp only [List.cons_append, pcells]; rw [pcells_app r b]
theorem pcells_at : ∀ (ps : List Pr) (j : Nat) (h : j < ps.length), (pcells ps)[j * 2]? = some (.string (ps[j]).1) ∧ (pcells ps)[j * 2 + 1]? = some (.string (ps[j]).2)
  | p :: r, 0, _ => ⟨rfl, rfl⟩
  | p :: r, j + 1, h => by
    have := pcells_at r j (by simpa using h)
    rw [show (j + 1) * 2 = j * 2 + 1 + 1 by omega]
    simpa [pcells] using this

/-- The slice value v is the call's own (blocks from B on), and its elements are the pairs. -/
def OwnP (w : World) (B : Nat) (v : Value) (ps : List Pr) : Prop := w.ownsRow B 53 2 v ps.length (pcells ps)
theorem OwnP.nil (w : World) (B : Nat) : OwnP w B (.slice none 0 0) [] := World.ownsRow_nil _ _ _ _

/-- What it is good for. -/
theorem OwnP.view {w : World} {B : Nat} {v : Value} {ps : List Pr} (h : OwnP w B v ps) :
    ∃ a cap, v = .slice a ps.length cap ∧ ps.length ≤ cap ∧ PairsAt w a ps ∧ ((a = none ∧ ps = []) ∨ ∃ g, a = some ⟨g, 0, none⟩ ∧ B ≤ g ∧ RowAt w g ps) := by
  rcases h.2 with ⟨rfl, h0⟩ | ⟨g, cap, cur, rfl, hB, hg, hnc, hcm, hcs, htake⟩
  · have : ps = [] := List.length_eq_zero_iff.1 h0
    subst this
    exact ⟨none, 0, rfl, Nat.le_refl _, PairsAt.nil _ _, .inl ⟨rfl, rfl⟩⟩
  · have hrow : RowAt w g ps := by
      refine ⟨(Array.getElem?_eq_some_iff.1 hg).1, fun j hj => ?_⟩
      have hp := pcells_at ps j hj
      refine ⟨?_, ?_, h.frozenAt _, h.frozenAt _⟩
      · rw [World.ownsRow.cellAt h _ (by omega)]; exact hp.1
      · rw [World.ownsRow.cellAt h _ (by omega)]; exact hp.2
    exact ⟨some ⟨g, 0, none⟩, cap, rfl, hnc, hrow.pairs, .inr ⟨g, rfl, hB, hrow⟩⟩
theorem OwnP.below {w w' : World} {B : Nat} {v : Value} {ps : List Pr} (h : OwnP w B v ps) (hb : Below w.heap.size w w') : OwnP w' B v ps := by
  refine ⟨h.1, ?_⟩
  rcases h.2 with h0 | ⟨g, cap, cur, hv, hB, hg, hnc, hcm, hcs, htake⟩
  · exact .inl h0
  · exact .inr ⟨g, cap, cur, hv, hB, (hb.block g (Array.getElem?_eq_some_iff.1 hg).1).trans hg, hnc, hcm, hcs, htake⟩

/-- Behind 'out = append(out, p)'. -/
theorem own_step {w wr w1 : World} {B : Nat} {v v' : Value} {ps : List Pr} {o : Obj} {n x : ByteArray} (hB : B ≤ wr.heap.size) (hown : (wr.alloc o).ownsRow B 53 2 v ps.length (pcells ps)) (hnx : Below B w wr)
    (hown' : w1.ownsRow B 53 2 v' (ps.length + 1) (pcells ps ++ [.string n, .string x])) (hgrow : (wr.alloc o).grownBy w1 v.ownBlock) :
    OwnP w1 B v' (ps ++ [(n, x)]) ∧ Below B w w1 := by
  refine ⟨?_, (hnx.alloc hB o).grown hgrow (by simp; omega) (fun k hk => (hown.lt k hk).1)⟩
  unfold OwnP
  rw [pcells_app]
  simpa [pcells] using hown'

theorem own_step2 {w wr w1 : World} {B n : Nat} {v v' : Value} {ps : List Pr} {o : Obj} {x y : ByteArray} (hn : n = ps.length) (hB : B ≤ wr.heap.size) (hown : (wr.alloc o).ownsRow B 53 2 v n (pcells ps)) (hnx : Below B w wr)
    (hown' : w1.ownsRow B 53 2 v' (n + 1) (pcells ps ++ [.string x, .string y])) (hgrow : (wr.alloc o).grownBy w1 v.ownBlock) :
    OwnP w1 B v' (ps ++ [(x, y)]) ∧ Below B w w1 := by
  subst hn
  exact own_step hB hown hnx hown' hgrow
theorem pcells_set1 : ∀ (ps : List Pr) (k : Nat) (h : k < ps.length) (n : ByteArray), (pcells ps).set (k * 2) (.string n) = pcells (ps.set k (n, (ps[k]).2))
  | p :: r, 0, _, n => rfl
  | p :: r, k + 1, h, n => by
    rw [show (k + 1) * 2 = k * 2 + 1 + 1 by omega]
    simp only [pcells, List.set_cons_succ, List.getElem_cons_succ]
    rw [pcells_set1 r k (by simpa using h) n]
theorem pcells_set2 : ∀ (ps : List Pr) (k : Nat) (h : k < ps.length) (x : ByteArray), (pcells ps).set (k * 2 + 1) (.string x) = pcells (ps.set k ((ps[k]).1, x))
  | p :: r, 0, _, n => rfl
  | p :: r, k + 1, h, n => by
    rw [show (k + 1) * 2 + 1 = k * 2 + 1 + 1 + 1 by omega]
    simp only [pcells, List.set_cons_succ, List.getElem_cons_succ]
    rw [pcells_set2 r k (by simpa using h) n]
theorem OwnP.set1 {w : World} {B g cap : Nat} {ps : List Pr} (h : OwnP w B (.slice (some ⟨g, 0, none⟩) ps.length cap) ps) {k : Nat} (hk : k < ps.length) (n : ByteArray) :
    OwnP (w.setCell ⟨g, k * 2, none⟩ (.string n)) B (.slice (some ⟨g, 0, none⟩) ps.length cap) (ps.set k (n, (ps[k]).2)) := by
  have := (World.ownsRow.stored h (k * 2) (.string n)).1
  rw [pcells_set1 ps k hk] at this
  unfold OwnP
  rwa [List.length_set]
theorem OwnP.set2 {w : World} {B g cap : Nat} {ps : List Pr} (h : OwnP w B (.slice (some ⟨g, 0, none⟩) ps.length cap) ps) {k : Nat} (hk : k < ps.length) (x : ByteArray) :
    OwnP (w.setCell ⟨g, k * 2 + 1, none⟩ (.string x)) B (.slice (some ⟨g, 0, none⟩) ps.length cap) (ps.set k ((ps[k]).1, x)) := by
  have := (World.ownsRow.stored h (k * 2 + 1) (.string x)).1
  rw [pcells_set2 ps k hk] at this
  unfold OwnP
  rwa [List.length_set]

theorem cells_two_new (w : World) (x y : Value) (t : TypeId) : ∀ (j : Nat) (u : Value), [x, y][j]? = some u → (w.alloc (.cells #[x, y] t)).cell? ((⟨w.heap.size, 0, none⟩ : Addr).add j) = some u := by
  intro j u hj
  match j, hj with
  | 0, hj => simp at hj; subst hj; simp [Addr.add]
  | 1, hj => simp at hj; subst hj; simp [Addr.add]
theorem cells_two_at (w : World) (x y : Value) (t : TypeId) (b : Nat) (hb : b = w.heap.size) : ∀ (j : Nat) (u : Value), [x, y][j]? = some u → (w.alloc (.cells #[x, y] t)).cell? ((⟨b, 0, none⟩ : Addr).add j) = some u := by
  subst hb; exact cells_two_new w x y t

def lenOf : Value → Nat
  | .slice _ n _ => n
  | _ => 0

end Go.Proofs.Ytbjcphefaciihaa
