/-
  Frames (a number, a body, how many bytes) in memory: as a walk reads them, and as they are appended to a slice of the call's own. The two structs (the program's, the document's) have the same cells: the element's type is a letter.
-/
import Derived.Test.YtdpkpcoadojkhaaDoorBase
import Derived.Test.YtdpkpcoadojkhaaDoorFrmMath
import Derived.Laws.OwnMore
import Derived.OwnWalk
import Derived.Deep.RegionLaw
import Derived.Laws.AppendOwnNone
import Derived.Laws.Rows
namespace Go.Proofs.YtdpkpcoadojkhaaDoor
open Go.RowKit
open Frm (Fr)

theorem fbelow_drewN {B : Nat} {a w : World} (h : Below B a w) (n : Nat) : Below B a (w.drewN n) := ⟨h.os, h.tape, h.output, h.size, h.block⟩
theorem fbel_alloc (w : World) (o : Obj) : Below w.heap.size w (w.alloc o) := (Below.refl _ _).alloc (Nat.le_refl _) o
theorem fbel_al {w w1 : World} {o : Obj} (hb : Below (w.alloc o).heap.size (w.alloc o) w1) : Below w.heap.size w w1 := bl (fbel_alloc w o) hb
theorem fret_i {a b : Int} (h : a = b) : Ending.returned (.int .i64 a) = .returned (.int .i64 b) := by rw [h]
theorem fret_b {a b : Bool} (h : a = b) : Ending.returned (.bool a) = .returned (.bool b) := by rw [h]

def fq (f : Fr) : Value := .int .u64 ((f.1 : Nat) : Int)
def fb (f : Fr) : Value := .string (Num.bs f.2)
def fz (f : Fr) : Value := .int .i64 ((Frm.size f : Nat) : Int)

/-- The frames lie behind the address 'a', three cells each. -/
def FrmsAt (w : World) (a : Option Addr) (fs : List Fr) : Prop :=
  ∀ i, i < fs.length → ∃ b off, a = some ⟨b, off, none⟩ ∧ b < w.heap.size ∧ ∀ j (h : j < fs.length), w.cell? ⟨b, off + j * 3, none⟩ = some (fq fs[j]) ∧ w.cell? ⟨b, off + j * 3 + 1, none⟩ = some (fb fs[j]) ∧ w.cell? ⟨b, off + j * 3 + 2, none⟩ = some (fz fs[j])

theorem FrmsAt.nil (w : World) (a : Option Addr) : FrmsAt w a [] := fun i h => by simp at h
theorem FrmsAt.below {w w' : World} {a : Option Addr} {fs : List Fr} (h : FrmsAt w a fs) (hb : Below w.heap.size w w') : FrmsAt w' a fs := by
  intro i hi
  obtain ⟨b, off, ha, hbl, hc⟩ := h i hi
  have hsz := hb.size
  exact ⟨b, off, ha, by omega, fun j hj => ⟨(hb.cell (by exact hbl)).trans (hc j hj).1, (hb.cell (by exact hbl)).trans (hc j hj).2.1, (hb.cell (by exact hbl)).trans (hc j hj).2.2⟩⟩
theorem FrmsAt.take {w : World} {a : Option Addr} {fs : List Fr} (h : FrmsAt w a fs) (k : Nat) : FrmsAt w a (fs.take k) := by
  intro i hi
  obtain ⟨b, off, ha, hbl, hc⟩ := h i (by simp at hi; omega)
  refine ⟨b, off, ha, hbl, fun j hj => ?_⟩
  have := hc j (by simp at hj; omega)
  simpa using this
/-- Frame k, in a later world. -/
theorem FrmsAt.get {w wr : World} {a : Option Addr} {fs : List Fr} (h : FrmsAt w a fs) (hnx : Below w.heap.size w wr) {k : Nat} (hk : k < fs.length) :
    ∃ b off q t, a = some ⟨b, off, none⟩ ∧ b < w.heap.size ∧ fs[k] = (q, t) ∧ wr.cell? ⟨b, off + k * 3, none⟩ = some (.int .u64 ((q : Nat) : Int)) ∧ wr.cell? ⟨b, off + k * 3 + 1, none⟩ = some (.string (Num.bs t)) ∧ wr.cell? ⟨b, off + k * 3 + 2, none⟩ = some (.int .i64 ((Frm.size (q, t) : Nat) : Int)) := by
  obtain ⟨b, off, ha, hbl, hc⟩ := h k hk
  exact ⟨b, off, _, _, ha, hbl, rfl, (hnx.cell (by exact hbl)).trans (hc k hk).1, (hnx.cell (by exact hbl)).trans (hc k hk).2.1, (hnx.cell (by exact hbl)).trans (hc k hk).2.2⟩

def fcells : List Fr → List Value
  | [] => []
  | p :: r => fq p :: fb p :: fz p :: fcells r
theorem fcells_app : ∀ a b : List Fr, fcells (a ++ b) = fcells a ++ fcells b
  | [], _ => rfl
  | p :: r, b => by simp only [List.cons_append, fcells]; rw [fcells_app r b]
theorem fcells_len : ∀ fs : List Fr, (fcells fs).length = fs.length * 3
  | [] => rfl
  | p :: r => by simp only [fcells, List.length_cons]; rw [fcells_len r]; omega
theorem fcells_at : ∀ (fs : List Fr) (j : Nat) (h : j < fs.length), (fcells fs)[j * 3]? = some (fq fs[j]) ∧ (fcells fs)[j * 3 + 1]? = some (fb fs[j]) ∧ (fcells fs)[j * 3 + 2]? = some (fz fs[j])
  | p :: r, 0, _ => ⟨rfl, rfl, rfl⟩
  | p :: r, j + 1, h => by
    have := fcells_at r j (by simpa using h)
    rw [show (j + 1) * 3 = j * 3 + 1 + 1 + 1 by omega]
    simpa [fcells] using this
theorem fcells_one : ∀ (fs : List Fr), ∀ x ∈ fcells fs, x.oneCell' = true
  | [], x, h => by simp [fcells] at h
  | p :: r, x, h => by
    simp only [fcells, List.mem_cons] at h
    rcases h with rfl | rfl | rfl | h
    · rfl
    · rfl
    · rfl
    · exact fcells_one r x h
theorem frms_cells {w : World} {x : Addr} {fs : List Fr} (h : FrmsAt w (some x) fs) : ∀ j y, (fcells fs)[j]? = some y → w.cell? (x.add j) = some y := by
  intro j y hy
  have hj : j < (fcells fs).length := (List.getElem?_eq_some_iff.1 hy).1
  rw [fcells_len] at hj
  obtain ⟨b, off, hx, _, hc⟩ := h 0 (by omega)
  simp only [Option.some.injEq] at hx
  subst hx
  have hq : j / 3 < fs.length := by omega
  have hcc := hc (j / 3) hq
  have hm := fcells_at fs (j / 3) hq
  rw [Addr.add_lit]
  rcases (show j = j / 3 * 3 ∨ j = j / 3 * 3 + 1 ∨ j = j / 3 * 3 + 2 by omega) with e | e | e
  · rw [e, hm.1] at hy
    rw [e, hcc.1]; exact hy
  · rw [e, hm.2.1] at hy
    rw [e, ← Nat.add_assoc, hcc.2.1]; exact hy
  · rw [e, hm.2.2] at hy
    rw [e, ← Nat.add_assoc, hcc.2.2]; exact hy

/-- The slice value v (of elements of type T) is the call's own (blocks from B on), and its elements are the frames. -/
def OwnF (T : TypeId) (w : World) (B : Nat) (v : Value) (fs : List Fr) : Prop := w.ownsRow B T 3 v fs.length (fcells fs)
theorem OwnF.nil (T : TypeId) (w : World) (B : Nat) : OwnF T w B (.slice none 0 0) [] := World.ownsRow_nil _ _ _ _
theorem OwnF.view {T : TypeId} {w : World} {B : Nat} {v : Value} {fs : List Fr} (h : OwnF T w B v fs) :
    ∃ a cap, v = .slice a fs.length cap ∧ fs.length ≤ cap ∧ FrmsAt w a fs ∧ (a = none → cap = 0) := by
  rcases h.2 with ⟨rfl, h0⟩ | ⟨g, cap, cur, rfl, hB, hg, hnc, hcm, hcs, htake⟩
  · have : fs = [] := List.length_eq_zero_iff.1 h0
    subst this
    exact ⟨none, 0, rfl, Nat.le_refl _, FrmsAt.nil _ _, fun _ => rfl⟩
  · refine ⟨some ⟨g, 0, none⟩, cap, rfl, hnc, fun i hi => ⟨g, 0, rfl, (Array.getElem?_eq_some_iff.1 hg).1, fun j hj => ?_⟩, fun e => by cases e⟩
    have hp := fcells_at fs j hj
    rw [Nat.zero_add]
    refine ⟨?_, ?_, ?_⟩
    · rw [World.ownsRow.cellAt h _ (by omega)]; exact hp.1
    · rw [World.ownsRow.cellAt h _ (by omega)]; exact hp.2.1
    · rw [World.ownsRow.cellAt h _ (by omega)]; exact hp.2.2
theorem OwnF.below {T : TypeId} {w w' : World} {B : Nat} {v : Value} {fs : List Fr} (h : OwnF T w B v fs) (hb : Below w.heap.size w w') : OwnF T w' B v fs := by
  refine ⟨h.1, ?_⟩
  rcases h.2 with h0 | ⟨g, cap, cur, hv, hB, hg, hnc, hcm, hcs, htake⟩
  · exact .inl h0
  · exact .inr ⟨g, cap, cur, hv, hB, (hb.block g (Array.getElem?_eq_some_iff.1 hg).1).trans hg, hnc, hcm, hcs, htake⟩
theorem OwnF.mono {T : TypeId} {w : World} {B B' : Nat} {v : Value} {fs : List Fr} (h : OwnF T w B v fs) (hB : B' ≤ B) : OwnF T w B' v fs := by
  refine ⟨h.1, ?_⟩
  rcases h.2 with h0 | ⟨g, cap, cur, hv, hg, hr⟩
  · exact .inl h0
  · exact .inr ⟨g, cap, cur, hv, Nat.le_trans hB hg, hr⟩
theorem OwnF.alloc {T : TypeId} {w : World} {B : Nat} {v : Value} {fs : List Fr} (h : OwnF T w B v fs) (o : Obj) : OwnF T (w.alloc o) B v fs := World.ownsRow.alloc h o

/-- Behind 'out = append(out, x)'. -/
theorem ownf_step {T : TypeId} {w wr w1 : World} {B n : Nat} {v v' : Value} {fs : List Fr} {o : Obj} {f : Fr} (hn : n = fs.length) (hB : B ≤ wr.heap.size) (hown : (wr.alloc o).ownsRow B T 3 v n (fcells fs)) (hnx : Below B w wr)
    (hown' : w1.ownsRow B T 3 v' (n + 1) (fcells fs ++ [fq f, fb f, fz f])) (hgrow : (wr.alloc o).grownBy w1 v.ownBlock) :
    OwnF T w1 B v' (fs ++ [f]) ∧ Below B w w1 := by
  subst hn
  refine ⟨?_, (hnx.alloc hB o).grown hgrow (by simp; omega) (fun k hk => (hown.lt k hk).1)⟩
  unfold OwnF
  rw [fcells_app]
  simpa [fcells] using hown'

theorem fcells_three_new (w : World) (x y z : Value) (t : TypeId) : ∀ (j : Nat) (u : Value), [x, y, z][j]? = some u → (w.alloc (.cells #[x, y, z] t)).cell? ((⟨w.heap.size, 0, none⟩ : Addr).add j) = some u := by
  intro j u hj
  match j, hj with
  | 0, hj => simp at hj; subst hj; simp [Addr.add]
  | 1, hj => simp at hj; subst hj; simp [Addr.add]
  | 2, hj => simp at hj; subst hj; simp [Addr.add]

/-- The three cells of a new block, later. -/
theorem three_later {w w1 : World} {x y z : Value} {t : TypeId} (hb : Below (w.alloc (.cells #[x, y, z] t)).heap.size (w.alloc (.cells #[x, y, z] t)) w1) :
    w1.cell? ⟨w.heap.size, 0, none⟩ = some x ∧ w1.cell? ⟨w.heap.size, 1, none⟩ = some y ∧ w1.cell? ⟨w.heap.size, 2, none⟩ = some z ∧ w1.frozen? ⟨w.heap.size, 0, none⟩ = false ∧ w1.frozen? ⟨w.heap.size, 1, none⟩ = false ∧ w1.frozen? ⟨w.heap.size, 2, none⟩ = false := by
  refine ⟨?_, ?_, ?_, ?_, ?_, ?_⟩
  · rw [hb.cell (p := ⟨w.heap.size, 0, none⟩) (by simp)]; simp
  · rw [hb.cell (p := ⟨w.heap.size, 1, none⟩) (by simp)]; simp
  · rw [hb.cell (p := ⟨w.heap.size, 2, none⟩) (by simp)]; simp
  · rw [hb.frozen (p := ⟨w.heap.size, 0, none⟩) (by simp), World.frozen?_alloc_at _ _ _ _ rfl]
  · rw [hb.frozen (p := ⟨w.heap.size, 1, none⟩) (by simp), World.frozen?_alloc_at _ _ _ _ rfl]
  · rw [hb.frozen (p := ⟨w.heap.size, 2, none⟩) (by simp), World.frozen?_alloc_at _ _ _ _ rfl]
theorem set_three {w : World} {b : Nat} {x y z : Value} (hx : w.cell? ⟨b, 0, none⟩ = some x) (hy : w.cell? ⟨b, 1, none⟩ = some y) (hz : w.cell? ⟨b, 2, none⟩ = some z) (u v t : Value) :
    (((w.setCell ⟨b, 0, none⟩ u).setCell ⟨b, 1, none⟩ v).setCell ⟨b, 2, none⟩ t).cell? ⟨b, 0, none⟩ = some u ∧ (((w.setCell ⟨b, 0, none⟩ u).setCell ⟨b, 1, none⟩ v).setCell ⟨b, 2, none⟩ t).cell? ⟨b, 1, none⟩ = some v ∧ (((w.setCell ⟨b, 0, none⟩ u).setCell ⟨b, 1, none⟩ v).setCell ⟨b, 2, none⟩ t).cell? ⟨b, 2, none⟩ = some t := by
  have n01 : ∀ {i j : Nat}, i ≠ j → (⟨b, i, none⟩ : Addr) ≠ ⟨b, j, none⟩ := fun h c => h (congrArg Addr.off c)
  have a0 : (w.setCell ⟨b, 0, none⟩ u).cell? ⟨b, 0, none⟩ = some u := World.cell?_setCell_same _ _ _ hx
  have a1 : (w.setCell ⟨b, 0, none⟩ u).cell? ⟨b, 1, none⟩ = some y := by rw [World.cell?_setCell_other _ _ _ _ (n01 (by decide)), hy]
  have a2 : (w.setCell ⟨b, 0, none⟩ u).cell? ⟨b, 2, none⟩ = some z := by rw [World.cell?_setCell_other _ _ _ _ (n01 (by decide)), hz]
  have b0 : ((w.setCell ⟨b, 0, none⟩ u).setCell ⟨b, 1, none⟩ v).cell? ⟨b, 0, none⟩ = some u := by rw [World.cell?_setCell_other _ _ _ _ (n01 (by decide)), a0]
  have b1 : ((w.setCell ⟨b, 0, none⟩ u).setCell ⟨b, 1, none⟩ v).cell? ⟨b, 1, none⟩ = some v := World.cell?_setCell_same _ _ _ a1
  have b2 : ((w.setCell ⟨b, 0, none⟩ u).setCell ⟨b, 1, none⟩ v).cell? ⟨b, 2, none⟩ = some z := by rw [World.cell?_setCell_other _ _ _ _ (n01 (by decide)), a2]
  refine ⟨?_, ?_, World.cell?_setCell_same _ _ _ b2⟩
  · rw [World.cell?_setCell_other _ _ _ _ (n01 (by decide)), b0]
  · rw [World.cell?_setCell_other _ _ _ _ (n01 (by decide)), b1]

theorem info_frm : (Tryd.prog.info? 28).map (fun i => (i.zero, i.size, i.bytes)) = some (some (.agg #[.int .u64 0, .string ⟨#[]⟩, .int .i64 0]), 3, 32) := by kernel_rfl
theorem info_rfrm : (Tryd.prog.info? 31).map (fun i => (i.zero, i.size, i.bytes)) = some (some (.agg #[.int .u64 0, .string ⟨#[]⟩, .int .i64 0]), 3, 32) := by kernel_rfl

end Go.Proofs.YtdpkpcoadojkhaaDoor
