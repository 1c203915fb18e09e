/-
  Matchers that are appended to a slice of the call's own, inside a statement that leaves its order open.
-/
import Derived.Test.YtlhajjplkblllaaMatchW
import Derived.Deep.RegionLaw
import Derived.Laws.AppendOwnNone
import Derived.Laws.Rows
namespace Go.Proofs.Ytlhajjplkblllaa
open Go.RowKit
open Lab (Pr)

def mcells : List Mt → List Value
  | [] => []
  | p :: r => .string p.1 :: .string p.2.1 :: .bool p.2.2 :: mcells r
theorem mcells_app : ∀ a b : List Mt, mcells (a ++ b) = mcells a ++ mcells b
  | [], _ => rfl
  | p :: r, b => by simp only [List.cons_append, mcells]; rw [mcells_app r b]
theorem mcells_len : ∀ ms : List Mt, (mcells ms).length = ms.length * 3
  | [] => rfl
  | p :: r => by simp only [mcells, List.length_cons]; rw [mcells_len r]; omega
theorem mcells_at : ∀ (ms : List Mt) (j : Nat) (h : j < ms.length), (mcells ms)[j * 3]? = some (.string (ms[j]).1) ∧ (mcells ms)[j * 3 + 1]? = some (.string (ms[j]).2.1) ∧ (mcells ms)[j * 3 + 2]? = some (.bool (ms[j]).2.2)
  | p :: r, 0, _ => ⟨rfl, rfl, rfl⟩
  | p :: r, j + 1, h => by
    have := mcells_at r j (by simpa using h)
    rw [show (j + 1) * 3 = j * 3 + 1 + 1 + 1 by omega]
    simpa [mcells] using this
theorem mcells_one : ∀ (ms : List Mt), ∀ u ∈ mcells ms, u.oneCell' = true
  | [], u, h => by simp [mcells] at h
  | p :: r, u, h => by
    simp only [mcells, List.mem_cons] at h
    rcases h with rfl | rfl | rfl | h
    · rfl
    · rfl
    · rfl
    · exact mcells_one r u h
theorem mats_cells {w : World} {x : Addr} {ms : List Mt} (h : MatsAt w (some x) ms) : ∀ j u, (mcells ms)[j]? = some u → w.cell? (x.add j) = some u := by
  intro j u hu
  have hj : j < (mcells ms).length := (List.getElem?_eq_some_iff.1 hu).1
  rw [mcells_len] at hj
  obtain ⟨b, off, hx, _, hc⟩ := h 0 (by omega)
  simp only [Option.some.injEq] at hx
  subst hx
  have hq : j / 3 < ms.length := by omega
  have hcc := hc (j / 3) hq
  have hm := mcells_at ms (j / 3) hq
  rw [Addr.add_lit]
  rcases (show j = j / 3 * 3 ∨ j = j / 3 * 3 + 1 ∨ j = j / 3 * 3 + 2 by omega) with e | e | e
  · rw [e, hm.1] at hu
    rw [e, hcc.1]; exact hu
  · rw [e, hm.2.1] at hu
    rw [e, ← Nat.add_assoc, hcc.2.1]; exact hu
  · rw [e, hm.2.2] at hu
    rw [e, ← Nat.add_assoc, hcc.2.2]; exact hu

/-- The slice value v is the call's own, and its elements are the matchers. -/
def OwnM (w : World) (B : Nat) (v : Value) (ms : List Mt) : Prop := w.ownsRow B 39 3 v ms.length (mcells ms)
theorem OwnM.view {w : World} {B : Nat} {v : Value} {ms : List Mt} (h : OwnM w B v ms) : ∃ a cap, v = .slice a ms.length cap ∧ MatsAt w a ms := by
  rcases h.2 with ⟨rfl, h0⟩ | ⟨g, cap, cur, rfl, hB, hg, hnc, hcm, hcs, htake⟩
  · have : ms = [] := List.length_eq_zero_iff.1 h0
    subst this
    exact ⟨none, 0, rfl, MatsAt.nil _ _⟩
  · refine ⟨some ⟨g, 0, none⟩, cap, rfl, fun i hi => ⟨g, 0, rfl, (Array.getElem?_eq_some_iff.1 hg).1, fun j hj => ?_⟩⟩
    have hp := mcells_at ms j hj
    rw [Nat.zero_add]
    refine ⟨?_, ?_, ?_⟩
    · rw [World.ownsRow.cellAt h _ (by omega)]; exact hp.1
    · rw [World.ownsRow.cellAt h _ (by omega)]; exact hp.2.1
    · rw [World.ownsRow.cellAt h _ (by omega)]; exact hp.2.2
theorem OwnM.alloc {w : World} {B : Nat} {v : Value} {ms : List Mt} (h : OwnM w B v ms) (o : Obj) : OwnM (w.alloc o) B v ms := World.ownsRow.alloc h o

theorem info_mat : (Try.prog.info? 39).map (fun i => (i.zero, i.size, i.bytes)) = some (some (.agg #[.string ⟨#[]⟩, .string ⟨#[]⟩, .bool false]), 3, 40) := by kernel_rfl

/-- 'append(own, src...)', as a run. -/
theorem run_app (w : World) (B : Nat) (ty : TypeId) (v : Value) (ps : List Mt) (hown : OwnM w B v ps) (a : Option Addr) (c : Nat) (ms : List Mt) (hm : MatsAt w a ms) (hnil : a = none → c = 0) (hlen : ps.length + ms.length ≤ 1000) (hB : B ≤ w.heap.size) :
    ∃ v' w', (Builtin.append_ #[36, 36] ty #[v, .slice a ms.length c]).run Try.prog w = .ok v' w' ∧ OwnM w' B v' (ps ++ ms) ∧ w.grownBy w' v.ownBlock := by
  obtain ⟨i0, hi, hz0, hz1, hz2⟩ := info_parts info_mat
  cases a with
  | none =>
    have h0 : ms = [] := by
      cases ms with
      | nil => rfl
      | cons x r =>
        obtain ⟨b, off, hx, _⟩ := hm 0 (by simp)
        cases hx
    subst h0
    rw [hnil rfl]
    refine ⟨v, w, run_append_owned_none (P := Try.prog) (w := w) B 36 ty 39 i0 3 Try.underlying36 hi v ps.length (mcells ps) hown, by rw [List.append_nil]; exact hown, ⟨rfl, rfl, rfl, Nat.le_refl _, fun _ _ _ => rfl⟩⟩
  | some x =>
    obtain ⟨v', w', h1, h2, h3, _⟩ := run_append_own (P := Try.prog) w B 36 ty 39 i0 _ 3 40 Try.underlying36 hi hz0 hz1 hz2 rfl (by decide) v ps.length (mcells ps) hown x ms.length c (mcells ms) (mcells_len ms) (mats_cells hm) (mcells_one ms) (by unfold maxLen; omega) (by omega) hB
    refine ⟨v', w', h1, ?_, h3⟩
    unfold OwnM
    rw [mcells_app, List.length_append]
    exact h2

/-- .. as one step of a region that draws. -/
theorem step_app {ops : Array Oper} {o : Oper} {a : Act} {w : World} {K : Act → World → Prop} {Q : Exit → Act → World → Prop} {E : Prop}
    (hg : o.guard = none) (s x : Operand) (hop : o.op = Op.call { callee := Callee.builtin Builtin.append, args := #[s, x], argTypes := #[36, 36] })
    (B : Nat) (v : Value) (ps : List Mt) (hs : a.eval s = v) (ao : Option Addr) (c k : Nat) (ms : List Mt) (hx : a.eval x = .slice ao k c) (hk : k = ms.length)
    (hown : OwnM w B v ps) (hm : MatsAt w ao ms) (hnil : ao = none → c = 0) (hlen : ps.length + ms.length ≤ 1000) (hB : B ≤ w.heap.size)
    (hK : ∀ v' w', OwnM w' B v' (ps ++ ms) → w.grownBy w' v.ownBlock → K (a.put o.dst v') w') :
    if Region.wanted o (yielded ops a.tmps) = true then Oper.wp Try.prog o a w K Q else E := by
  have hw : Region.wanted o (yielded ops a.tmps) = true := by simp [Region.wanted, hg]
  rw [if_pos hw]
  subst hk
  obtain ⟨v', w', hrun, r1, r2⟩ := run_app w B o.type v ps hown ao c ms hm hnil hlen hB
  unfold Oper.wp
  simp [execOp, hop, resolve, invoke, builtin, hs, hx, hrun, Result.andThen]
  exact hK v' w' r1 r2

theorem own_empty {w : World} {B g : Nat} (h : w.heap[g]? = some (.cells #[] 39 (0, 0))) (hB : B ≤ g) : OwnM w B (.slice (some ⟨g, 0, none⟩) 0 0) [] :=
  ⟨rfl, .inr ⟨g, 0, #[], rfl, hB, h, Nat.le_refl _, Nat.zero_le _, rfl, rfl⟩⟩
theorem heap_new (w : World) (o : Obj) : (w.alloc o).heap[w.heap.size]? = some o := by
  show (w.heap.push o)[w.heap.size]? = some o
  simp

end Go.Proofs.Ytlhajjplkblllaa
