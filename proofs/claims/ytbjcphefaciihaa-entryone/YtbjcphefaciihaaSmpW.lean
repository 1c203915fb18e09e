/-
  Samples (api.Sample: a time, a value) in memory: as a walk reads them, and as they are appended to a slice of the call's own.
-/
import Derived.Test.YtbjcphefaciihaaBase
import Derived.Test.YtbjcphefaciihaaSmpMath
import Derived.Laws.OwnMore
import Derived.OwnWalk
import Derived.Deep.RegionLaw
import Derived.Laws.AppendOwnNone
import Derived.Laws.Rows
import Derived.Laws.Bits64
import Derived.Laws.BitsLemmas
namespace Go.Proofs.Ytbjcphefaciihaa
open Go.RowKit
open Smp (Sm)

theorem wu (x : Int) : IntKind.u64.wrap x = Smp.u x := by rw [IntKind.wrap_u64]; rfl
theorem wi (x : Int) : IntKind.i64.wrap x = Smp.i x := by rw [IntKind.wrap_i64]; rfl

/-- The samples lie behind the address 'a', two cells each. -/
def SmpsAt (w : World) (a : Option Addr) (ss : List Sm) : Prop :=
  ∀ i, i < ss.length → ∃ b off, a = some ⟨b, off, none⟩ ∧ b < w.heap.size ∧ ∀ j (h : j < ss.length), w.cell? ⟨b, off + j * 2, none⟩ = some (.int .u64 (ss[j]).1) ∧ w.cell? ⟨b, off + j * 2 + 1, none⟩ = some (.int .i64 (ss[j]).2)

theorem SmpsAt.nil (w : World) (a : Option Addr) : SmpsAt w a [] := fun i h => by simp at h
theorem SmpsAt.below {w w' : World} {a : Option Addr} {ss : List Sm} (h : SmpsAt w a ss) (hb : Below w.heap.size w w') : SmpsAt w' a ss := by
  intro i hi
  obtain ⟨b, off, ha, hbl, hc⟩ := h i hi
  have hsz := hb.size
  exact ⟨b, off, ha, by omega, fun j hj => ⟨(hb.cell (by exact hbl)).trans (hc j hj).1, (hb.cell (by exact hbl)).trans (hc j hj).2⟩⟩
theorem SmpsAt.take {w : World} {a : Option Addr} {ss : List Sm} (h : SmpsAt w a ss) (k : Nat) : SmpsAt w a (ss.take k) := by
  intro i hi
  obtain ⟨b, off, ha, hbl, hc⟩ := h i (by simp at hi; omega)
  refine ⟨b, off, ha, hbl, fun j hj => ?_⟩
  have := hc j (by simp at hj; omega)
  simpa using this
/-- Sample k, in a later world. -/
theorem SmpsAt.get {w wr : World} {a : Option Addr} {ss : List Sm} (h : SmpsAt w a ss) (hnx : Below w.heap.size w wr) {k : Nat} (hk : k < ss.length) :
    ∃ b off t v, a = some ⟨b, off, none⟩ ∧ b < w.heap.size ∧ ss[k] = (t, v) ∧ wr.cell? ⟨b, off + k * 2, none⟩ = some (.int .u64 t) ∧ wr.cell? ⟨b, off + k * 2 + 1, none⟩ = some (.int .i64 v) := by
  obtain ⟨b, off, ha, hbl, hc⟩ := h k hk
  exact ⟨b, off, _, _, ha, hbl, rfl, (hnx.cell (by exact hbl)).trans (hc k hk).1, (hnx.cell (by exact hbl)).trans (hc k hk).2⟩
/-- .. and the one ahead of it. -/
theorem SmpsAt.get2 {w wr : World} {a : Option Addr} {ss : List Sm} (h : SmpsAt w a ss) (hnx : Below w.heap.size w wr) {k : Nat} (hk : k + 1 < ss.length) :
    ∃ b off t v t' v', a = some ⟨b, off, none⟩ ∧ b < w.heap.size ∧ ss[k] = (t, v) ∧ ss[k + 1] = (t', v') ∧ wr.cell? ⟨b, off + k * 2, none⟩ = some (.int .u64 t) ∧ wr.cell? ⟨b, off + k * 2 + 1, none⟩ = some (.int .i64 v) ∧
      wr.cell? ⟨b, off + 2 + k * 2, none⟩ = some (.int .u64 t') ∧ wr.cell? ⟨b, off + 2 + k * 2 + 1, none⟩ = some (.int .i64 v') ∧ wr.cell? ⟨b, off + (k + 1) * 2, none⟩ = some (.int .u64 t') ∧ wr.cell? ⟨b, off + (k + 1) * 2 + 1, none⟩ = some (.int .i64 v') := by
  obtain ⟨b, off, ha, hbl, hc⟩ := h k (by omega)
  have h1 := hc k (by omega)
  have h2 := hc (k + 1) hk
  have e : off + (k + 1) * 2 = off + 2 + k * 2 := by omega
  refine ⟨b, off, _, _, _, _, ha, hbl, rfl, rfl, (hnx.cell (by exact hbl)).trans h1.1, (hnx.cell (by exact hbl)).trans h1.2, ?_, ?_, (hnx.cell (by exact hbl)).trans h2.1, (hnx.cell (by exact hbl)).trans h2.2⟩
  · rw [← e]; exact (hnx.cell (by exact hbl)).trans h2.1
  · rw [← e]; exact (hnx.cell (by exact hbl)).trans h2.2

def scells : List Sm → List Value
  | [] => []
  | p :: r => .int .u64 p.1 :: .int .i64 p.2 :: scells r
theorem scells_app : ∀ a b : List Sm, scells (a ++ b) = scells a ++ scells b
  | [], _ => rfl
  | p :: r, b => by simp only [List.cons_append, scells]; rw [scells_app r b]
theorem scells_len : ∀ ss : List Sm, (scells ss).length = ss.length * 2
  | [] => rfl
  | p :: r => by simp only [scells, List.length_cons]; rw [scells_len r]; omega
theorem scells_at : ∀ (ss : List Sm) (j : Nat) (h : j < ss.length), (scells ss)[j * 2]? = some (.int .u64 (ss[j]).1) ∧ (scells ss)[j * 2 + 1]? = some (.int .i64 (ss[j]).2)
  | p :: r, 0, _ => ⟨rfl, rfl⟩
  | p :: r, j + 1, h => by
    have := scells_at r j (by simpa using h)
    rw [show (j + 1) * 2 = j * 2 + 1 + 1 by omega]
    simpa [scells] using this
theorem scells_one : ∀ (ss : List Sm), ∀ x ∈ scells ss, x.oneCell' = true
  | [], x, h => by simp [scells] at h
  | p :: r, x, h => by
    simp only [scells, List.mem_cons] at h
    rcases h with rfl | rfl | h
    · rfl
    · rfl
    · exact scells_one r x h
theorem smps_cells {w : World} {x : Addr} {ss : List Sm} (h : SmpsAt w (some x) ss) : ∀ j y, (scells ss)[j]? = some y → w.cell? (x.add j) = some y := by
  intro j y hy
  have hj : j < (scells ss).length := (List.getElem?_eq_some_iff.1 hy).1
  rw [scells_len] at hj
  obtain ⟨b, off, hx, _, hc⟩ := h 0 (by omega)
  simp only [Option.some.injEq] at hx
  subst hx
  have hq : j / 2 < ss.length := by omega
  have hcc := hc (j / 2) hq
  have hm := scells_at ss (j / 2) hq
  rw [Addr.add_lit]
  rcases (show j = j / 2 * 2 ∨ j = j / 2 * 2 + 1 by omega) with e | e
  · rw [e, hm.1] at hy
    rw [e, hcc.1]; exact hy
  · rw [e, hm.2] at hy
    rw [e, ← Nat.add_assoc, hcc.2]; exact hy

/-- The slice value v is the call's own (blocks from B on), and its elements are the samples. -/
def OwnS (w : World) (B : Nat) (v : Value) (ss : List Sm) : Prop := w.ownsRow B 67 2 v ss.length (scells ss)
theorem OwnS.nil (w : World) (B : Nat) : OwnS w B (.slice none 0 0) [] := World.ownsRow_nil _ _ _ _

/-- What it is good for. -/
theorem OwnS.view {w : World} {B : Nat} {v : Value} {ss : List Sm} (h : OwnS w B v ss) :
    ∃ a cap, v = .slice a ss.length cap ∧ ss.length ≤ cap ∧ SmpsAt w a ss ∧ (a = none → cap = 0) := by
  rcases h.2 with ⟨rfl, h0⟩ | ⟨g, cap, cur, rfl, hB, hg, hnc, hcm, hcs, htake⟩
  · have : ss = [] := List.length_eq_zero_iff.1 h0
    subst this
    exact ⟨none, 0, rfl, Nat.le_refl _, SmpsAt.nil _ _, fun _ => rfl⟩
  · refine ⟨some ⟨g, 0, none⟩, cap, rfl, hnc, fun i hi => ⟨g, 0, rfl, (Array.getElem?_eq_some_iff.1 hg).1, fun j hj => ?_⟩, fun e => by cases e⟩
    have hp := scells_at ss j hj
    rw [Nat.zero_add]
    refine ⟨?_, ?_⟩
    · rw [World.ownsRow.cellAt h _ (by omega)]; exact hp.1
    · rw [World.ownsRow.cellAt h _ (by omega)]; exact hp.2
theorem OwnS.below {w w' : World} {B : Nat} {v : Value} {ss : List Sm} (h : OwnS w B v ss) (hb : Below w.heap.size w w') : OwnS w' B v ss := by
  refine ⟨h.1, ?_⟩
  rcases h.2 with h0 | ⟨g, cap, cur, hv, hB, hg, hnc, hcm, hcs, htake⟩
  · exact .inl h0
  · exact .inr ⟨g, cap, cur, hv, hB, (hb.block g (Array.getElem?_eq_some_iff.1 hg).1).trans hg, hnc, hcm, hcs, htake⟩
theorem OwnS.mono {w : World} {B B' : Nat} {v : Value} {ss : List Sm} (h : OwnS w B v ss) (hB : B' ≤ B) : OwnS w B' v ss := by
  refine ⟨h.1, ?_⟩
  rcases h.2 with h0 | ⟨g, cap, cur, hv, hg, hr⟩
  · exact .inl h0
  · exact .inr ⟨g, cap, cur, hv, Nat.le_trans hB hg, hr⟩
theorem OwnS.alloc {w : World} {B : Nat} {v : Value} {ss : List Sm} (h : OwnS w B v ss) (o : Obj) : OwnS (w.alloc o) B v ss := World.ownsRow.alloc h o
/-- A slice of one, as it is built. -/
theorem OwnS.one {w : World} {B : Nat} (t v : Int) (hB : B ≤ w.heap.size) : OwnS (w.alloc (.cells #[.int .u64 t, .int .i64 v] 67)) B (.slice (some ⟨w.heap.size, 0, none⟩) 1 1) [(t, v)] :=
  ⟨rfl, .inr ⟨w.heap.size, 1, #[.int .u64 t, .int .i64 v], rfl, hB, by show (w.heap.push _)[w.heap.size]? = _; simp, Nat.le_refl _, by unfold maxLen; omega, rfl, rfl⟩⟩

/-- Behind 'out = append(out, x)'. -/
theorem owns_step {w wr w1 : World} {B n : Nat} {v v' : Value} {ss : List Sm} {o : Obj} {x y : Int} (hn : n = ss.length) (hB : B ≤ wr.heap.size) (hown : (wr.alloc o).ownsRow B 67 2 v n (scells ss)) (hnx : Below B w wr)
    (hown' : w1.ownsRow B 67 2 v' (n + 1) (scells ss ++ [.int .u64 x, .int .i64 y])) (hgrow : (wr.alloc o).grownBy w1 v.ownBlock) :
    OwnS w1 B v' (ss ++ [(x, y)]) ∧ Below B w w1 := by
  subst hn
  refine ⟨?_, (hnx.alloc hB o).grown hgrow (by simp; omega) (fun k hk => (hown.lt k hk).1)⟩
  unfold OwnS
  rw [scells_app]
  simpa [scells] using hown'

theorem scells_set1 : ∀ (ps : List Sm) (k : Nat) (h : k < ps.length) (n : Int), (scells ps).set (k * 2) (.int .u64 n) = scells (ps.set k (n, (ps[k]).2))
  | p :: r, 0, _, n => rfl
  | p :: r, k + 1, h, n => by
    rw [show (k + 1) * 2 = k * 2 + 1 + 1 by omega]
    simp only [scells, List.set_cons_succ, List.getElem_cons_succ]
    rw [scells_set1 r k (by simpa using h) n]
theorem scells_set2 : ∀ (ps : List Sm) (k : Nat) (h : k < ps.length) (x : Int), (scells ps).set (k * 2 + 1) (.int .i64 x) = scells (ps.set k ((ps[k]).1, x))
  | p :: r, 0, _, n => rfl
  | p :: r, k + 1, h, n => by
    rw [show (k + 1) * 2 + 1 = k * 2 + 1 + 1 + 1 by omega]
    simp only [scells, List.set_cons_succ, List.getElem_cons_succ]
    rw [scells_set2 r k (by simpa using h) n]
theorem OwnS.set1 {w : World} {B g cap : Nat} {ps : List Sm} (h : OwnS w B (.slice (some ⟨g, 0, none⟩) ps.length cap) ps) {k : Nat} (hk : k < ps.length) (n : Int) :
    OwnS (w.setCell ⟨g, k * 2, none⟩ (.int .u64 n)) B (.slice (some ⟨g, 0, none⟩) ps.length cap) (ps.set k (n, (ps[k]).2)) := by
  have := (World.ownsRow.stored h (k * 2) (.int .u64 n)).1
  rw [scells_set1 ps k hk] at this
  unfold OwnS
  rwa [List.length_set]
theorem OwnS.set2 {w : World} {B g cap : Nat} {ps : List Sm} (h : OwnS w B (.slice (some ⟨g, 0, none⟩) ps.length cap) ps) {k : Nat} (hk : k < ps.length) (x : Int) :
    OwnS (w.setCell ⟨g, k * 2 + 1, none⟩ (.int .i64 x)) B (.slice (some ⟨g, 0, none⟩) ps.length cap) (ps.set k ((ps[k]).1, x)) := by
  have := (World.ownsRow.stored h (k * 2 + 1) (.int .i64 x)).1
  rw [scells_set2 ps k hk] at this
  unfold OwnS
  rwa [List.length_set]
/-- Where it lies, if it has any. -/
theorem OwnS.row {w : World} {B : Nat} {v : Value} {ss : List Sm} (h : OwnS w B v ss) (h0 : 0 < ss.length) :
    ∃ g cap, v = .slice (some ⟨g, 0, none⟩) ss.length cap ∧ ss.length ≤ cap ∧ B ≤ g ∧ g < w.heap.size ∧ (∀ j (hj : j < ss.length), w.cell? ⟨g, j * 2, none⟩ = some (.int .u64 (ss[j]).1) ∧ w.cell? ⟨g, j * 2 + 1, none⟩ = some (.int .i64 (ss[j]).2)) ∧ ∀ o, w.frozen? ⟨g, o, none⟩ = false := by
  rcases h.2 with ⟨rfl, h1⟩ | ⟨g, cap, cur, rfl, hB, hg, hnc, hcm, hcs, htake⟩
  · omega
  · refine ⟨g, cap, rfl, hnc, hB, (Array.getElem?_eq_some_iff.1 hg).1, fun j hj => ?_, fun o => World.ownsRow.frozenAt h o⟩
    have hp := scells_at ss j hj
    refine ⟨?_, ?_⟩
    · rw [World.ownsRow.cellAt h _ (by omega)]; exact hp.1
    · rw [World.ownsRow.cellAt h _ (by omega)]; exact hp.2

theorem scells_two_new (w : World) (x y : Value) (t : TypeId) : ∀ (j : Nat) (z : Value), [x, y][j]? = some z → (w.alloc (.cells #[x, y] t)).cell? ((⟨w.heap.size, 0, none⟩ : Addr).add j) = some z := by
  intro j z hj
  match j, hj with
  | 0, hj => simp at hj; subst hj; simp [Addr.add]
  | 1, hj => simp at hj; subst hj; simp [Addr.add]
theorem scells_two_at (w : World) (x y : Value) (t : TypeId) (b : Nat) (hb : b = w.heap.size) : ∀ (j : Nat) (z : Value), [x, y][j]? = some z → (w.alloc (.cells #[x, y] t)).cell? ((⟨b, 0, none⟩ : Addr).add j) = some z := by
  subst hb; exact scells_two_new w x y t

theorem info_smp : (Try.prog.info? 67).map (fun i => (i.zero, i.size, i.bytes)) = some (some (.agg #[.int .u64 0, .int .i64 0]), 2, 16) := by kernel_rfl

/-- 'append(own, src...)', as a run. -/
theorem run_apps (w : World) (B : Nat) (ty : TypeId) (v : Value) (ps : List Sm) (hown : OwnS w B v ps) (a : Option Addr) (c : Nat) (ms : List Sm) (hm : SmpsAt w a ms) (hnil : a = none → c = 0) (hlen : ps.length + ms.length ≤ 1000) (hB : B ≤ w.heap.size) :
    ∃ v' w', (Builtin.append_ #[23, 23] ty #[v, .slice a ms.length c]).run Try.prog w = .ok v' w' ∧ OwnS w' B v' (ps ++ ms) ∧ w.grownBy w' v.ownBlock := by
  obtain ⟨i0, hi, hz0, hz1, hz2⟩ := info_parts info_smp
  cases a with
  | none =>
    have h0 : ms = [] := by
      cases ms with
      | nil => rfl
      | cons x r =>
        obtain ⟨b, off, hx, _⟩ := hm 0 (by simp)
        cases hx
    subst h0
    rw [hnil rfl]
    refine ⟨v, w, run_append_owned_none (P := Try.prog) (w := w) B 23 ty 67 i0 2 Try.underlying23 hi v ps.length (scells ps) hown, by rw [List.append_nil]; exact hown, ⟨rfl, rfl, rfl, Nat.le_refl _, fun _ _ _ => rfl⟩⟩
  | some x =>
    obtain ⟨v', w', h1, h2, h3, _⟩ := run_append_own (P := Try.prog) w B 23 ty 67 i0 _ 2 16 Try.underlying23 hi hz0 hz1 hz2 rfl (by decide) v ps.length (scells ps) hown x ms.length c (scells ms) (scells_len ms) (smps_cells hm) (scells_one ms) (by unfold maxLen; omega) (by omega) hB
    refine ⟨v', w', h1, ?_, h3⟩
    unfold OwnS
    rw [scells_app, List.length_append]
    exact h2

/-- .. as one step of a region that draws. -/
theorem step_apps {ops : Array Oper} {o : Oper} {a : Act} {w : World} {K : Act → World → Prop} {Q : Exit → Act → World → Prop} {E : Prop}
    (hg : o.guard = none) (s x : Operand) (hop : o.op = Op.call { callee := Callee.builtin Builtin.append, args := #[s, x], argTypes := #[23, 23] })
    (B : Nat) (v : Value) (ps : List Sm) (hs : a.eval s = v) (ao : Option Addr) (c k : Nat) (ms : List Sm) (hx : a.eval x = .slice ao k c) (hk : k = ms.length)
    (hown : OwnS w B v ps) (hm : SmpsAt w ao ms) (hnil : ao = none → c = 0) (hlen : ps.length + ms.length ≤ 1000) (hB : B ≤ w.heap.size)
    (hK : ∀ v' w', OwnS w' B v' (ps ++ ms) → w.grownBy w' v.ownBlock → K (a.put o.dst v') w') :
    if Region.wanted o (yielded ops a.tmps) = true then Oper.wp Try.prog o a w K Q else E := by
  have hw : Region.wanted o (yielded ops a.tmps) = true := by simp [Region.wanted, hg]
  rw [if_pos hw]
  subst hk
  obtain ⟨v', w', hrun, r1, r2⟩ := run_apps w B o.type v ps hown ao c ms hm hnil hlen hB
  unfold Oper.wp
  simp [execOp, hop, resolve, invoke, builtin, hs, hx, hrun, Result.andThen]
  exact hK v' w' r1 r2

theorem sret_i {a b : Int} (h : a = b) : Ending.returned (.int .i64 a) = .returned (.int .i64 b) := by rw [h]
theorem sret_b {a b : Bool} (h : a = b) : Ending.returned (.bool a) = .returned (.bool b) := by rw [h]
def slenOf : Value → Nat
  | .slice _ n _ => n
  | _ => 0

/-- Numbers that lie in memory. -/
def NumsAt (kd : IntKind) (w : World) (a : Option Addr) (zs : List Int) : Prop :=
  ∀ i, i < zs.length → ∃ b off, a = some ⟨b, off, none⟩ ∧ b < w.heap.size ∧ ∀ j (h : j < zs.length), w.cell? ⟨b, off + j, none⟩ = some (.int kd zs[j])
theorem NumsAt.below {kd : IntKind} {w w' : World} {a : Option Addr} {zs : List Int} (h : NumsAt kd w a zs) (hb : Below w.heap.size w w') : NumsAt kd w' a zs := by
  intro i hi
  obtain ⟨b, off, ha, hbl, hc⟩ := h i hi
  have hsz := hb.size
  exact ⟨b, off, ha, by omega, fun j hj => (hb.cell (by exact hbl)).trans (hc j hj)⟩
theorem NumsAt.get {kd : IntKind} {w wr : World} {a : Option Addr} {zs : List Int} (h : NumsAt kd w a zs) (hnx : Below w.heap.size w wr) {k : Nat} (hk : k < zs.length) :
    ∃ b off z, a = some ⟨b, off, none⟩ ∧ b < w.heap.size ∧ zs[k] = z ∧ wr.cell? ⟨b, off + k, none⟩ = some (.int kd z) := by
  obtain ⟨b, off, ha, hbl, hc⟩ := h k hk
  exact ⟨b, off, _, ha, hbl, rfl, (hnx.cell (by exact hbl)).trans (hc k hk)⟩

end Go.Proofs.Ytbjcphefaciihaa
