/-
  Acts appended to a row of the call's own.
-/
import Derived.Test.YtjbdofjheeljkaaLdgActsW
import Derived.Test.YtjbdofjheeljkaaLdgJoinW
namespace Go.Proofs.Ytjbdofjheeljkaa
open Go.RowKit

def arow (x : La) : List Value := [.int .i64 x.op, .int .i64 x.nm, .int .i64 x.sq, .int .i64 x.kd]
def arows (l : List La) : List Value := l.flatMap arow
theorem arows_len : ∀ l : List La, (arows l).length = l.length * 4
  | [] => rfl
  | p :: r => by simp only [arows, List.flatMap_cons, List.length_append, List.length_cons]; have := arows_len r; simp only [arows] at this; rw [this]; show 4 + _ = _; omega
theorem arows_app (a b : List La) : arows (a ++ b) = arows a ++ arows b := by simp [arows]
theorem arows_at : ∀ (l : List La) (j i : Nat) (hj : j < l.length), i < 4 → (arows l)[j * 4 + i]? = (arow l[j])[i]?
  | p :: r, 0, i, _, hi => by
    simp only [arows, List.flatMap_cons, List.getElem_cons_zero, Nat.zero_mul, Nat.zero_add]
    rw [List.getElem?_append_left (by show i < 4; exact hi)]
  | p :: r, j + 1, i, hj, hi => by
    have hj' : j < r.length := by simpa using hj
    have ih := arows_at r j i hj' hi
    simp only [arows, List.flatMap_cons, List.getElem_cons_succ]
    rw [List.getElem?_append_right (by show 4 ≤ _; omega)]
    have e : (j + 1) * 4 + i - (arow p).length = j * 4 + i := by show (j + 1) * 4 + i - 4 = _; omega
    rw [e]
    exact ih
theorem arows_one (l : List La) : ∀ u ∈ arows l, u.oneCell' = true := by
  intro u hu
  simp only [arows, List.mem_flatMap, arow] at hu
  obtain ⟨x, _, hx⟩ := hu
  simp only [List.mem_cons, List.not_mem_nil, or_false] at hx
  rcases hx with rfl | rfl | rfl | rfl <;> rfl
theorem las_cells {w : World} {a : Addr} {l : List La} (h : LasAt w (some a) l) : ∀ j u, (arows l)[j]? = some u → w.cell? (a.add j) = some u := by
  intro j u hu
  have hj : j < l.length * 4 := by
    have := (List.getElem?_eq_some_iff.1 hu).1
    rwa [arows_len] at this
  have hk : j / 4 < l.length := by omega
  obtain ⟨g, o, ha, _, hc⟩ := h (j / 4) hk
  obtain rfl := Option.some.inj ha
  have hx := hc (j / 4) hk
  have e : j = j / 4 * 4 + j % 4 := by omega
  have hm : j % 4 < 4 := Nat.mod_lt _ (by omega)
  rw [e, arows_at l _ _ hk hm] at hu
  rw [Addr.add_lit]
  have hj2 : o + j = o + j / 4 * 4 + j % 4 := by omega
  rw [hj2]
  have h4 : j % 4 = 0 ∨ j % 4 = 1 ∨ j % 4 = 2 ∨ j % 4 = 3 := by omega
  rcases h4 with h | h | h | h <;> rw [h] at hu ⊢ <;> simp only [arow, List.getElem?_cons_zero, List.getElem?_cons_succ, Option.some.injEq] at hu <;> subst hu
  · exact hx.c0
  · exact hx.c1
  · exact hx.c2
  · exact hx.c3
/-- Acts in a row of the call's own. -/
def OwnA (w : World) (B : Nat) (v : Value) (l : List La) : Prop := w.ownsRow B 36 4 v l.length (arows l)
theorem OwnA.view {w : World} {B : Nat} {v : Value} {l : List La} (h : OwnA w B v l) : ∃ a cap, v = .slice a l.length cap ∧ l.length ≤ cap ∧ LasAt w a l := by
  have h' := h
  unfold OwnA at h'
  rcases h'.2 with ⟨rfl, h0⟩ | ⟨g, cap, cur, rfl, hB, hg, hnc, hcm, hcs, htake⟩
  · have : l = [] := List.length_eq_zero_iff.1 h0
    subst this
    exact ⟨none, 0, rfl, Nat.le_refl _, LasAt.nil _ _⟩
  · refine ⟨some ⟨g, 0, none⟩, cap, rfl, hnc, fun i hi => ⟨g, 0, rfl, (Array.getElem?_eq_some_iff.1 hg).1, fun j hj => ?_⟩⟩
    have hc : ∀ k u, k < 4 → (arow l[j])[k]? = some u → w.cell? ⟨g, 0 + j * 4 + k, none⟩ = some u := fun k u hk hu => by
      rw [Nat.zero_add, World.ownsRow.cellAt h _ (by omega), arows_at l j k hj hk]
      exact hu
    exact ⟨hc 0 _ (by omega) rfl, hc 1 _ (by omega) rfl, hc 2 _ (by omega) rfl, hc 3 _ (by omega) rfl⟩
theorem info_act : (Try.prog.info? 36).map (fun i => (i.zero, i.size, i.bytes)) = some (some (.agg #[.int .i64 0, .int .i64 0, .int .i64 0, .int .i64 0]), 4, 32) := by kernel_rfl
theorem acts_under : Try.prog.underlying 22 = some (.slice 36) := by kernel_rfl
/-- 'append(own, acts...)'. -/
theorem OwnA.app {w : World} {B c n : Nat} {v : Value} {l0 l : List La} {a : Option Addr} (h : OwnA w B v l0) (hB : B ≤ w.heap.size) (hs : LasAt w a l) (hz : a = none → c = 0) (hn : n = l.length) (hl : l0.length + l.length ≤ 1000000) (ty : TypeId) :
    ∃ v' w', (Builtin.append_ #[22, 22] ty #[v, .slice a n c]).run Try.prog w = .ok v' w' ∧ OwnA w' B v' (l0 ++ l) ∧ w.grownBy w' v.ownBlock ∧ (v'.ownBlock = v.ownBlock ∨ v'.ownBlock = some w.heap.size) := by
  subst hn
  obtain ⟨i0, hi, hz0, hz1, hz2⟩ := info_parts info_act
  cases a with
  | none =>
    have hc0 := hz rfl
    subst hc0
    have hl0 : l = [] := by
      cases l with
      | nil => rfl
      | cons x r =>
        obtain ⟨b, off, ha, _⟩ := hs 0 (by simp)
        cases ha
    subst hl0
    refine ⟨v, w, run_append_owned_none (P := Try.prog) (w := w) B 22 ty 36 i0 4 acts_under hi v _ _ h, ?_, ⟨rfl, rfl, rfl, Nat.le_refl _, fun _ _ _ => rfl⟩, .inl rfl⟩
    rw [List.append_nil]; exact h
  | some x =>
    obtain ⟨v', w', hr, ho, hg, hob⟩ := Ldg.app_own w B 22 ty 36 i0 _ 4 32 acts_under hi hz0 hz1 hz2 (by kernel_rfl) (by decide) v l0.length (arows l0) h x l.length c (arows l) (arows_len l) (las_cells hs) (arows_one l) (by unfold maxLen; omega) (by omega) hB
    refine ⟨v', w', hr, ?_, hg, hob⟩
    unfold OwnA
    rw [List.length_append, arows_app]
    exact ho
end Go.Proofs.Ytjbdofjheeljkaa
