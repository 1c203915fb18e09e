/-
  A copy of destinations in a row of the call's own, whose Above lie where they lay.
-/
import Derived.Test.YtjbdofjheeljkaaLdgJoinW
namespace Go.Proofs.Ytjbdofjheeljkaa
open Go.RowKit
open Ldg (De Le Rd Rl)

/-- Destinations in a row at B or above; their Above lie below B. -/
structure OwnP (w : World) (B : Nat) (v : Value) (ps : List DV) : Prop where
  row : w.ownsRow B 41 7 v ps.length (drows ps)
  sls : ∀ p ∈ ps, SlIn (fun b => b < B) w p.2 p.1.above
theorem OwnP.nil {w : World} {g B : Nat} (h : w.heap[g]? = some (.cells #[] 41 (0, 0))) (hB : B ≤ g) : OwnP w B (.slice (some ⟨g, 0, none⟩) 0 0) [] :=
  ⟨⟨rfl, .inr ⟨g, 0, #[], rfl, hB, h, Nat.le_refl _, Nat.zero_le _, rfl, rfl⟩⟩, fun p hp => by simp at hp⟩
theorem OwnP.view {w : World} {B : Nat} {v : Value} {ps : List DV} (h : OwnP w B v ps) : ∃ a cap, v = .slice a ps.length cap ∧ ps.length ≤ cap ∧ DsAt w a ps := by
  have hs : ∀ p ∈ ps, SlIn anyB w p.2 p.1.above := fun p hp => (h.sls p hp).mono (fun _ _ _ => trivial)
  rcases h.row.2 with ⟨rfl, h0⟩ | ⟨g, cap, cur, rfl, hB, hg, hnc, hcm, hcs, htake⟩
  · have : ps = [] := List.length_eq_zero_iff.1 h0
    subst this
    exact ⟨none, 0, rfl, Nat.le_refl _, DsAt.nil _ _⟩
  · refine ⟨some ⟨g, 0, none⟩, cap, rfl, hnc, ⟨fun i hi => ⟨g, 0, rfl, (Array.getElem?_eq_some_iff.1 hg).1, fun j hj k u hu => ?_⟩, hs⟩⟩
    have hk : k < 7 := by
      have := (List.getElem?_eq_some_iff.1 hu).1
      rwa [drow_len] at this
    rw [Nat.zero_add, World.ownsRow.cellAt h.row _ (by omega), drows_at ps j k hj hk]
    exact hu
theorem OwnP.led {w : World} {B : Nat} {v : Value} {ps : List DV} (h : OwnP w B v ps) (first next : Nat) : LedAt w (.agg #[.int .u64 (first : Int), .int .u64 (next : Int), v]) ⟨first, next, ps.map Prod.fst⟩ := by
  obtain ⟨a, cap, rfl, hc, hd⟩ := h.view
  exact ⟨a, cap, ps, rfl, hc, rfl, hd⟩
theorem ds_cells {w : World} {a : Addr} {ps : List DV} (h : DsAt w (some a) ps) : ∀ j u, (drows ps)[j]? = some u → w.cell? (a.add j) = some u := by
  intro j u hu
  have hj : j < ps.length * 7 := by
    have := (List.getElem?_eq_some_iff.1 hu).1
    rwa [drows_len] at this
  have hk : j / 7 < ps.length := by omega
  obtain ⟨g, o, ha, _, hc⟩ := h.cells (j / 7) hk
  obtain rfl := Option.some.inj ha
  have hm : j % 7 < 7 := Nat.mod_lt _ (by omega)
  have e : j = j / 7 * 7 + j % 7 := by omega
  rw [e, drows_at ps _ _ hk hm] at hu
  have := hc (j / 7) hk (j % 7) u hu
  rw [Addr.add_lit, show o + j = o + j / 7 * 7 + j % 7 by omega]
  exact this
theorem drows_one (ps : List DV) (hs : ∀ p ∈ ps, p.2.oneCell' = true) : ∀ u ∈ drows ps, u.oneCell' = true := by
  intro u hu
  simp only [drows, List.mem_flatMap, drow] at hu
  obtain ⟨p, hp, hx⟩ := hu
  simp only [List.mem_cons, List.not_mem_nil, or_false] at hx
  rcases hx with rfl | rfl | rfl | rfl | rfl | rfl | rfl
  all_goals first | rfl | exact hs p hp
/-- 'append([]Dest{}, m.Dests...)'. -/
theorem OwnP.copy {w : World} {B c n : Nat} {v : Value} {ps : List DV} {a : Option Addr} (h : OwnP w B v []) (hB : B ≤ w.heap.size) (hd : DsAt w a ps) (hb : ∀ p ∈ ps, SlIn (fun b => b < B) w p.2 p.1.above) (hz : a = none → c = 0) (hn : n = ps.length) (hl : ps.length ≤ 1000000) (ty : TypeId) (hv : ∀ g, v.ownBlock = some g → B ≤ g) :
    ∃ v' w', (Builtin.append_ #[25, 25] ty #[v, .slice a n c]).run Try.prog w = .ok v' w' ∧ OwnP w' B v' ps ∧ w.grownBy w' v.ownBlock ∧ (v'.ownBlock = v.ownBlock ∨ v'.ownBlock = some w.heap.size) := by
  subst hn
  obtain ⟨i0, hi, hz0, hz1, hz2⟩ := info_parts info_dest
  cases a with
  | none =>
    have hc0 := hz rfl
    subst hc0
    have hl0 : ps = [] := by
      cases ps with
      | nil => rfl
      | cons x r =>
        obtain ⟨b, off, ha, _⟩ := hd.cells 0 (by simp)
        cases ha
    subst hl0
    exact ⟨v, w, run_append_owned_none (P := Try.prog) (w := w) B 25 ty 41 i0 7 dests_under hi v _ _ h.row, h, ⟨rfl, rfl, rfl, Nat.le_refl _, fun _ _ _ => rfl⟩, .inl rfl⟩
  | some x =>
    obtain ⟨v', w', hr, ho, hg, hob⟩ := Ldg.app_own w B 25 ty 41 i0 _ 7 80 dests_under hi hz0 hz1 hz2 (by kernel_rfl) (by decide) v 0 [] h.row x ps.length c (drows ps) (drows_len ps) (ds_cells hd) (drows_one ps (fun p hp => by
      obtain ⟨a', c', e, _⟩ := hb p hp
      rw [e]; rfl)) (by unfold maxLen; omega) (by omega) hB
    refine ⟨v', w', hr, ⟨?_, fun p hp => ?_⟩, hg, hob⟩
    · rw [Nat.zero_add, List.nil_append] at ho
      exact ho
    · exact (hb p hp).keep hg.size (fun b hbl hx => hg.block b hbl (fun e => by have := hv b e.symm; omega))
/-- One field of one of them is another. -/
theorem OwnP.one {w : World} {B g n c : Nat} {ps : List DV} (h : OwnP w B (.slice (some ⟨g, 0, none⟩) n c) ps) (hBg : B ≤ g) {k : Nat} (hk : k < ps.length) {i : Nat} (hi : i < 7) (u : Value) (q : DV) (hq : drow q = (drow ps[k]).set i u) (hs : SlIn (fun b => b < B) w q.2 q.1.above) (hn : n = ps.length) :
    OwnP (w.setCell ⟨g, k * 7 + i, none⟩ u) B (.slice (some ⟨g, 0, none⟩) n c) (ps.set k q) := by
  subst hn
  have hb : ∀ b, b ≠ g → (w.setCell ⟨g, k * 7 + i, none⟩ u).heap[b]? = w.heap[b]? := fun b hb => Below.heap_setCell _ _ _ _ hb
  have hsz : (w.setCell ⟨g, k * 7 + i, none⟩ u).heap.size = w.heap.size := by simp [World.setCell]
  refine ⟨?_, fun p hp => ?_⟩
  · rw [List.length_set, ← drows_set ps k i u q hk hi hq]
    exact lown_set h.row _ _
  · rcases List.mem_or_eq_of_mem_set hp with hp | rfl
    · exact (h.sls p hp).keep (by omega) (fun b _ hx => hb b (by omega))
    · exact hs.keep (by omega) (fun b _ hx => hb b (by omega))
end Go.Proofs.Ytjbdofjheeljkaa
