/-
  Destinations in a row of the call's own: made, stored into.
-/
import Derived.Test.YtjbdofjheeljkaaLdgPendW
import Derived.Test.YtjbdofjheeljkaaLdgWaitsW
import Derived.Test.YtjbdofjheeljkaaGrowK
namespace Go.Proofs.Ytjbdofjheeljkaa
open Go.RowKit
open Ldg (De Le Rd Rl)

/-- The slice value v is the call's own (blocks from B on), and its elements are the destinations; their numbers lie elsewhere, from B on, too. -/
structure OwnD (w : World) (B : Nat) (v : Value) (ps : List DV) : Prop where
  row : w.ownsRow B 41 7 v ps.length (drows ps)
  sls : ∀ p ∈ ps, SlIn (fun b => B ≤ b ∧ v.ownBlock ≠ some b) w p.2 p.1.above
theorem OwnD.below {w w' : World} {B : Nat} {v : Value} {ps : List DV} (h : OwnD w B v ps) (hb : Below w.heap.size w w') : OwnD w' B v ps := by
  refine ⟨⟨h.row.1, ?_⟩, fun p hp => (h.sls p hp).below hb⟩
  rcases h.row.2 with h0 | ⟨g, cap, cur, hv, hB, hg, hnc, hcm, hcs, htake⟩
  · exact .inl h0
  · exact .inr ⟨g, cap, cur, hv, hB, (hb.block g (Array.getElem?_eq_some_iff.1 hg).1).trans hg, hnc, hcm, hcs, htake⟩
theorem OwnD.keep {w w' : World} {B : Nat} {v : Value} {ps : List DV} (h : OwnD w B v ps) (hs : w.heap.size ≤ w'.heap.size) (k : ∀ b, B ≤ b → b < w.heap.size → w'.heap[b]? = w.heap[b]?) : OwnD w' B v ps := by
  refine ⟨⟨h.row.1, ?_⟩, fun p hp => (h.sls p hp).keep hs (fun b hb hx => k b hx.1 hb)⟩
  rcases h.row.2 with h0 | ⟨g, cap, cur, hv, hB, hg, hnc, hcm, hcs, htake⟩
  · exact .inl h0
  · exact .inr ⟨g, cap, cur, hv, hB, (k g hB (Array.getElem?_eq_some_iff.1 hg).1).trans hg, hnc, hcm, hcs, htake⟩
theorem OwnD.view {w : World} {B : Nat} {v : Value} {ps : List DV} (h : OwnD w B v ps) : ∃ a cap, v = .slice a ps.length cap ∧ ps.length ≤ cap ∧ DsAt w a ps := by
  have hs : ∀ p ∈ ps, SlIn anyB w p.2 p.1.above := fun p hp => (h.sls p hp).mono (fun _ _ _ => trivial)
  rcases h.row.2 with ⟨rfl, h0⟩ | ⟨g, cap, cur, rfl, hB, hg, hnc, hcm, hcs, htake⟩
  · have : ps = [] := List.length_eq_zero_iff.1 h0
    subst this
    exact ⟨none, 0, rfl, Nat.le_refl _, DsAt.nil _ _⟩
  · refine ⟨some ⟨g, 0, none⟩, cap, rfl, hnc, ⟨fun i hi => ⟨g, 0, rfl, (Array.getElem?_eq_some_iff.1 hg).1, fun j hj k u hu => ?_⟩, hs⟩⟩
    have hk : k < 7 := by
      have := (List.getElem?_eq_some_iff.1 hu).1
      rwa [drow_len] at this
    rw [Nat.zero_add, World.ownsRow.cellAt h.row _ (by omega), drows_at ps j k hj hk]
    exact hu
/-- The ledger that has such a row. -/
theorem OwnD.led {w : World} {B : Nat} {v : Value} {ps : List DV} (h : OwnD w B v ps) (first next : Nat) : LedAt w (.agg #[.int .u64 (first : Int), .int .u64 (next : Int), v]) ⟨first, next, ps.map Prod.fst⟩ := by
  obtain ⟨a, cap, rfl, hc, hd⟩ := h.view
  exact ⟨a, cap, ps, rfl, hc, rfl, hd⟩
theorem lown_set {w : World} {base e size n g c : Nat} {xs : List Value} (h : w.ownsRow base e size (.slice (some ⟨g, 0, none⟩) n c) n xs) (i : Nat) (u : Value) : (w.setCell ⟨g, i, none⟩ u).ownsRow base e size (.slice (some ⟨g, 0, none⟩) n c) n (xs.set i u) := by
  rcases h.2 with ⟨h0, _⟩ | ⟨g', cap, cur, e1, hb, hh, hnc, hcm, hcs, ht⟩
  · cases h0
  · simp only [Value.slice.injEq, Option.some.injEq, Addr.mk.injEq, and_true, true_and] at e1
    obtain ⟨rfl, rfl⟩ := e1
    refine ⟨by rw [List.length_set]; exact h.1, .inr ⟨g, c, cur.setIfInBounds i u, rfl, hb, ?_, hnc, hcm, by simpa using hcs, ?_⟩⟩
    · simp [World.setCell, hh, Array.getElem?_modify]
    · rw [← ht, Array.toList_setIfInBounds, List.take_set]
theorem drows_put : ∀ (ps : List DV) (k : Nat), k < ps.length → ∀ (nm : ByteArray) (s lo ak ev rj : Nat) (ab : List Nat) (sv : Value),
    (((((((drows ps).set (k * 7) (.string nm)).set (k * 7 + 1) (.int .u64 (s : Int))).set (k * 7 + 2) (.int .u64 (lo : Int))).set (k * 7 + 3) sv).set (k * 7 + 4) (.int .u64 (ak : Int))).set (k * 7 + 5) (.int .u64 (ev : Int))).set (k * 7 + 6) (.int .u64 (rj : Int)) = drows (ps.set k (⟨nm, s, lo, ab, ak, ev, rj⟩, sv))
  | p :: r, 0, _, nm, s, lo, ak, ev, rj, ab, sv => by simp [drows, drow, List.set]
  | p :: r, k + 1, h, nm, s, lo, ak, ev, rj, ab, sv => by
    have ih := drows_put r k (by simpa using h) nm s lo ak ev rj ab sv
    simp only [drows] at ih
    rw [Nat.succ_mul]
    simp only [drows, drow, List.flatMap_cons, List.cons_append, List.nil_append, List.set_cons_succ]
    rw [← ih]
/-- One destination of the row is another: seven stores. -/
theorem OwnD.put {w : World} {B g n c : Nat} {ps : List DV} (h : OwnD w B (.slice (some ⟨g, 0, none⟩) n c) ps) {k : Nat} (hk : k < ps.length) (nm : ByteArray) (s lo ak ev rj : Nat) {ab : List Nat} {sv : Value} (hs : SlIn (fun b => B ≤ b ∧ b ≠ g) w sv ab) :
    OwnD (((((((w.setCell ⟨g, k * 7, none⟩ (.string nm)).setCell ⟨g, k * 7 + 1, none⟩ (.int .u64 (s : Int))).setCell ⟨g, k * 7 + 2, none⟩ (.int .u64 (lo : Int))).setCell ⟨g, k * 7 + 3, none⟩ sv).setCell ⟨g, k * 7 + 4, none⟩ (.int .u64 (ak : Int))).setCell ⟨g, k * 7 + 5, none⟩ (.int .u64 (ev : Int))).setCell ⟨g, k * 7 + 6, none⟩ (.int .u64 (rj : Int)))
      B (.slice (some ⟨g, 0, none⟩) n c) (ps.set k (⟨nm, s, lo, ab, ak, ev, rj⟩, sv)) := by
  have hn : n = ps.length := by
    rcases h.row.2 with ⟨h0, _⟩ | ⟨g', cap, cur, e1, _⟩
    · cases h0
    · simp only [Value.slice.injEq] at e1; exact e1.2.1
  subst hn
  have hsz : ∀ (a : Addr) (u : Value) (W : World), (W.setCell a u).heap.size = W.heap.size := fun a u W => by simp [World.setCell]
  refine ⟨?_, fun p hp => ?_⟩
  · rw [List.length_set]
    have h7 := lown_set (lown_set (lown_set (lown_set (lown_set (lown_set (lown_set h.row (k * 7) (.string nm)) (k * 7 + 1) (.int .u64 (s : Int))) (k * 7 + 2) (.int .u64 (lo : Int))) (k * 7 + 3) sv) (k * 7 + 4) (.int .u64 (ak : Int))) (k * 7 + 5) (.int .u64 (ev : Int))) (k * 7 + 6) (.int .u64 (rj : Int))
    have e : (((((((drows ps).set (k * 7) (.string nm)).set (k * 7 + 1) (.int .u64 (s : Int))).set (k * 7 + 2) (.int .u64 (lo : Int))).set (k * 7 + 3) sv).set (k * 7 + 4) (.int .u64 (ak : Int))).set (k * 7 + 5) (.int .u64 (ev : Int))).set (k * 7 + 6) (.int .u64 (rj : Int)) = drows (ps.set k (⟨nm, s, lo, ab, ak, ev, rj⟩, sv)) := drows_put ps k hk nm s lo ak ev rj ab sv
    rw [e] at h7
    exact h7
  · have hb : ∀ b, b ≠ g → (((((((w.setCell ⟨g, k * 7, none⟩ (.string nm)).setCell ⟨g, k * 7 + 1, none⟩ (.int .u64 (s : Int))).setCell ⟨g, k * 7 + 2, none⟩ (.int .u64 (lo : Int))).setCell ⟨g, k * 7 + 3, none⟩ sv).setCell ⟨g, k * 7 + 4, none⟩ (.int .u64 (ak : Int))).setCell ⟨g, k * 7 + 5, none⟩ (.int .u64 (ev : Int))).setCell ⟨g, k * 7 + 6, none⟩ (.int .u64 (rj : Int))).heap[b]? = w.heap[b]? := fun b hb => by
      repeat rw [Below.heap_setCell _ _ _ _ hb]
    rcases List.mem_or_eq_of_mem_set hp with hp | rfl
    · exact (h.sls p hp).keep (by simp [hsz]) (fun b _ hx => hb b (fun e => hx.2 (by rw [e]; rfl)))
    · exact (hs.mono (Y := fun b => B ≤ b ∧ (Value.slice (some ⟨g, 0, none⟩) ps.length c).ownBlock ≠ some b) (fun b _ hx => ⟨hx.1, fun e => hx.2 (by simp [Value.ownBlock] at e; exact e.symm)⟩)).keep (by simp [hsz]) (fun b _ hx => hb b (fun e => hx.2 (by rw [e]; rfl)))
theorem Kept.setCell {P : Nat → Prop} {a w : World} (h : Kept P a w) {p : Addr} (hp : ∀ b, P b → b ≠ p.block) (u : Value) : Kept P a (w.setCell p u) :=
  h.trans ⟨rfl, rfl, rfl, by simp [World.setCell], fun k hk => Below.heap_setCell _ _ _ _ (hp k hk)⟩
theorem kept7 (w : World) (g k : Nat) (u0 u1 u2 u3 u4 u5 u6 : Value) : Kept (fun b => b ≠ g) w (((((((w.setCell ⟨g, k * 7, none⟩ u0).setCell ⟨g, k * 7 + 1, none⟩ u1).setCell ⟨g, k * 7 + 2, none⟩ u2).setCell ⟨g, k * 7 + 3, none⟩ u3).setCell ⟨g, k * 7 + 4, none⟩ u4).setCell ⟨g, k * 7 + 5, none⟩ u5).setCell ⟨g, k * 7 + 6, none⟩ u6) := by
  iterate 7 (refine Kept.setCell ?_ (fun _ h e => h e) _)
  exact Kept.refl _ _
theorem Kept.bel {P : Nat → Prop} {B : Nat} {w w' : World} (h : Kept P w w') (k : ∀ b, b < B → P b) : Below B w w' := ⟨h.os, h.tape, h.output, h.size, fun b hb => h.block b (k b hb)⟩
theorem set_next {done : List DV} {n k : Nat} (hd : done.length = k) (hk : k < n) (z x : DV) : (done ++ List.replicate (n - k) z).set k x = (done ++ [x]) ++ List.replicate (n - (k + 1)) z := by
  subst hd
  rw [List.set_append_right _ _ (Nat.le_refl _), Nat.sub_self, show n - done.length = n - (done.length + 1) + 1 by omega, List.replicate_succ, List.set_cons_zero, List.append_assoc]
  rfl
/-- Cells of destination k, in such a row. -/
theorem OwnD.get {w : World} {B g n c : Nat} {ps : List DV} (h : OwnD w B (.slice (some ⟨g, 0, none⟩) n c) ps) {k : Nat} (hk : k < ps.length) :
    ∃ nm s lo ab ak ev rj va vc, ps[k] = (⟨nm, s, lo, ab, ak, ev, rj⟩, .slice va ab.length vc) ∧ SlIn (fun b => B ≤ b ∧ b ≠ g) w (.slice va ab.length vc) ab ∧
      w.cell? ⟨g, k * 7, none⟩ = some (.string nm) ∧ w.cell? ⟨g, k * 7 + 1, none⟩ = some (.int .u64 (s : Int)) ∧ w.cell? ⟨g, k * 7 + 2, none⟩ = some (.int .u64 (lo : Int)) ∧ w.cell? ⟨g, k * 7 + 3, none⟩ = some (.slice va ab.length vc) ∧
      w.cell? ⟨g, k * 7 + 4, none⟩ = some (.int .u64 (ak : Int)) ∧ w.cell? ⟨g, k * 7 + 5, none⟩ = some (.int .u64 (ev : Int)) ∧ w.cell? ⟨g, k * 7 + 6, none⟩ = some (.int .u64 (rj : Int)) ∧ (∀ j, w.frozen? ⟨g, j, none⟩ = false) ∧ g < w.heap.size ∧ B ≤ g := by
  have hn : n = ps.length := by
    rcases h.row.2 with ⟨h0, _⟩ | ⟨g', cap, cur, e1, _⟩
    · cases h0
    · simp only [Value.slice.injEq] at e1; exact e1.2.1
  subst hn
  have hs := (h.sls ps[k] (List.getElem_mem hk)).mono (Y := fun b => B ≤ b ∧ b ≠ g) (fun b _ hx => ⟨hx.1, fun e => hx.2 (by rw [e]; rfl)⟩)
  rcases hp : ps[k] with ⟨⟨nm, s, lo, ab, ak, ev, rj⟩, v⟩
  rw [hp] at hs
  obtain ⟨va, vc, ev2, hr⟩ := hs
  have ev3 : v = .slice va ab.length vc := ev2
  clear ev2
  subst ev3
  have hc : ∀ i u, i < 7 → (drow ps[k])[i]? = some u → w.cell? ⟨g, k * 7 + i, none⟩ = some u := fun i u hi hu => by
    rw [World.ownsRow.cellAt h.row _ (by omega), drows_at ps k i hk hi]; exact hu
  rw [hp] at hc
  have hgb : g < w.heap.size ∧ B ≤ g := by
    rcases h.row.2 with ⟨h0, _⟩ | ⟨g', cap, cur, e1, hB, hh, _⟩
    · cases h0
    · simp only [Value.slice.injEq, Option.some.injEq, Addr.mk.injEq] at e1
      rw [e1.1.1]
      exact ⟨(Array.getElem?_eq_some_iff.1 hh).1, hB⟩
  exact ⟨nm, s, lo, ab, ak, ev, rj, va, vc, rfl, ⟨va, vc, rfl, hr⟩, hc 0 _ (by omega) rfl, hc 1 _ (by omega) rfl, hc 2 _ (by omega) rfl, hc 3 _ (by omega) rfl, hc 4 _ (by omega) rfl, hc 5 _ (by omega) rfl, hc 6 _ (by omega) rfl, fun j => h.row.frozenAt _, hgb⟩
theorem OwnD.mono {w : World} {B B' : Nat} {v : Value} {ps : List DV} (h : OwnD w B v ps) (hB : B' ≤ B) : OwnD w B' v ps := by
  refine ⟨⟨h.row.1, ?_⟩, fun p hp => (h.sls p hp).mono (fun b _ hx => ⟨Nat.le_trans hB hx.1, hx.2⟩)⟩
  rcases h.row.2 with h0 | ⟨g, cap, cur, hv, hg, hr⟩
  · exact .inl h0
  · exact .inr ⟨g, cap, cur, hv, Nat.le_trans hB hg, hr⟩
def zeroDV : DV := (⟨⟨#[]⟩, 0, 0, [], 0, 0, 0⟩, .slice none 0 0)
theorem info_dest : (Try.prog.info? 41).map (fun i => (i.zero, i.size, i.bytes)) = some (some (.agg #[.string ⟨#[]⟩, .int .u64 0, .int .u64 0, .slice none 0 0, .int .u64 0, .int .u64 0, .int .u64 0]), 7, 80) := by kernel_rfl
theorem dests_under : Try.prog.underlying 25 = some (.slice 41) := by kernel_rfl
theorem zeros7 (n : Nat) : (madeCells #[.string ⟨#[]⟩, .int .u64 0, .int .u64 0, .slice none 0 0, .int .u64 0, .int .u64 0, .int .u64 0] (n * 7)).toList = drows (List.replicate n zeroDV) := by
  apply List.ext_getElem?
  intro i
  by_cases hi : i < n * 7
  · have e : i = i / 7 * 7 + i % 7 := by omega
    have hq : i / 7 < (List.replicate n zeroDV).length := by simp; omega
    have hr : i % 7 < 7 := Nat.mod_lt _ (by omega)
    rw [e, drows_at _ _ _ hq hr, List.getElem_replicate]
    generalize i / 7 = q at *
    generalize i % 7 = m at *
    have hm : (q * 7 + m) % 7 = m := by omega
    have hl : q * 7 + m < n * 7 := by omega
    simp only [madeCells, Array.getElem?_toList]
    match m, hr with
    | 0, _ =>
      have hl' : q * 7 < n * 7 := by omega
      simp [hl', zeroDV, drow]
    | 1, _ => simp [hl, hm, zeroDV, drow]
    | 2, _ => simp [hl, hm, zeroDV, drow]
    | 3, _ => simp [hl, hm, zeroDV, drow]
    | 4, _ => simp [hl, hm, zeroDV, drow]
    | 5, _ => simp [hl, hm, zeroDV, drow]
    | 6, _ => simp [hl, hm, zeroDV, drow]
  · rw [List.getElem?_eq_none (by simp [madeCells]; omega), List.getElem?_eq_none (by rw [drows_len]; simp; omega)]
/-- 'make([]Dest, n)'. -/
theorem make_dests (w : World) (n : Nat) (hn : n ≤ 1000000) :
    ∃ w2 : World, (Instr.makeSlice 25 (.int .i64 (n : Int)) (.int .i64 (n : Int))).run Try.prog w = .ok (.slice (some ⟨w.heap.size, 0, none⟩) n n) w2 ∧ Below w.heap.size w w2 ∧ w.heap.size < w2.heap.size ∧ OwnD w2 w.heap.size (.slice (some ⟨w.heap.size, 0, none⟩) n n) (List.replicate n zeroDV) := by
  obtain ⟨i0, hi, hz0, hz1, hz2⟩ := info_parts info_dest
  obtain ⟨w2, hrun, hown, hgr⟩ := run_make_full (P := Try.prog) w w.heap.size 25 41 i0 _ 7 dests_under hi hz0 hz1 .i64 .i64 n (by rw [hz2]; omega) (by unfold maxLen; omega) (Nat.le_refl _)
  have hlt : w.heap.size < w2.heap.size := by
    rcases hown.2 with ⟨h', _⟩ | ⟨g', cap', cur, h', _, hg, _⟩
    · simp at h'
    · simp only [Value.slice.injEq, Option.some.injEq, Addr.mk.injEq, and_true, true_and] at h'
      rw [h'.1]
      exact (Array.getElem?_eq_some_iff.1 hg).1
  have hce : (Value.agg #[.string ⟨#[]⟩, .int .u64 0, .int .u64 0, .slice none 0 0, .int .u64 0, .int .u64 0, .int .u64 0]).cells = #[.string ⟨#[]⟩, .int .u64 0, .int .u64 0, .slice none 0 0, .int .u64 0, .int .u64 0, .int .u64 0] := by kernel_rfl
  rw [hce, zeros7] at hown
  refine ⟨w2, hrun, (Below.refl _ _).grown hgr (Nat.le_refl _) (fun k h => by cases h), hlt, ⟨by rw [List.length_replicate]; exact hown, fun p hp => ?_⟩⟩
  obtain rfl := (List.mem_replicate.1 hp).2
  exact SlIn.nil _ _
set_option maxRecDepth 100000 in
set_option maxHeartbeats 1600000 in
theorem lcopied_any {w : World} {v : Value} {L : Le} (h : LedAt w v L) (hn : L.dests.length ≤ 1000000) (hs : ∀ d ∈ L.dests, d.above.length ≤ 1000000000) :
    Calls Try.prog 60 #[v] w fun e w' => ∃ g c ps, e = .returned (.agg #[.int .u64 (L.first : Int), .int .u64 (L.next : Int), .slice (some ⟨g, 0, none⟩) ps.length c]) ∧ ps.map Prod.fst = L.dests ∧
      OwnD w' w.heap.size (.slice (some ⟨g, 0, none⟩) ps.length c) ps ∧ Below w.heap.size w w' := by
  obtain ⟨a, cp, qs, rfl, hc, hd, hds⟩ := h
  obtain ⟨first, next, dests⟩ := L
  simp only at hd hn hs ⊢
  subst hd
  rw [List.length_map] at hn
  obtain ⟨n, hqn⟩ : ∃ n, qs.length = n := ⟨_, rfl⟩
  rw [hqn] at hn hc ⊢
  have HQ := hide hqn
  have HD := hide hds
  have HSM := hide hs
  obtain ⟨wA, hwA⟩ : ∃ W, (w.alloc (.cells #[.int .u64 (first : Int), .int .u64 (next : Int), .slice a n cp] 27)).alloc (.cells #[.int .u64 0, .int .u64 0, .slice none 0 0] 27) = W := ⟨_, rfl⟩
  obtain ⟨B, hB⟩ : ∃ B, w.heap.size = B := ⟨_, rfl⟩
  have hA0 : wA.heap[B]? = some (.cells #[.int .u64 (first : Int), .int .u64 (next : Int), .slice a n cp] 27 (0, 0)) := by
    rw [← hwA, ← hB]; exact two_old w _ _
  have hA1 : wA.heap[B + 1]? = some (.cells #[.int .u64 0, .int .u64 0, .slice none 0 0] 27 (0, 0)) := by
    rw [← hwA, ← hB]; exact two_new w _ _
  have hAs : wA.heap.size = B + 2 := by rw [← hwA, ← hB]; simp
  have hAb : Below w.heap.size w wA := by rw [← hwA]; exact ((Below.refl w.heap.size w).alloc (Nat.le_refl _) _).alloc (by simp) _
  obtain ⟨w2, hrun, hb2, hlt2, hown2⟩ := make_dests wA n hn
  obtain ⟨G, hG⟩ : ∃ G, wA.heap.size = G := ⟨_, rfl⟩
  rw [hG] at hrun hlt2 hown2 hAs
  rw [← hwA] at hrun
  have h0 := (hb2.block B (by omega)).trans hA0
  have h1 := (hb2.block (B + 1) (by omega)).trans hA1
  have HB2 := hide (bl hAb hb2)
  have H0 := hide h0
  have H1 := hide h1
  have HOWN := hide hown2
  have HBE := hide hB
  have HAS := hide hAs
  have HLT := hide hlt2
  have c0 := lcell_of h0 0 rfl
  have c1 := lcell_of h0 1 rfl
  have c2 := lcell_of h0 2 rfl
  clear hqn hds hs hwA hA0 hA1 hAs hAb hb2 hlt2 hown2 hG h0 h1
  go_enter Try.func60, Try.ntmps60
  go_wp2_with fail
  have hB := HBE.out
  subst hB
  clear HBE
  go_loopw [13] (fun i wr => ∃ (k : Nat) (done : List DV), k ≤ n ∧ i = .int .i64 (k : Int) ∧ done.length = k ∧ done.map Prod.fst = (qs.take k).map Prod.fst ∧ OwnD wr G (.slice (some ⟨G, 0, none⟩) n n) (done ++ List.replicate (n - k) zeroDV) ∧ Below w.heap.size w wr ∧
      wr.heap[w.heap.size]? = some (.cells #[.int .u64 (first : Int), .int .u64 (next : Int), .slice a n cp] 27 (0, 0)) ∧ wr.heap[w.heap.size + 1]? = some (.cells #[.int .u64 0, .int .u64 0, .slice none 0 0] 27 (0, 0)) ∧ G < wr.heap.size)
    (fun i _ => n - (intOf i).toNat)
  case atStart => exact ⟨0, [], Nat.zero_le _, rfl, rfl, by simp, HOWN.out, HB2.out, H0.out, H1.out, HLT.out⟩
  case round =>
    obtain ⟨k, done, hk, rfl, hdl, hdf, hown, hnx, h0, h1, hlt⟩ := hrel
    have HOW := hide hown
    have HDL := hide hdl
    have HDF := hide hdf
    have HB := hide hnx
    have HI0 := hide h0
    have HI1 := hide h1
    have HGL := hide hlt
    have hsz := hnx.size
    clear hown hdl hdf hnx h0 h1 hlt c0 c1 c2
    by_cases hlt : k < n
    · obtain ⟨b, off, nm, s, lo, ab, ak, ev, rj, va, vc, rfl, hbl, hz, hsl, g0, g1, g2, g3, g4, g5, g6⟩ := HD.out.get HB.out (k := k) (by have := HQ.out; omega)
      have hsm : ab.length ≤ 1000000000 := by
        have := HSM.out (qs[k]'(by have := HQ.out; omega)).1 (List.mem_map_of_mem (List.getElem_mem _))
        rw [hz] at this
        exact this
      have HSML := hide hsm
      obtain ⟨an, han⟩ : ∃ m, ab.length = m := ⟨_, rfl⟩
      rw [han] at g3 hz hsl hsm
      have HZ := hide hz
      have HAN := hide han
      have hX : Below wr.heap.size wr (wr.alloc (.cells #[.string nm, .int .u64 (s : Int), .int .u64 (lo : Int), .slice va an vc, .int .u64 (ak : Int), .int .u64 (ev : Int), .int .u64 (rj : Int)] 41)) := (Below.refl _ _).alloc (Nat.le_refl _) _
      have hslX := hsl.below hX
      have HX := hide hX
      have HSX := hide hslX
      clear hz han hsl hX hslX
      go_wp2_with fail
      have hcl := dcopied_any nm s lo ak ev rj HSX.out HSML.out
      refine hcl.mono ?_
      clear hcl
      rintro e w1 ⟨v', rfl, hs1, hb1⟩
      have HS1 := hide hs1
      obtain ⟨vb, vd, evv, _⟩ := hs1
      rw [HAN.out] at evv
      subst evv
      have hbw := bl HX.out hb1
      have hownk := HOW.out.below hbw
      have HBW := hide hbw
      have hdlen : k < (done ++ List.replicate (n - k) zeroDV).length := by have := HDL.out; simp; omega
      obtain ⟨_, _, _, _, _, _, _, _, _, _, _, k0, k1, k2, k3, k4, k5, k6, fz, hgl, _⟩ := hownk.get hdlen
      have hgs : G < wr.heap.size := HGL.out
      have hput := hownk.put hdlen nm s lo ak ev rj (ab := ab) (sv := .slice vb an vd) (HS1.out.mono (fun b _ hx => by
        have hxx : (wr.alloc (.cells #[.string nm, .int .u64 (s : Int), .int .u64 (lo : Int), .slice va an vc, .int .u64 (ak : Int), .int .u64 (ev : Int), .int .u64 (rj : Int)] 41)).heap.size ≤ b := hx
        simp at hxx
        constructor <;> omega))
      have HPUT := hide hput
      clear hbw hownk hput hb1 hgs
      go_wp2_with fail
      have hkp := kept7 w1 G k (.string nm) (.int .u64 (s : Int)) (.int .u64 (lo : Int)) (.slice vb an vd) (.int .u64 (ak : Int)) (.int .u64 (ev : Int)) (.int .u64 (rj : Int))
      refine ⟨⟨k + 1, done ++ [(⟨nm, s, lo, ab, ak, ev, rj⟩, .slice vb an vd)], by omega, by go_num, by rw [List.length_append, HDL.out]; rfl, ?_, ?_, ?_, ?_, ?_, ?_⟩, by simp [intOf]; omega⟩
      · rw [List.map_append, HDF.out, List.take_succ_eq_append_getElem (by have := HQ.out; omega), List.map_append, List.map_singleton, List.map_singleton, HZ.out]
      · have := HPUT.out
        rw [set_next HDL.out hlt] at this
        exact this
      · exact (bl HB.out HBW.out).trans (hkp.bel (fun b hb => by have := HAS.out; omega))
      · exact (hkp.block _ (by have := HAS.out; omega)).trans ((HBW.out.block _ (by have := HAS.out; have := HGL.out; omega)).trans HI0.out)
      · exact (hkp.block _ (by have := HAS.out; omega)).trans ((HBW.out.block _ (by have := HAS.out; have := HGL.out; omega)).trans HI1.out)
      · have := hkp.size; have := HBW.out.size; omega
    · have hkn : k = n := by omega
      subst hkn
      have hfin : OwnD wr G (.slice (some ⟨G, 0, none⟩) done.length k) done := by
        have := HOW.out
        rw [Nat.sub_self, List.replicate_zero, List.append_nil, ← HDL.out] at this
        rw [HDL.out] at this ⊢
        exact this
      have HFIN := hide hfin
      have hi0 := HI0.out
      have hi1 := HI1.out
      have x0 := lcell_of hi0 0 rfl
      have x1 := lcell_of hi0 1 rfl
      have x2 := lcell_of hi0 2 rfl
      have y0 := lcell_of hi1 0 rfl
      have y1 := lcell_of hi1 1 rfl
      have y2 := lcell_of hi1 2 rfl
      have f0 := lfrozen_of hi0
      have f1 := lfrozen_of hi1
      clear hi0 hi1 hfin
      go_wp2_with fail
      have hkp : Kept (fun b => b ≠ w.heap.size ∧ b ≠ w.heap.size + 1) wr ((((wr.setCell ⟨w.heap.size, 2, none⟩ (.slice (some ⟨G, 0, none⟩) k k)).setCell ⟨w.heap.size + 1, 0, none⟩ (.int .u64 (first : Int))).setCell ⟨w.heap.size + 1, 1, none⟩ (.int .u64 (next : Int))).setCell ⟨w.heap.size + 1, 2, none⟩ (.slice (some ⟨G, 0, none⟩) k k)) := by
        iterate 3 (refine Kept.setCell ?_ (fun _ h => h.2) _)
        refine Kept.setCell ?_ (fun _ h => h.1) _
        exact Kept.refl _ _
      refine bodyPost_ret (v := .agg #[.int .u64 (first : Int), .int .u64 (next : Int), .slice (some ⟨G, 0, none⟩) k k]) (by simp [results, Try.results60, go_sem, y0, y1, y2]) rfl ?_
      refine ⟨G, k, done, by rw [HDL.out], ?_, ?_, ?_⟩
      · rw [HDF.out, List.take_of_length_le (by have := HQ.out; omega)]
      · refine (HFIN.out.keep hkp.size (fun b hb _ => hkp.block b ?_)).mono (by have := HAS.out; omega)
        have := HAS.out
        constructor <;> omega
      · exact HB.out.trans (hkp.bel (fun b hb => by constructor <;> omega))
end Go.Proofs.Ytjbdofjheeljkaa
