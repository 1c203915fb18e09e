/-
  New, Add.
-/
import Derived.Test.YtjbdofjheeljkaaLdgRead3W
namespace Go.Proofs.Ytjbdofjheeljkaa
open Go.RowKit
open Ldg (De Le Rd Rl)

theorem new_any (w : World) : Calls Try.prog 16 #[] w fun e w' => ∃ rv, e = .returned rv ∧ LedAt w' rv ⟨1, 1, []⟩ ∧ Below w.heap.size w w' := by
  go_enter Try.func16, Try.ntmps16
  go_wp2_with fail
  refine bodyPost_ret (v := .agg #[.int .u64 1, .int .u64 1, .slice none 0 0]) (by simp [results, Try.results16, go_sem]) rfl ?_
  refine ⟨_, rfl, ⟨none, 0, [], rfl, Nat.le_refl _, rfl, DsAt.nil _ _⟩, ?_⟩
  exact (Below.refl w.heap.size w).alloc (Nat.le_refl _) _
/-- The boxes of a ledger's call: what came in, what is told. -/
structure Box2 (w wA : World) (v0 v1 : Value) (a : Option Addr) (m c : Nat) : Prop where
  b0 : wA.heap[w.heap.size]? = some (.cells #[v0, v1, .slice a m c] 27 (0, 0))
  b1 : wA.heap[w.heap.size + 1]? = some (.cells #[.int .u64 0, .int .u64 0, .slice none 0 0] 27 (0, 0))
  bel : Below w.heap.size w wA
  size : w.heap.size + 1 < wA.heap.size
theorem Box2.made (w : World) (v0 v1 : Value) (a : Option Addr) (m c : Nat) : Box2 w ((w.alloc (.cells #[v0, v1, .slice a m c] 27)).alloc (.cells #[.int .u64 0, .int .u64 0, .slice none 0 0] 27)) v0 v1 a m c :=
  ⟨two_old w _ _, two_new w _ _, ((Below.refl w.heap.size w).alloc (Nat.le_refl _) _).alloc (by simp) _, by simp⟩
theorem Box2.then {w wA w1 : World} {v0 v1 : Value} {a : Option Addr} {m c : Nat} (h : Box2 w wA v0 v1 a m c) (hb : Below wA.heap.size wA w1) : Box2 w w1 v0 v1 a m c :=
  ⟨(hb.block _ (by have := h.size; omega)).trans h.b0, (hb.block _ (by have := h.size; omega)).trans h.b1, bl h.bel hb, by have := h.size; have := hb.size; omega⟩
/-- Cells of the told one, behind a new block. -/
theorem Box2.told {w wA : World} {v0 v1 : Value} {a : Option Addr} {m c : Nat} (h : Box2 w wA v0 v1 a m c) (o : Obj) :
    (wA.alloc o).cell? ⟨w.heap.size + 1, 0, none⟩ = some (.int .u64 0) ∧ (wA.alloc o).cell? ⟨w.heap.size + 1, 1, none⟩ = some (.int .u64 0) ∧ (wA.alloc o).cell? ⟨w.heap.size + 1, 2, none⟩ = some (.slice none 0 0) ∧ (∀ j, (wA.alloc o).frozen? ⟨w.heap.size + 1, j, none⟩ = false) := by
  have hb : (wA.alloc o).heap[w.heap.size + 1]? = some (.cells #[.int .u64 0, .int .u64 0, .slice none 0 0] 27 (0, 0)) := (Below.heap_alloc _ _ _ h.size).trans h.b1
  exact ⟨lcell_of hb 0 rfl, lcell_of hb 1 rfl, lcell_of hb 2 rfl, lfrozen_of hb⟩
theorem kept3 (w : World) (g : Nat) (u0 u1 u2 : Value) : Kept (fun b => b ≠ g) w (((w.setCell ⟨g, 0, none⟩ u0).setCell ⟨g, 1, none⟩ u1).setCell ⟨g, 2, none⟩ u2) := by
  iterate 3 (refine Kept.setCell ?_ (fun _ h e => h e) _)
  exact Kept.refl _ _
/-- What is told lies in a box that is older than the row. -/
theorem led_told {w w1 wC : World} {BA first next : Nat} {v : Value} {ps : List DV} (hs : w.heap.size + 1 < BA) (h : OwnD wC BA v ps) (hb : Below w.heap.size w wC) (u0 u1 : Value) (e0 : u0 = .int .u64 (first : Int)) (e1 : u1 = .int .u64 (next : Int)) (hw1 : w1 = ((wC.setCell ⟨w.heap.size + 1, 0, none⟩ u0).setCell ⟨w.heap.size + 1, 1, none⟩ u1).setCell ⟨w.heap.size + 1, 2, none⟩ v) :
    LedAt w1 (.agg #[u0, u1, v]) ⟨first, next, ps.map Prod.fst⟩ ∧ Below w.heap.size w w1 := by
  subst e0 e1 hw1
  have hk := kept3 wC (w.heap.size + 1) (.int .u64 (first : Int)) (.int .u64 (next : Int)) v
  exact ⟨(h.keep hk.size (fun b hb _ => hk.block b (by omega))).led first next, hb.trans (hk.bel (fun b hb => by omega))⟩
set_option maxRecDepth 100000 in
set_option maxHeartbeats 1600000 in
theorem add_any {w : World} {v : Value} {L : Le} (h : LedAt w v L) (hf : L.Fit) :
    Calls Try.prog 35 #[v] w fun e w' => ∃ rv, e = .returned rv ∧ LedAt w' rv ⟨L.first, L.next + 1, L.dests⟩ ∧ Below w.heap.size w w' := by
  have HLED := hide h
  obtain ⟨a, c, ps, rfl, hc, hd, hds⟩ := h
  have hmn := many_of hf hd
  obtain ⟨m, hm⟩ : ∃ m, ps.length = m := ⟨_, rfl⟩
  rw [hm] at hc hmn HLED ⊢
  have hbx := Box2.made w (.int .u64 (L.first : Int)) (.int .u64 (L.next : Int)) a m c
  have hlc := fun W (hW : Below w.heap.size w W) => lcopied_any (HLED.out.below hW) (by have := hf.many; omega) (fun d hd => by have := (hf.each d hd).len; omega)
  have HLC := hide hlc
  have HBX := hide hbx
  have HF := hide hf
  have hnx := hf.next
  clear hlc hm hds hd hf hc hmn
  go_enter Try.func35, Try.ntmps35
  go_wp2_with fail
  refine (HLC.out _ HBX.out.bel).mono ?_
  rintro e w1 ⟨g, c', qs, rfl, hqs, hown, hb1⟩
  have HX1 := hide (HBX.out.then hb1)
  have HOW := hide hown
  have HQS := hide hqs
  obtain ⟨N, hN⟩ : ∃ N, w1.heap.size = N := ⟨_, rfl⟩
  have hx1 := HX1.out
  have s1 := hx1.size
  rw [hN] at s1
  obtain ⟨n', hn'⟩ : ∃ n', qs.length = n' := ⟨_, rfl⟩
  rw [hn'] at HOW ⊢
  obtain ⟨wB, hwB⟩ : ∃ W, w1.alloc (.cells #[.int .u64 (L.first : Int), .int .u64 (L.next : Int), .slice (some ⟨g, 0, none⟩) n' c'] 27) = W := ⟨_, rfl⟩
  have o0 : wB.heap[N]? = some (.cells #[.int .u64 (L.first : Int), .int .u64 (L.next : Int), .slice (some ⟨g, 0, none⟩) n' c'] 27 (0, 0)) := by
    rw [← hwB, ← hN]; show (w1.heap.push _)[w1.heap.size]? = _; simp
  have t0 : wB.heap[w.heap.size + 1]? = some (.cells #[.int .u64 0, .int .u64 0, .slice none 0 0] 27 (0, 0)) := by
    rw [← hwB]; exact (Below.heap_alloc _ _ _ (by omega)).trans hx1.b1
  have kB : Below w1.heap.size w1 wB := by rw [← hwB]; exact (Below.refl _ _).alloc (Nat.le_refl _) _
  obtain ⟨wC, hwC⟩ : ∃ W, wB.setCell ⟨N, 1, none⟩ (.int .u64 ((L.next : Int) + 1)) = W := ⟨_, rfl⟩
  have o1 : wC.heap[N]? = some (.cells #[.int .u64 (L.first : Int), .int .u64 ((L.next : Int) + 1), .slice (some ⟨g, 0, none⟩) n' c'] 27 (0, 0)) := by
    rw [← hwC]; simp [World.setCell, o0, Array.getElem?_modify]
  have t1 : wC.heap[w.heap.size + 1]? = some (.cells #[.int .u64 0, .int .u64 0, .slice none 0 0] 27 (0, 0)) := by
    rw [← hwC]; exact (Below.heap_setCell _ _ _ _ (by show w.heap.size + 1 ≠ N; omega)).trans t0
  have kC : Below w1.heap.size w1 wC := by rw [← hwC]; exact kB.setCell (p := ⟨N, 1, none⟩) (by show w1.heap.size ≤ N; omega) _
  have x0 := lcell_of o0 0 rfl
  have x1 := lcell_of o0 1 rfl
  have x2 := lcell_of o0 2 rfl
  have fx := lfrozen_of o0
  have y0 := lcell_of o1 0 rfl
  have y1 := lcell_of o1 1 rfl
  have y2 := lcell_of o1 2 rfl
  have d0 := lcell_of t1 0 rfl
  have d1 := lcell_of t1 1 rfl
  have d2 := lcell_of t1 2 rfl
  have fz := lfrozen_of t1
  have HKC := hide kC
  clear hx1 hown hqs hb1 hbx o0 o1 t0 t1 kB kC hn'
  go_wp2_with fail
  refine bodyPost_ret (v := .agg #[.int .u64 (L.first : Int), .int .u64 ((L.next : Int) + 1), .slice (some ⟨g, 0, none⟩) n' c']) (by simp [results, Try.results35, go_sem, d0, d1, d2]) rfl ?_
  have hfin := led_told (w := w) (first := L.first) (next := L.next + 1) HBX.out.size (HOW.out.below HKC.out) (bl HX1.out.bel HKC.out) (.int .u64 (L.first : Int)) (.int .u64 ((L.next : Int) + 1)) rfl (by simp) rfl
  rw [HQS.out] at hfin
  exact ⟨_, rfl, hfin⟩
end Go.Proofs.Ytjbdofjheeljkaa
