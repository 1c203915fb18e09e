/-
  The rows of acts that LedgerCounts makes, and the box of what is told, in whatever order they are made.
-/
import Derived.Test.YtjbdofjheeljkaaLdgActRowW
import Derived.Test.YtjbdofjheeljkaaLdgBoxW
import Derived.Test.YtjbdofjheeljkaaLdgDoc
import Derived.Test.YtjbdofjheeljkaaLdgDupAW
namespace Go.Proofs.Ytjbdofjheeljkaa
open Go.RowKit
open Ldg (De Le Rd Rl)

/-- Above a world: a row of acts, a row of one act (if it is made), a box for a ledger (if it is made). -/
structure Run5 (wA w : World) (v : Value) (ls : List La) (q : La) (b4 b7 : Option Nat) : Prop where
  bel : Below wA.heap.size wA w
  own : OwnA w wA.heap.size v ls
  sl : ∀ b, b4 = some b → wA.heap.size ≤ b ∧ w.heap[b]? = some (.cells #[.int .i64 q.op, .int .i64 q.nm, .int .i64 q.sq, .int .i64 q.kd] 36 (0, 0)) ∧ v.ownBlock ≠ some b
  bx : ∀ b, b7 = some b → wA.heap.size ≤ b ∧ w.heap[b]? = some (.cells #[.int .u64 0, .int .u64 0, .slice none 0 0] 27 (0, 0)) ∧ v.ownBlock ≠ some b
section
variable {wA w : World} {v : Value} {ls : List La} {q : La} {b4 b7 : Option Nat}
theorem Run5.start (q : La) (hb : Below wA.heap.size wA w) : Run5 wA w (.slice none 0 0) [] q none none :=
  ⟨hb, ⟨rfl, .inl ⟨rfl, rfl⟩⟩, fun b h => (by cases h), fun b h => (by cases h)⟩
theorem Run5.lt (h : Run5 wA w v ls q b4 b7) {g : Nat} (e : v.ownBlock = some g) : g < w.heap.size ∧ wA.heap.size ≤ g := lown_lt h.own e
theorem Run5.then {w' : World} (h : Run5 wA w v ls q b4 b7) (hb : Below w.heap.size w w') : Run5 wA w' v ls q b4 b7 :=
  ⟨h.bel.trans (hb.mono h.bel.size), lown_keep h.own (fun g e => hb.block g (h.lt e).1),
    fun b e => ⟨(h.sl b e).1, (hb.block b (Array.getElem?_eq_some_iff.1 (h.sl b e).2.1).1).trans (h.sl b e).2.1, (h.sl b e).2.2⟩,
    fun b e => ⟨(h.bx b e).1, (hb.block b (Array.getElem?_eq_some_iff.1 (h.bx b e).2.1).1).trans (h.bx b e).2.1, (h.bx b e).2.2⟩⟩
theorem Run5.kept {w' : World} (h : Run5 wA w v ls q b4 b7) (hb : Below w.heap.size w w') : Kept (fun b => b < wA.heap.size) w w' := Kept.of_below hb (fun _ hb => Nat.lt_of_lt_of_le hb h.bel.size)
theorem Run5.empty (h : Run5 wA w (.slice none 0 0) [] q b4 b7) : Run5 wA (w.alloc (.cells #[] 36)) (.slice (some ⟨w.heap.size, 0, none⟩) 0 0) [] q b4 b7 := by
  have h2 := h.then (bnew w (.cells #[] 36))
  refine ⟨h2.bel, ⟨rfl, .inr ⟨w.heap.size, 0, #[], rfl, h.bel.size, alloc_new _ _, Nat.le_refl _, Nat.zero_le _, rfl, rfl⟩⟩, fun b e => ⟨(h2.sl b e).1, (h2.sl b e).2.1, fun e2 => ?_⟩, fun b e => ⟨(h2.bx b e).1, (h2.bx b e).2.1, fun e2 => ?_⟩⟩
  · have h3 := Option.some.inj (show some w.heap.size = some b from e2)
    have := (Array.getElem?_eq_some_iff.1 (h.sl b e).2.1).1
    omega
  · have h3 := Option.some.inj (show some w.heap.size = some b from e2)
    have := (Array.getElem?_eq_some_iff.1 (h.bx b e).2.1).1
    omega
theorem Run5.slice (h : Run5 wA w v ls q none b7) : Run5 wA (w.alloc (.cells #[.int .i64 q.op, .int .i64 q.nm, .int .i64 q.sq, .int .i64 q.kd] 36)) v ls q (some w.heap.size) b7 := by
  have h2 := h.then (bnew w (.cells #[.int .i64 q.op, .int .i64 q.nm, .int .i64 q.sq, .int .i64 q.kd] 36))
  refine ⟨h2.bel, h2.own, fun b e => ?_, h2.bx⟩
  obtain rfl := Option.some.inj e
  exact ⟨h.bel.size, alloc_new _ _, fun e2 => by have := (h.lt e2).1; omega⟩
theorem Run5.box (h : Run5 wA w v ls q b4 none) : Run5 wA (w.alloc (.cells #[.int .u64 0, .int .u64 0, .slice none 0 0] 27)) v ls q b4 (some w.heap.size) := by
  have h2 := h.then (bnew w (.cells #[.int .u64 0, .int .u64 0, .slice none 0 0] 27))
  refine ⟨h2.bel, h2.own, h2.sl, fun b e => ?_⟩
  obtain rfl := Option.some.inj e
  exact ⟨h.bel.size, alloc_new _ _, fun e2 => by have := (h.lt e2).1; omega⟩
theorem Run5.app (h : Run5 wA w v ls q b4 b7) {a : Option Addr} {c n : Nat} {l : List La} (hs : LasAt w a l) (hz : a = none → c = 0) (hn : n = l.length) (hl : ls.length + l.length ≤ 1000000) (ty : TypeId) :
    ∃ v' w', (Builtin.append_ #[22, 22] ty #[v, .slice a n c]).run Try.prog w = .ok v' w' ∧ Run5 wA w' v' (ls ++ l) q b4 b7 ∧ Kept (fun b => b < wA.heap.size) w w' := by
  obtain ⟨v', w', hr, ho, hg, hob⟩ := OwnA.app h.own h.bel.size hs hz hn hl ty
  have hk : Kept (fun b => b < wA.heap.size) w w' := ⟨hg.os, hg.tape, hg.output, hg.size, fun i hi => hg.block i (Nat.lt_of_lt_of_le hi h.bel.size) (fun e => by have := (h.lt e.symm).2; omega)⟩
  have hne : ∀ b, b < w.heap.size → v.ownBlock ≠ some b → v'.ownBlock ≠ some b := fun b hb hv e => by
    rcases hob with e2 | e2
    · exact hv (by rw [← e2]; exact e)
    · rw [e2] at e
      have := Option.some.inj e
      omega
  refine ⟨v', w', hr, ⟨⟨hk.os.trans h.bel.os, hk.tape.trans h.bel.tape, hk.output.trans h.bel.output, Nat.le_trans h.bel.size hg.size, fun i hi => (hk.block i hi).trans (h.bel.block i hi)⟩, ho, fun b e => ?_, fun b e => ?_⟩, hk⟩
  · have hb := (Array.getElem?_eq_some_iff.1 (h.sl b e).2.1).1
    exact ⟨(h.sl b e).1, (hg.block b hb (fun e2 => (h.sl b e).2.2 e2.symm)).trans (h.sl b e).2.1, hne b hb (h.sl b e).2.2⟩
  · have hb := (Array.getElem?_eq_some_iff.1 (h.bx b e).2.1).1
    exact ⟨(h.bx b e).1, (hg.block b hb (fun e2 => (h.bx b e).2.2 e2.symm)).trans (h.bx b e).2.1, hne b hb (h.bx b e).2.2⟩
theorem las_one {w : World} {b : Nat} (h : w.heap[b]? = some (.cells #[.int .i64 q.op, .int .i64 q.nm, .int .i64 q.sq, .int .i64 q.kd] 36 (0, 0))) : LasAt w (some ⟨b, 0, none⟩) [q] := by
  intro i hi
  refine ⟨b, 0, rfl, (Array.getElem?_eq_some_iff.1 h).1, fun j hj => ?_⟩
  obtain rfl : j = 0 := by simpa using hj
  exact ⟨lcell_of h 0 rfl, lcell_of h 1 rfl, lcell_of h 2 rfl, lcell_of h 3 rfl⟩
theorem Run5.app4 {b : Nat} (h : Run5 wA w v ls q (some b) b7) (hl : ls.length ≤ 100000) (ty : TypeId) :
    ∃ v' w', (Builtin.append_ #[22, 22] ty #[v, .slice (some ⟨b, 0, none⟩) 1 1]).run Try.prog w = .ok v' w' ∧ Run5 wA w' v' (ls ++ [q]) q (some b) b7 ∧ Kept (fun b => b < wA.heap.size) w w' :=
  h.app (las_one (h.sl b rfl).2.1) (fun e => by cases e) rfl (by simp; omega) ty
end
theorem las5 {w : World} {B : Nat} {a : Option Addr} {n c : Nat} {l : List La} (h : OwnA w B (.slice a n c) l) : LasAt w a l := by
  obtain ⟨a', c', e, _, hs⟩ := h.view
  cases e
  exact hs
end Go.Proofs.Ytjbdofjheeljkaa
