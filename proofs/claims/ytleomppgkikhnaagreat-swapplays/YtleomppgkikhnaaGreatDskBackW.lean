/-
  slices.Backward: its contract, for every loop body that keeps the slice and its row.
-/
import Derived.RangeFuncNested
import Derived.RangeFuncBound
import Derived.RangeFuncCalls
import Derived.RangeFuncLeaves
import Derived.Shelf.Abstract
import Derived.Shelf.RegionOpen
import Derived.WalkKit
import Derived.OwnWalkIn
import Derived.TacticsInMore
import Derived.LoopNIn
import Derived.LoopIn
import Derived.Maps.AppendAt
import Derived.Laws.EntriesVeiled
import Derived.Test.YtleomppgkikhnaaGreatDskRelW
namespace Go.Proofs.YtleomppgkikhnaaGreat
open Go.RowKit Go.Shelf
open Dsk (Nm Hold Fl Ct By Dk FRel NRel)

set_option maxRecDepth 100000 in
set_option maxHeartbeats 1000000 in
theorem bchg_any (a : Option Addr) (n c : Nat) (w : World) :
    Calls Tryz.prog 74 #[.slice a n c] w fun e w' => e = .returned (.func (.func 93) #[] #[.pointer (some ⟨w.heap.size, 0, none⟩)]) ∧ w' = w.alloc (.cells #[.slice a n c] 47) := by
  go_enter Tryz.func74, Tryz.ntmps74
  go_wp2
  go_ret
  exact ⟨rfl, rfl⟩

/-- The elements, the last one first. -/
def bchgEnds (α : Type) (el : Nat → α) (m : Nat) (ys : List α) : Prop := ys = ((List.range m).reverse).map el
set_option maxRecDepth 100000 in
set_option maxHeartbeats 2000000 in
theorem bchg1_in {α : Type} (n : Nat) (hn : 1 ≤ n) (l Bs g off cap m : Nat) (a : Option Addr) (ha : 0 < m → a = some ⟨g, off, none⟩) (va : Nat → Value) (el : Nat → α) (encs : α → Array Value) (he : ∀ j, j < m → encs (el j) = #[.int .i64 (j : Int), va j]) (Kp : World → World → Prop) (hK1 : 0 < m → ∀ A B, Kp A B → B.heap[Bs]? = A.heap[Bs]? ∧ B.heap[g]? = A.heap[g]?) (hm : m ≤ 1000000000)
    (J Jx : List α → World → Prop) (W : World)
    (hY : ∀ k, k < m → ∀ W, J (((List.range m).drop (k + 1)).reverse.map el) W → YieldAt Fence.wide (n - 1) Tryz.prog l (encs (el k)) W fun e W' =>
      (e = .returned (.bool true) ∧ J (((List.range m).drop (k + 1)).reverse.map el ++ [el k]) W' ∧ Kp W W') ∨ (e = .returned (.bool false) ∧ Jx (((List.range m).drop (k + 1)).reverse.map el ++ [el k]) W'))
    (hBs : W.cell? ⟨Bs, 0, none⟩ = some (.slice a m cap)) (hel : ∀ j, j < m → W.cell? ⟨g, off + j, none⟩ = some (va j)) (h0 : J [] W) :
    CallsIn Fence.wide n Tryz.prog 93 #[.func (.yield l) #[] #[], .pointer (some ⟨Bs, 0, none⟩)] W fun e W' => (∃ v, e = .returned v) ∧
      ((∃ ys : List α, bchgEnds α el m ys ∧ J ys W') ∨ (∃ pre : List α, True ∧ Jx pre W')) := by
  refine callsIn_of_wp Tryz.func93 rfl trivial ?_ rfl
  simp only [Tryz.ntmps93, List.size_toArray, List.length_cons, List.length_nil, Nat.reduceAdd, Nat.reduceSub, Array.replicate_succ, Array.replicate_zero, List.push_toArray, List.append_toArray, List.nil_append, List.cons_append]
  gi_wp2
  gi_loopw [3] (fun p wr => ∃ (k : Nat) (q : Int), k ≤ m ∧ p = .int .i64 q ∧ q = (k : Int) - 1 ∧ wr.cell? ⟨Bs, 0, none⟩ = some (.slice a m cap) ∧ (∀ j, j < m → wr.cell? ⟨g, off + j, none⟩ = some (va j)) ∧ J (((List.range m).drop k).reverse.map el) wr)
    (fun p _ => ((intOf p) + 1).toNat)
  case atStart => exact ⟨m, _, Nat.le_refl _, rfl, rfl, hBs, hel, by rw [List.drop_of_length_le (by simp)]; exact h0⟩
  case round =>
    obtain ⟨k, q, hk, rfl, hq, hb, hel, hJs⟩ := hrel
    cases k with
    | zero =>
      obtain rfl : q = -1 := by omega
      clear hq
      gi_wp2
      go_end0
      exact ⟨⟨_, rfl⟩, .inl ⟨_, rfl, by simpa using hJs⟩⟩
    | succ k =>
      obtain rfl : q = (k : Int) := by omega
      clear hq
      obtain rfl := ha (by omega)
      have e1 := hel k (by omega)
      have hnext : ((List.range m).drop (k + 1)).reverse.map el ++ [el k] = ((List.range m).drop k).reverse.map el := by
        rw [List.drop_eq_getElem_cons (i := k) (by simp; omega)]
        simp
      have HNX := hide hnext
      clear hnext
      obtain ⟨fn, tmps, assign, body, hy, hR⟩ := hY k (by omega) wr hJs
      rw [he k (by omega)] at hy
      gi_wp2
      refine hR.mono ?_
      rintro e W3 (⟨rfl, hJ3, hk3⟩ | ⟨rfl, hJx3⟩)
      · have hb3 := (World.cell?_of_block (w := wr) (a := ⟨Bs, 0, none⟩) (hK1 (by omega) _ _ hk3).1).trans hb
        have hel3 := fun j (hj : j < m) => (World.cell?_of_block (w := wr) (a := ⟨g, off + j, none⟩) (hK1 (by omega) _ _ hk3).2).trans (hel j hj)
        rw [HNX.out] at hJ3
        clear hb hJs
        gi_wp2
        go_roundw
        case rel => exact ⟨k, _, by omega, rfl, rfl, hb3, hel3, hJ3⟩
        case measure => simp [intOf]
      · gi_wp2
        refine bodyPost_ret (results_none rfl _ _ _) rfl ?_
        exact ⟨⟨_, rfl⟩, .inr ⟨_, trivial, hJx3⟩⟩
theorem bchg_stops {α : Type} (n : Nat) (hn : 1 ≤ n) (Bs g off cap m : Nat) (a : Option Addr) (ha : 0 < m → a = some ⟨g, off, none⟩) (va : Nat → Value) (el : Nat → α) (encs : α → Array Value) (he : ∀ j, j < m → encs (el j) = #[.int .i64 (j : Int), va j]) (Kp : World → World → Prop) (hK1 : 0 < m → ∀ A B, Kp A B → B.heap[Bs]? = A.heap[Bs]? ∧ B.heap[g]? = A.heap[g]?) (hm : m ≤ 1000000000)
    (w : World) (hBs : w.heap[Bs]? = some (.cells #[.slice a m cap] 47 (0, 0))) (hg : 0 < m → g < w.heap.size) (hel : ∀ j, j < m → w.cell? ⟨g, off + j, none⟩ = some (va j)) :
    SeqStopsK Fence.wide n Tryz.prog 93 #[.pointer (some ⟨Bs, 0, none⟩)] encs Kp (fun ys : List α => ys = ((List.range m).reverse).map el) (fun _ => True) m w := fun l J Jx W hW _ _ hY h0 =>
  bchg1_in n hn l Bs g off cap m a ha va el encs he Kp hK1 hm J Jx W (fun k hk W1 hj => hY _ _ W1 hj (by simp; omega)) (cell_of ((hW.block Bs (Array.getElem?_eq_some_iff.1 hBs).1).trans hBs) 0 rfl)
    (fun j hj => (hW.cell (p := ⟨g, off + j, none⟩) (hg (by omega))).trans (hel j hj)) h0

set_option maxRecDepth 100000 in
set_option maxHeartbeats 1000000 in
theorem bhold_any (a : Option Addr) (n c : Nat) (w : World) :
    Calls Tryz.prog 75 #[.slice a n c] w fun e w' => e = .returned (.func (.func 94) #[] #[.pointer (some ⟨w.heap.size, 0, none⟩)]) ∧ w' = w.alloc (.cells #[.slice a n c] 105) := by
  go_enter Tryz.func75, Tryz.ntmps75
  go_wp2
  go_ret
  exact ⟨rfl, rfl⟩

/-- The elements, the last one first. -/
def bholdEnds (α : Type) (el : Nat → α) (m : Nat) (ys : List α) : Prop := ys = ((List.range m).reverse).map el
set_option maxRecDepth 100000 in
set_option maxHeartbeats 2000000 in
theorem bhold1_in {α : Type} (n : Nat) (hn : 1 ≤ n) (l Bs g off cap m : Nat) (a : Option Addr) (ha : 0 < m → a = some ⟨g, off, none⟩) (va vb : Nat → Value) (el : Nat → α) (encs : α → Array Value) (he : ∀ j, j < m → encs (el j) = #[.int .i64 (j : Int), .agg #[va j, vb j]]) (Kp : World → World → Prop) (hK1 : 0 < m → ∀ A B, Kp A B → B.heap[Bs]? = A.heap[Bs]? ∧ B.heap[g]? = A.heap[g]?) (hm : m ≤ 1000000000)
    (J Jx : List α → World → Prop) (W : World)
    (hY : ∀ k, k < m → ∀ W, J (((List.range m).drop (k + 1)).reverse.map el) W → YieldAt Fence.wide (n - 1) Tryz.prog l (encs (el k)) W fun e W' =>
      (e = .returned (.bool true) ∧ J (((List.range m).drop (k + 1)).reverse.map el ++ [el k]) W' ∧ Kp W W') ∨ (e = .returned (.bool false) ∧ Jx (((List.range m).drop (k + 1)).reverse.map el ++ [el k]) W'))
    (hBs : W.cell? ⟨Bs, 0, none⟩ = some (.slice a m cap)) (hel : ∀ j, j < m → W.cell? ⟨g, off + j * 2, none⟩ = some (va j) ∧ W.cell? ⟨g, off + j * 2 + 1, none⟩ = some (vb j)) (h0 : J [] W) :
    CallsIn Fence.wide n Tryz.prog 94 #[.func (.yield l) #[] #[], .pointer (some ⟨Bs, 0, none⟩)] W fun e W' => (∃ v, e = .returned v) ∧
      ((∃ ys : List α, bholdEnds α el m ys ∧ J ys W') ∨ (∃ pre : List α, True ∧ Jx pre W')) := by
  refine callsIn_of_wp Tryz.func94 rfl trivial ?_ rfl
  simp only [Tryz.ntmps94, List.size_toArray, List.length_cons, List.length_nil, Nat.reduceAdd, Nat.reduceSub, Array.replicate_succ, Array.replicate_zero, List.push_toArray, List.append_toArray, List.nil_append, List.cons_append]
  gi_wp2
  gi_loopw [3] (fun p wr => ∃ (k : Nat) (q : Int), k ≤ m ∧ p = .int .i64 q ∧ q = (k : Int) - 1 ∧ wr.cell? ⟨Bs, 0, none⟩ = some (.slice a m cap) ∧ (∀ j, j < m → wr.cell? ⟨g, off + j * 2, none⟩ = some (va j) ∧ wr.cell? ⟨g, off + j * 2 + 1, none⟩ = some (vb j)) ∧ J (((List.range m).drop k).reverse.map el) wr)
    (fun p _ => ((intOf p) + 1).toNat)
  case atStart => exact ⟨m, _, Nat.le_refl _, rfl, rfl, hBs, hel, by rw [List.drop_of_length_le (by simp)]; exact h0⟩
  case round =>
    obtain ⟨k, q, hk, rfl, hq, hb, hel, hJs⟩ := hrel
    cases k with
    | zero =>
      obtain rfl : q = -1 := by omega
      clear hq
      gi_wp2
      go_end0
      exact ⟨⟨_, rfl⟩, .inl ⟨_, rfl, by simpa using hJs⟩⟩
    | succ k =>
      obtain rfl : q = (k : Int) := by omega
      clear hq
      obtain rfl := ha (by omega)
      obtain ⟨e1, e2⟩ := hel k (by omega)
      have hnext : ((List.range m).drop (k + 1)).reverse.map el ++ [el k] = ((List.range m).drop k).reverse.map el := by
        rw [List.drop_eq_getElem_cons (i := k) (by simp; omega)]
        simp
      have HNX := hide hnext
      clear hnext
      obtain ⟨fn, tmps, assign, body, hy, hR⟩ := hY k (by omega) wr hJs
      rw [he k (by omega)] at hy
      gi_wp2
      refine hR.mono ?_
      rintro e W3 (⟨rfl, hJ3, hk3⟩ | ⟨rfl, hJx3⟩)
      · have hb3 := (World.cell?_of_block (w := wr) (a := ⟨Bs, 0, none⟩) (hK1 (by omega) _ _ hk3).1).trans hb
        have hel3 := fun j (hj : j < m) => And.intro ((World.cell?_of_block (w := wr) (a := ⟨g, off + j * 2, none⟩) (hK1 (by omega) _ _ hk3).2).trans (hel j hj).1) ((World.cell?_of_block (w := wr) (a := ⟨g, off + j * 2 + 1, none⟩) (hK1 (by omega) _ _ hk3).2).trans (hel j hj).2)
        rw [HNX.out] at hJ3
        clear hb hJs
        gi_wp2
        go_roundw
        case rel => exact ⟨k, _, by omega, rfl, rfl, hb3, hel3, hJ3⟩
        case measure => simp [intOf]
      · gi_wp2
        refine bodyPost_ret (results_none rfl _ _ _) rfl ?_
        exact ⟨⟨_, rfl⟩, .inr ⟨_, trivial, hJx3⟩⟩
theorem bhold_stops {α : Type} (n : Nat) (hn : 1 ≤ n) (Bs g off cap m : Nat) (a : Option Addr) (ha : 0 < m → a = some ⟨g, off, none⟩) (va vb : Nat → Value) (el : Nat → α) (encs : α → Array Value) (he : ∀ j, j < m → encs (el j) = #[.int .i64 (j : Int), .agg #[va j, vb j]]) (Kp : World → World → Prop) (hK1 : 0 < m → ∀ A B, Kp A B → B.heap[Bs]? = A.heap[Bs]? ∧ B.heap[g]? = A.heap[g]?) (hm : m ≤ 1000000000)
    (w : World) (hBs : w.heap[Bs]? = some (.cells #[.slice a m cap] 105 (0, 0))) (hg : 0 < m → g < w.heap.size) (hel : ∀ j, j < m → w.cell? ⟨g, off + j * 2, none⟩ = some (va j) ∧ w.cell? ⟨g, off + j * 2 + 1, none⟩ = some (vb j)) :
    SeqStopsK Fence.wide n Tryz.prog 94 #[.pointer (some ⟨Bs, 0, none⟩)] encs Kp (fun ys : List α => ys = ((List.range m).reverse).map el) (fun _ => True) m w := fun l J Jx W hW _ _ hY h0 =>
  bhold1_in n hn l Bs g off cap m a ha va vb el encs he Kp hK1 hm J Jx W (fun k hk W1 hj => hY _ _ W1 hj (by simp; omega)) (cell_of ((hW.block Bs (Array.getElem?_eq_some_iff.1 hBs).1).trans hBs) 0 rfl)
    (fun j hj => ⟨(hW.cell (p := ⟨g, off + j * 2, none⟩) (hg (by omega))).trans (hel j hj).1, (hW.cell (p := ⟨g, off + j * 2 + 1, none⟩) (hg (by omega))).trans (hel j hj).2⟩) h0

set_option maxRecDepth 100000 in
set_option maxHeartbeats 1000000 in
theorem bcut_any (a : Option Addr) (n c : Nat) (w : World) :
    Calls Tryz.prog 79 #[.slice a n c] w fun e w' => e = .returned (.func (.func 95) #[] #[.pointer (some ⟨w.heap.size, 0, none⟩)]) ∧ w' = w.alloc (.cells #[.slice a n c] 72) := by
  go_enter Tryz.func79, Tryz.ntmps79
  go_wp2
  go_ret
  exact ⟨rfl, rfl⟩

/-- The elements, the last one first. -/
def bcutEnds (α : Type) (el : Nat → α) (m : Nat) (ys : List α) : Prop := ys = ((List.range m).reverse).map el
set_option maxRecDepth 100000 in
set_option maxHeartbeats 2000000 in
theorem bcut1_in {α : Type} (n : Nat) (hn : 1 ≤ n) (l Bs g off cap m : Nat) (a : Option Addr) (ha : 0 < m → a = some ⟨g, off, none⟩) (va vb : Nat → Value) (el : Nat → α) (encs : α → Array Value) (he : ∀ j, j < m → encs (el j) = #[.int .i64 (j : Int), .agg #[va j, vb j]]) (Kp : World → World → Prop) (hK1 : 0 < m → ∀ A B, Kp A B → B.heap[Bs]? = A.heap[Bs]? ∧ B.heap[g]? = A.heap[g]?) (hm : m ≤ 1000000000)
    (J Jx : List α → World → Prop) (W : World)
    (hY : ∀ k, k < m → ∀ W, J (((List.range m).drop (k + 1)).reverse.map el) W → YieldAt Fence.wide (n - 1) Tryz.prog l (encs (el k)) W fun e W' =>
      (e = .returned (.bool true) ∧ J (((List.range m).drop (k + 1)).reverse.map el ++ [el k]) W' ∧ Kp W W') ∨ (e = .returned (.bool false) ∧ Jx (((List.range m).drop (k + 1)).reverse.map el ++ [el k]) W'))
    (hBs : W.cell? ⟨Bs, 0, none⟩ = some (.slice a m cap)) (hel : ∀ j, j < m → W.cell? ⟨g, off + j * 2, none⟩ = some (va j) ∧ W.cell? ⟨g, off + j * 2 + 1, none⟩ = some (vb j)) (h0 : J [] W) :
    CallsIn Fence.wide n Tryz.prog 95 #[.func (.yield l) #[] #[], .pointer (some ⟨Bs, 0, none⟩)] W fun e W' => (∃ v, e = .returned v) ∧
      ((∃ ys : List α, bcutEnds α el m ys ∧ J ys W') ∨ (∃ pre : List α, True ∧ Jx pre W')) := by
  refine callsIn_of_wp Tryz.func95 rfl trivial ?_ rfl
  simp only [Tryz.ntmps95, List.size_toArray, List.length_cons, List.length_nil, Nat.reduceAdd, Nat.reduceSub, Array.replicate_succ, Array.replicate_zero, List.push_toArray, List.append_toArray, List.nil_append, List.cons_append]
  gi_wp2
  gi_loopw [3] (fun p wr => ∃ (k : Nat) (q : Int), k ≤ m ∧ p = .int .i64 q ∧ q = (k : Int) - 1 ∧ wr.cell? ⟨Bs, 0, none⟩ = some (.slice a m cap) ∧ (∀ j, j < m → wr.cell? ⟨g, off + j * 2, none⟩ = some (va j) ∧ wr.cell? ⟨g, off + j * 2 + 1, none⟩ = some (vb j)) ∧ J (((List.range m).drop k).reverse.map el) wr)
    (fun p _ => ((intOf p) + 1).toNat)
  case atStart => exact ⟨m, _, Nat.le_refl _, rfl, rfl, hBs, hel, by rw [List.drop_of_length_le (by simp)]; exact h0⟩
  case round =>
    obtain ⟨k, q, hk, rfl, hq, hb, hel, hJs⟩ := hrel
    cases k with
    | zero =>
      obtain rfl : q = -1 := by omega
      clear hq
      gi_wp2
      go_end0
      exact ⟨⟨_, rfl⟩, .inl ⟨_, rfl, by simpa using hJs⟩⟩
    | succ k =>
      obtain rfl : q = (k : Int) := by omega
      clear hq
      obtain rfl := ha (by omega)
      obtain ⟨e1, e2⟩ := hel k (by omega)
      have hnext : ((List.range m).drop (k + 1)).reverse.map el ++ [el k] = ((List.range m).drop k).reverse.map el := by
        rw [List.drop_eq_getElem_cons (i := k) (by simp; omega)]
        simp
      have HNX := hide hnext
      clear hnext
      obtain ⟨fn, tmps, assign, body, hy, hR⟩ := hY k (by omega) wr hJs
      rw [he k (by omega)] at hy
      gi_wp2
      refine hR.mono ?_
      rintro e W3 (⟨rfl, hJ3, hk3⟩ | ⟨rfl, hJx3⟩)
      · have hb3 := (World.cell?_of_block (w := wr) (a := ⟨Bs, 0, none⟩) (hK1 (by omega) _ _ hk3).1).trans hb
        have hel3 := fun j (hj : j < m) => And.intro ((World.cell?_of_block (w := wr) (a := ⟨g, off + j * 2, none⟩) (hK1 (by omega) _ _ hk3).2).trans (hel j hj).1) ((World.cell?_of_block (w := wr) (a := ⟨g, off + j * 2 + 1, none⟩) (hK1 (by omega) _ _ hk3).2).trans (hel j hj).2)
        rw [HNX.out] at hJ3
        clear hb hJs
        gi_wp2
        go_roundw
        case rel => exact ⟨k, _, by omega, rfl, rfl, hb3, hel3, hJ3⟩
        case measure => simp [intOf]
      · gi_wp2
        refine bodyPost_ret (results_none rfl _ _ _) rfl ?_
        exact ⟨⟨_, rfl⟩, .inr ⟨_, trivial, hJx3⟩⟩
theorem bcut_stops {α : Type} (n : Nat) (hn : 1 ≤ n) (Bs g off cap m : Nat) (a : Option Addr) (ha : 0 < m → a = some ⟨g, off, none⟩) (va vb : Nat → Value) (el : Nat → α) (encs : α → Array Value) (he : ∀ j, j < m → encs (el j) = #[.int .i64 (j : Int), .agg #[va j, vb j]]) (Kp : World → World → Prop) (hK1 : 0 < m → ∀ A B, Kp A B → B.heap[Bs]? = A.heap[Bs]? ∧ B.heap[g]? = A.heap[g]?) (hm : m ≤ 1000000000)
    (w : World) (hBs : w.heap[Bs]? = some (.cells #[.slice a m cap] 72 (0, 0))) (hg : 0 < m → g < w.heap.size) (hel : ∀ j, j < m → w.cell? ⟨g, off + j * 2, none⟩ = some (va j) ∧ w.cell? ⟨g, off + j * 2 + 1, none⟩ = some (vb j)) :
    SeqStopsK Fence.wide n Tryz.prog 95 #[.pointer (some ⟨Bs, 0, none⟩)] encs Kp (fun ys : List α => ys = ((List.range m).reverse).map el) (fun _ => True) m w := fun l J Jx W hW _ _ hY h0 =>
  bcut1_in n hn l Bs g off cap m a ha va vb el encs he Kp hK1 hm J Jx W (fun k hk W1 hj => hY _ _ W1 hj (by simp; omega)) (cell_of ((hW.block Bs (Array.getElem?_eq_some_iff.1 hBs).1).trans hBs) 0 rfl)
    (fun j hj => ⟨(hW.cell (p := ⟨g, off + j * 2, none⟩) (hg (by omega))).trans (hel j hj).1, (hW.cell (p := ⟨g, off + j * 2 + 1, none⟩) (hg (by omega))).trans (hel j hj).2⟩) h0

end Go.Proofs.YtleomppgkikhnaaGreat
