/-
  A ledger in a box of the call's own.
-/
import Derived.Test.YtjbdofjheeljkaaLdgRunW
namespace Go.Proofs.Ytjbdofjheeljkaa
open Go.RowKit
open Ldg (De Le Rd Rl actL runL)

/-- A ledger as it is handed on: two numbers and a slice. -/
def ledV (F N : Nat) (a : Option Addr) (m c : Nat) : Value := .agg #[.int .u64 (F : Int), .int .u64 (N : Int), .slice a m c]
theorem LedAt.view {w : World} {v : Value} {L : Le} (h : LedAt w v L) : ∃ a m c, v = .agg #[.int .u64 (L.first : Int), .int .u64 (L.next : Int), .slice a m c] ∧ m = L.dests.length ∧ LedAt w (.agg #[.int .u64 (L.first : Int), .int .u64 (L.next : Int), .slice a m c]) L := by
  obtain ⟨a, c, ps, e, hc, hd, hs⟩ := h
  exact ⟨a, ps.length, c, e, by rw [hd, List.length_map], a, c, ps, rfl, hc, hd, hs⟩
/-- A box that holds one. -/
structure LBox (W : World) (g : Nat) (L : Le) (F N : Nat) (a : Option Addr) (m c : Nat) : Prop where
  cell : W.heap[g]? = some (.cells #[.int .u64 (F : Int), .int .u64 (N : Int), .slice a m c] 27 (0, 0))
  led : LedAt W (.agg #[.int .u64 (F : Int), .int .u64 (N : Int), .slice a m c]) L
theorem LBox.then {W W' : World} {g : Nat} {L : Le} {F N : Nat} {a : Option Addr} {m c : Nat} (h : LBox W g L F N a m c) (hb : Below W.heap.size W W') : LBox W' g L F N a m c :=
  ⟨(hb.block _ (Array.getElem?_eq_some_iff.1 h.cell).1).trans h.cell, h.led.below hb⟩
theorem LBox.lt {W : World} {g : Nat} {L : Le} {F N : Nat} {a : Option Addr} {m c : Nat} (h : LBox W g L F N a m c) : g < W.heap.size := (Array.getElem?_eq_some_iff.1 h.cell).1
theorem LBox.new {W : World} {L : Le} {F N : Nat} {a : Option Addr} {m c : Nat} (h : LedAt W (.agg #[.int .u64 (F : Int), .int .u64 (N : Int), .slice a m c]) L) : LBox (W.alloc (.cells #[.int .u64 (F : Int), .int .u64 (N : Int), .slice a m c] 27)) W.heap.size L F N a m c :=
  ⟨alloc_new _ _, h.below ((Below.refl _ W).alloc (Nat.le_refl _) _)⟩
theorem bnew (W : World) (o : Obj) : Below W.heap.size W (W.alloc o) := (Below.refl _ W).alloc (Nat.le_refl _) _
/-- Another one is written into a box. -/
theorem LBox.write {W : World} {g : Nat} {L L' : Le} {F N F' N' : Nat} {a a' : Option Addr} {m c m' c' : Nat} (h : LBox W g L F N a m c) (hl : LedAt W (.agg #[.int .u64 (F' : Int), .int .u64 (N' : Int), .slice a' m' c']) L') (hz : ∀ d ∈ L'.dests, ∀ x ∈ d.above, x ≠ F ∧ x ≠ N) :
    LBox (((W.setCell ⟨g, 0, none⟩ (.int .u64 (F' : Int))).setCell ⟨g, 1, none⟩ (.int .u64 (N' : Int))).setCell ⟨g, 2, none⟩ (.slice a' m' c')) g L' F' N' a' m' c' :=
  ⟨set3 h.cell _ _ _, hl.over hz h.cell (kept3 W g _ _ _)⟩
/-- .. into a box of noughts. -/
theorem LBox.fill {W : World} {g : Nat} {L : Le} {F N : Nat} {a : Option Addr} {m c : Nat} (h : W.heap[g]? = some (.cells #[.int .u64 0, .int .u64 0, .slice none 0 0] 27 (0, 0))) (hl : LedAt W (.agg #[.int .u64 (F : Int), .int .u64 (N : Int), .slice a m c]) L) (hz : ∀ d ∈ L.dests, ∀ x ∈ d.above, x ≠ 0) :
    LBox (((W.setCell ⟨g, 0, none⟩ (.int .u64 (F : Int))).setCell ⟨g, 1, none⟩ (.int .u64 (N : Int))).setCell ⟨g, 2, none⟩ (.slice a m c)) g L F N a m c :=
  ⟨set3 h _ _ _, hl.put hz h (kept3 W g _ _ _)⟩
theorem LBox.view {W : World} {g : Nat} {L : Le} {F N : Nat} {a : Option Addr} {m c : Nat} (h : LBox W g L F N a m c) : F = L.first ∧ N = L.next ∧ m = L.dests.length ∧ m ≤ c := by
  obtain ⟨a2, c2, ps, e, hc, hd, hs⟩ := h.led
  simp only [Value.agg.injEq, Array.mk.injEq, List.cons.injEq, Value.int.injEq, true_and, and_true, Value.slice.injEq] at e
  obtain ⟨h1, h2, h3, h4, h5⟩ := e
  exact ⟨by omega, by omega, by rw [h4, hd, List.length_map], by omega⟩
/-- One of its destinations. -/
structure DCells (W : World) (a : Option Addr) (k : Nat) (d : De) : Prop where
  out : ∃ b off sv, a = some ⟨b, off, none⟩ ∧ b < W.heap.size ∧ SlIn anyB W sv d.above ∧ ∀ (i : Nat) (u : Value), (drow (d, sv))[i]? = some u → W.cell? ⟨b, off + k * 7 + i, none⟩ = some u
theorem LBox.dest {W : World} {g : Nat} {L : Le} {F N : Nat} {a : Option Addr} {m c : Nat} (h : LBox W g L F N a m c) {k : Nat} (hk : k < L.dests.length) : DCells W a k L.dests[k] := by
  obtain ⟨a2, c2, ps, e, hc, hd, hs⟩ := h.led
  simp only [Value.agg.injEq, Array.mk.injEq, List.cons.injEq, Value.int.injEq, true_and, and_true, Value.slice.injEq] at e
  obtain ⟨h1, h2, rfl, h4, h5⟩ := e
  have hk' : k < ps.length := by rw [hd, List.length_map] at hk; exact hk
  obtain ⟨b, off, ha, hl, hcs⟩ := hs.cells k hk'
  have e1 : L.dests[k] = ps[k].1 := by simp [hd]
  refine ⟨b, off, ps[k].2, ha, hl, ?_, fun i u hu => hcs k hk' i u ?_⟩
  · rw [e1]; exact hs.sls _ (List.getElem_mem hk')
  · rw [e1] at hu; exact hu

/-! ## Chapter 10's examples, plain -/
namespace Ldg
def aN : ByteArray := ⟨#[97]⟩
def x1 : Rl := ⟨1, 1, [⟨aN, 1, []⟩]⟩
def x4 : Rl := ⟨1, 4, [⟨aN, 1, [112, 112, 112]⟩]⟩
def xm : Rl := ⟨1, 4, [⟨aN, 1, [112, 97, 112]⟩]⟩
def xn : Rl := ⟨3, 4, [⟨aN, 1, [101, 97, 112]⟩]⟩
theorem x1_is : Rl.join aN ⟨1, 1, []⟩ = (x1, 0) := by kernel_rfl
theorem x4_is : x1.add.add.add = x4 := rfl
theorem xm_is : Rl.done aN 2 97 x4 = (xm, 0) := by kernel_rfl
theorem xn_is : Rl.evict 3 xm = (xn, 0) := by kernel_rfl
theorem x1_ok : x1.Ok := by have := join_ok (n := aN) new_ok (by rw [x1_is]); rw [x1_is] at this; exact this
theorem x4_ok : x4.Ok := by rw [← x4_is]; exact add_ok (add_ok (add_ok x1_ok (by decide)) (by decide)) (by decide)
theorem xm_ok : xm.Ok := by have := done_ok (n := aN) (s := 2) (k := 97) x4_ok (by rw [xm_is]); rw [xm_is] at this; exact this
theorem xn_ok : xn.Ok := by have := evict_ok (t := 3) xm_ok (by rw [xn_is]); rw [xn_is] at this; exact this
theorem xm_pend : xm.pend aN = [1, 3] := by kernel_rfl
theorem xn_pend : xn.pend aN = [3] := by kernel_rfl
end Ldg
end Go.Proofs.Ytjbdofjheeljkaa
