/-
  What LedgerPlays holds at a turn of its loop: the boxes of before, and those of what an act made.
-/
import Derived.Test.YtjbdofjheeljkaaLdgRowCW
import Derived.Test.YtjbdofjheeljkaaLdgRunW
import Derived.Test.YtjbdofjheeljkaaLdgRead3W
namespace Go.Proofs.Ytjbdofjheeljkaa
open Go.RowKit
open Ldg (De Le Rd Rl actL runL aN)

/-- A box of the document's ledger. -/
structure RBox (W : World) (g : Nat) (R : Rl) (F N : Nat) (a : Option Addr) (m c : Nat) : Prop where
  cell : W.heap[g]? = some (.cells #[.int .u64 (F : Int), .int .u64 (N : Int), .slice a m c] 31 (0, 0))
  rl : RlAt W (.agg #[.int .u64 (F : Int), .int .u64 (N : Int), .slice a m c]) R
theorem RBox.lt {W : World} {g : Nat} {R : Rl} {F N : Nat} {a : Option Addr} {m c : Nat} (h : RBox W g R F N a m c) : g < W.heap.size := (Array.getElem?_eq_some_iff.1 h.cell).1
theorem RBox.then {W W' : World} {g : Nat} {R : Rl} {F N : Nat} {a : Option Addr} {m c : Nat} (h : RBox W g R F N a m c) (hb : Below W.heap.size W W') : RBox W' g R F N a m c :=
  ⟨(hb.block _ h.lt).trans h.cell, h.rl.below hb⟩
theorem RBox.fill {W : World} {g : Nat} {R : Rl} {F N : Nat} {a : Option Addr} {m c : Nat} (h : W.heap[g]? = some (.cells #[.int .u64 0, .int .u64 0, .slice none 0 0] 31 (0, 0))) (hl : RlAt W (.agg #[.int .u64 (F : Int), .int .u64 (N : Int), .slice a m c]) R) :
    RBox (((W.setCell ⟨g, 0, none⟩ (.int .u64 (F : Int))).setCell ⟨g, 1, none⟩ (.int .u64 (N : Int))).setCell ⟨g, 2, none⟩ (.slice a m c)) g R F N a m c :=
  ⟨set3 h _ _ _, hl.put h (kept3 W g _ _ _)⟩
theorem RlAt.view {w : World} {v : Value} {R : Rl} (h : RlAt w v R) : ∃ a m c, v = .agg #[.int .u64 (R.first : Int), .int .u64 (R.next : Int), .slice a m c] ∧ RlAt w (.agg #[.int .u64 (R.first : Int), .int .u64 (R.next : Int), .slice a m c]) R := by
  obtain ⟨a, c, ps, e, hc, hd, hs⟩ := h
  exact ⟨a, ps.length, c, e, a, c, ps, rfl, hc, hd, hs⟩
/-- A box of noughts is no other box's business: what was laid ahead of it keeps. -/
theorem LBox.keep0 {W W' : World} {g X : Nat} {L : Le} {F N : Nat} {a : Option Addr} {m c : Nat} {t : TypeId} (h : LBox W g L F N a m c) (hk : Kept (fun b => b ≠ X) W W') (hne : g ≠ X) (h2 : W.heap[X]? = some (.cells #[.int .u64 0, .int .u64 0, .slice none 0 0] t (0, 0))) (hz : ∀ d ∈ L.dests, ∀ x ∈ d.above, x ≠ 0) : LBox W' g L F N a m c :=
  ⟨(hk.block g hne).trans h.cell, h.led.put hz h2 hk⟩
theorem RBox.keep0 {W W' : World} {g X : Nat} {R : Rl} {F N : Nat} {a : Option Addr} {m c : Nat} {t : TypeId} (h : RBox W g R F N a m c) (hk : Kept (fun b => b ≠ X) W W') (hne : g ≠ X) (h2 : W.heap[X]? = some (.cells #[.int .u64 0, .int .u64 0, .slice none 0 0] t (0, 0))) : RBox W' g R F N a m c :=
  ⟨(hk.block g hne).trans h.cell, h.rl.put h2 hk⟩
theorem RunI.keep0 {w W W' : World} {X Y Z : Nat} {R : Rl} {a1 a2 : Option Addr} {m1 c1 m2 c2 : Nat} {t : TypeId} (h : RunI w W X Y R a1 m1 c1 a2 m2 c2) (hk : Kept (fun b => b ≠ Z) W W') (hx : X ≠ Z) (hy : Y ≠ Z) (hw : w.heap.size ≤ Z) (h2 : W.heap[Z]? = some (.cells #[.int .u64 0, .int .u64 0, .slice none 0 0] t (0, 0))) : RunI w W' X Y R a1 m1 c1 a2 m2 c2 :=
  ⟨(hk.block X hx).trans h.x, (hk.block Y hy).trans h.y, h.led.put (above_pos h.ok) h2 hk, h.rl.put h2 hk, h.ok, h.lo, h.xy, Nat.lt_of_lt_of_le h.sz hk.size, h.bel.trans (hk.bel (fun b hb => by omega))⟩
def hasN (n : ByteArray) : List ByteArray → Bool
  | [] => false
  | x :: r => decide (x = n) || hasN n r
theorem hasN_iff (n : ByteArray) : ∀ l : List ByteArray, hasN n l = true ↔ n ∈ l
  | [] => by simp [hasN]
  | x :: r => by
    have ih := hasN_iff n r
    unfold hasN
    rw [Bool.or_eq_true, decide_eq_true_iff, ih, List.mem_cons]
    exact or_congr ⟨Eq.symm, Eq.symm⟩ Iff.rfl
/-- Is the name among the first k? -/
def seenN (A : Rl) (n : ByteArray) (k : Nat) : Bool := hasN n (A.names.take k)
theorem seenN_next {A : Rl} {n : ByteArray} {k : Nat} (hk : k < A.dests.length) : seenN A n (k + 1) = (seenN A n k || decide (A.dests[k].name = n)) := by
  have hk2 : k < A.names.length := by unfold Ldg.Rl.names; rw [List.length_map]; exact hk
  have e : A.names[k] = A.dests[k].name := List.getElem_map _
  unfold seenN
  rw [List.take_succ_eq_append_getElem hk2, e, Bool.eq_iff_iff, hasN_iff, List.mem_append, Bool.or_eq_true, hasN_iff, decide_eq_true_iff, List.mem_singleton]
  exact or_congr Iff.rfl ⟨Eq.symm, Eq.symm⟩
theorem seenN_all {A : Rl} {n : ByteArray} {k : Nat} (hk : A.dests.length ≤ k) : (seenN A n k = true ↔ n ∈ A.names) := by
  unfold seenN
  rw [List.take_of_length_le (by unfold Ldg.Rl.names; rw [List.length_map]; exact hk)]
  exact hasN_iff _ _
/-- Find's two ends in one. -/
theorem find_cases {w w' : World} {e : Ending} {A : Rl} {n : ByteArray} (h : FindE w (A.abs.look n) e w') : ∃ (fn : ByteArray) (fs fl : Nat) (fa : Option Addr) (fm fc fk fe fr : Nat) (isb : Bool), e = .returned (.tuple #[.agg #[.string fn, .int .u64 (fs : Int), .int .u64 (fl : Int), .slice fa fm fc, .int .u64 (fk : Int), .int .u64 (fe : Int), .int .u64 (fr : Int)], .bool isb]) ∧ Below w.heap.size w w' ∧ ((isb = false ∧ n ∉ A.names) ∨ (isb = true ∧ ∃ d ∈ A.dests, d.name = n ∧ fs = d.since ∧ fl = d.low)) := by
  obtain ⟨hb, h⟩ := h
  rw [Ldg.abs_look] at h
  rcases h with ⟨h0, rfl⟩ | ⟨d, sv, hd, rfl, hs⟩
  · refine ⟨⟨#[]⟩, 0, 0, none, 0, 0, 0, 0, 0, false, rfl, hb, .inl ⟨rfl, ?_⟩⟩
    cases hl : A.look n with
    | none => exact Ldg.look_plc hl
    | some r => rw [hl] at h0; cases h0
  · obtain ⟨a, c, rfl, _, _, _⟩ := hs
    cases hl : A.look n with
    | none => rw [hl] at hd; cases hd
    | some r =>
      rw [hl] at hd
      obtain rfl : r.abs = d := Option.some.inj hd
      exact ⟨_, _, _, _, _, _, _, _, _, true, rfl, hb, .inr ⟨rfl, r, Ldg.look_mem hl, Ldg.look_name hl, rfl, rfl⟩⟩
/-- What region 9 leaves. -/
structure PlayI (w W : World) (X Y : Nat) (R : Rl) (a1 : Option Addr) (m1 c1 : Nat) (a2 : Option Addr) (m2 c2 : Nat) (U V : Nat) (A : Rl) (b1 : Option Addr) (n1 d1 : Nat) (b2 : Option Addr) (n2 d2 : Nat) : Prop where
  ri : RunI w W X Y R a1 m1 c1 a2 m2 c2
  u : LBox W U A.abs A.first A.next b1 n1 d1
  v : RBox W V A A.first A.next b2 n2 d2
  xu : X < U
  yu : Y < U
  xv : X < V
  yv : Y < V
  uv : U ≠ V
theorem PlayI.then {w W W' : World} {X Y : Nat} {R A : Rl} {a1 a2 : Option Addr} {m1 c1 m2 c2 U V : Nat} {b1 b2 : Option Addr} {n1 d1 n2 d2 : Nat} (h : PlayI w W X Y R a1 m1 c1 a2 m2 c2 U V A b1 n1 d1 b2 n2 d2) (hb : Below W.heap.size W W') : PlayI w W' X Y R a1 m1 c1 a2 m2 c2 U V A b1 n1 d1 b2 n2 d2 :=
  ⟨h.ri.then hb, h.u.then hb, h.v.then hb, h.xu, h.yu, h.xv, h.yv, h.uv⟩
/-- Both stores. -/
theorem PlayI.made {w W : World} {X Y : Nat} {R A : Rl} {a1 a2 : Option Addr} {m1 c1 m2 c2 U V : Nat} {b1 b2 : Option Addr} {n1 d1 n2 d2 F N : Nat} (h : RunI w W X Y R a1 m1 c1 a2 m2 c2) (hA : A.Ok) (hF : A.first = F) (hN : A.next = N)
    (hu : W.heap[U]? = some (.cells #[.int .u64 0, .int .u64 0, .slice none 0 0] 27 (0, 0))) (hv : W.heap[V]? = some (.cells #[.int .u64 0, .int .u64 0, .slice none 0 0] 31 (0, 0)))
    (hl : LedAt W (.agg #[.int .u64 (F : Int), .int .u64 (N : Int), .slice b1 n1 d1]) A.abs) (hr : RlAt W (.agg #[.int .u64 (F : Int), .int .u64 (N : Int), .slice b2 n2 d2]) A) (xu : X < U) (yu : Y < U) (xv : X < V) (yv : Y < V) (uv : U ≠ V) :
    PlayI w (wrote W U V F N (.slice b1 n1 d1) (.slice b2 n2 d2)) X Y R a1 m1 c1 a2 m2 c2 U V A b1 n1 d1 b2 n2 d2 := by
  subst hF hN
  have hlo := h.lo
  have k1 := kept3 W U (.int .u64 (A.first : Int)) (.int .u64 (A.next : Int)) (.slice b1 n1 d1)
  have hlu := LBox.fill hu hl (above_pos hA)
  have hru := hr.put hu k1
  have hv1 := (k1.block V (fun e => uv e.symm)).trans hv
  have hri := h.keep0 k1 (by omega) (by omega) (by omega) hu
  unfold wrote
  generalize ((W.setCell ⟨U, 0, none⟩ (.int .u64 (A.first : Int))).setCell ⟨U, 1, none⟩ (.int .u64 (A.next : Int))).setCell ⟨U, 2, none⟩ (.slice b1 n1 d1) = W1 at *
  have k2 := kept3 W1 V (.int .u64 (A.first : Int)) (.int .u64 (A.next : Int)) (.slice b2 n2 d2)
  exact ⟨hri.keep0 k2 (by omega) (by omega) (by omega) hv1, hlu.keep0 k2 uv hv1 (above_pos hA), RBox.fill hv1 hru, xu, yu, xv, yv, uv⟩
/-- A box with the ledger of before is written over. -/
theorem PlayI.over {w W : World} {X Y : Nat} {R A : Rl} {a1 a2 : Option Addr} {m1 c1 m2 c2 U V : Nat} {b1 b2 : Option Addr} {n1 d1 n2 d2 : Nat} (h : PlayI w W X Y R a1 m1 c1 a2 m2 c2 U V A b1 n1 d1 b2 n2 d2) (hA : A.Ok) (hz : ∀ d ∈ A.abs.dests, ∀ x ∈ d.above, x ≠ R.first ∧ x ≠ R.next) :
    RunI w (wrote W X Y A.first A.next (.slice b1 n1 d1) (.slice b2 n2 d2)) X Y A b1 n1 d1 b2 n2 d2 := h.ri.write h.u.led h.v.rl hA hz
end Go.Proofs.Ytjbdofjheeljkaa
