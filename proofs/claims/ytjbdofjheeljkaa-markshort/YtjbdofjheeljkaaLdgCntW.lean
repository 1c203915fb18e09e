/-
  Find's two ends with all numbers; what LedgerCounts asks, plain.
-/
import Derived.Test.YtjbdofjheeljkaaLdgPlayW
import Derived.Test.YtjbdofjheeljkaaPlain
namespace Go.Proofs.Ytjbdofjheeljkaa
open Go.RowKit
open Ldg (De Le Rd Rl actL runL)

theorem find_all {w w' : World} {e : Ending} {A : Rl} {n : ByteArray} (h : FindE w (A.abs.look n) e w') : ∃ (fn : ByteArray) (fs fl : Nat) (fa : Option Addr) (fm fc fk fe fr : Nat) (isb : Bool), e = .returned (.tuple #[.agg #[.string fn, .int .u64 (fs : Int), .int .u64 (fl : Int), .slice fa fm fc, .int .u64 (fk : Int), .int .u64 (fe : Int), .int .u64 (fr : Int)], .bool isb]) ∧ Below w.heap.size w w' ∧ (isb = false ∨ (isb = true ∧ ∃ d, A.look n = some d ∧ RL d fn fs fl fk fe fr)) := by
  obtain ⟨hb, h⟩ := h
  rw [Ldg.abs_look] at h
  rcases h with ⟨h0, rfl⟩ | ⟨d, sv, hd, rfl, hs⟩
  · exact ⟨⟨#[]⟩, 0, 0, none, 0, 0, 0, 0, 0, false, rfl, hb, .inl rfl⟩
  · obtain ⟨a, c, rfl, _, _, _⟩ := hs
    cases hl : A.look n with
    | none => rw [hl] at hd; cases hd
    | some r =>
      rw [hl] at hd
      obtain rfl : r.abs = d := Option.some.inj hd
      exact ⟨_, _, _, _, _, _, _, _, _, true, rfl, hb, .inr ⟨rfl, r, rfl, rfl, rfl, rfl, rfl, rfl, rfl⟩⟩
theorem at_then {W W' : World} {g : Nat} {o : Obj} (h : W.heap[g]? = some o) (hb : Below W.heap.size W W') : W'.heap[g]? = some o := (hb.block g (Array.getElem?_eq_some_iff.1 h).1).trans h
/-- Of one of its destinations. -/
structure CntI (R : Rl) (d : Rd) (pa : List Nat) : Prop where
  all : d.all.count 97 + d.all.count 101 + d.all.count 114 + pa.length = R.next - d.since
  le : d.since ≤ R.next
  mem : ∀ x ∈ pa, d.since ≤ x ∧ R.first ≤ x ∧ x < R.next ∧ R.waits d.name x = true
  rise : pa.Pairwise (· < ·)
theorem cnt_of {R : Rl} (h : R.Ok) {d : Rd} (hd : d ∈ R.dests) {pa : List Nat} (hp : R.pend d.name = pa) : CntI R d pa := by
  have he := h.each d hd
  rw [Ldg.pend_of h hd] at hp
  subst hp
  refine ⟨Ldg.whole he, by have := he.ends; omega, fun x hx => ?_, Ldg.pend_rise d⟩
  obtain ⟨h1, h2, h3⟩ := Ldg.pend_in he hx
  refine ⟨h1, h2, h3, ?_⟩
  rw [Ldg.waits_of h hd]
  simpa using hx
/-- .. behind one more act. -/
structure MoreI (R M : Rl) (d e : Rd) (pb : List Nat) : Prop where
  ak : d.all.count 97 ≤ e.all.count 97
  ev : d.all.count 101 ≤ e.all.count 101
  rj : d.all.count 114 ≤ e.all.count 114
  since : e.since = d.since
  low : d.low ≤ e.low
  mem : ∀ x ∈ pb, x < R.next → R.waits d.name x = true
theorem more_of {R M : Rl} (h : R.Ok) {q : La} (hM : M = actL R q) {d e : Rd} (hd : d ∈ R.dests) (he : M.look d.name = some e) {pb : List Nat} (hp : M.pend d.name = pb) : MoreI R M d e pb := by
  subst hM
  have hL := Ldg.act_find h hd he
  have hpe : (actL R q).pend d.name = e.pend := by unfold Ldg.Rl.pend; rw [he]
  rw [hpe] at hp
  subst hp
  refine ⟨hL.count (by decide), hL.count (by decide), hL.count (by decide), hL.since, hL.low, fun x hx hn => ?_⟩
  rw [Ldg.waits_of h hd]
  have := hL.pend hx (by have := (h.each d hd).ends; omega)
  simpa using this
theorem act_grows {R M : Rl} {q : La} (hM : M = actL R q) : R.first ≤ M.first ∧ R.next ≤ M.next := by
  subst hM
  exact Ldg.act_first
end Go.Proofs.Ytjbdofjheeljkaa
