/-
  A destination's cells, behind a box that holds a ledger.
-/
import Derived.Test.YtjbdofjheeljkaaLdgShownW
import Derived.Test.YtjbdofjheeljkaaPlain
namespace Go.Proofs.Ytjbdofjheeljkaa
open Go.RowKit
open Ldg (De Le Rd Rl actL runL aN)

/-- Seven cells. -/
structure RC (W : World) (b o : Nat) (nm : ByteArray) (s lo ak ev rj : Nat) (sv : Value) : Prop where
  c0 : W.cell? ⟨b, o, none⟩ = some (.string nm)
  c1 : W.cell? ⟨b, o + 1, none⟩ = some (.int .u64 (s : Int))
  c2 : W.cell? ⟨b, o + 2, none⟩ = some (.int .u64 (lo : Int))
  c3 : W.cell? ⟨b, o + 3, none⟩ = some sv
  c4 : W.cell? ⟨b, o + 4, none⟩ = some (.int .u64 (ak : Int))
  c5 : W.cell? ⟨b, o + 5, none⟩ = some (.int .u64 (ev : Int))
  c6 : W.cell? ⟨b, o + 6, none⟩ = some (.int .u64 (rj : Int))
theorem RC.then {W W' : World} {b o : Nat} {nm : ByteArray} {s lo ak ev rj : Nat} {sv : Value} (h : RC W b o nm s lo ak ev rj sv) {n : Nat} (hb : Below n W W') (hl : b < n) : RC W' b o nm s lo ak ev rj sv :=
  ⟨(hb.cell (p := ⟨b, o, none⟩) hl).trans h.c0, (hb.cell (p := ⟨b, o + 1, none⟩) hl).trans h.c1, (hb.cell (p := ⟨b, o + 2, none⟩) hl).trans h.c2, (hb.cell (p := ⟨b, o + 3, none⟩) hl).trans h.c3, (hb.cell (p := ⟨b, o + 4, none⟩) hl).trans h.c4, (hb.cell (p := ⟨b, o + 5, none⟩) hl).trans h.c5, (hb.cell (p := ⟨b, o + 6, none⟩) hl).trans h.c6⟩
/-- What stands of a destination in seven letters. -/
structure RL (d : Rd) (nm : ByteArray) (s lo ak ev rj : Nat) : Prop where
  nm : nm = d.name
  s : s = d.since
  lo : lo = d.low
  ak : ak = d.all.count 97
  ev : ev = d.all.count 101
  rj : rj = d.all.count 114
theorem LBox.rc {W : World} {g : Nat} {R : Rl} {F N : Nat} {a : Option Addr} {m c : Nat} (h : LBox W g R.abs F N a m c) {k : Nat} (hk : k < m) :
    ∃ b off sv nm s lo ak ev rj, ∃ hk' : k < R.dests.length, a = some ⟨b, off, none⟩ ∧ b < W.heap.size ∧ RC W b (off + k * 7) nm s lo ak ev rj sv ∧ RL R.dests[k] nm s lo ak ev rj ∧ SlIn anyB W sv R.dests[k].above := by
  obtain ⟨_, _, hm, _⟩ := h.view
  have hk1 : k < R.abs.dests.length := by omega
  have hk2 : k < R.dests.length := by rw [Ldg.abs_many] at hk1; exact hk1
  have e : R.abs.dests[k] = R.dests[k].abs := List.getElem_map _
  obtain ⟨b, off, sv, ha, hl, hs, hc⟩ := (h.dest hk1).out
  rw [e] at hs hc
  refine ⟨b, off, sv, _, _, _, _, _, _, hk2, ha, hl, ⟨hc 0 _ rfl, hc 1 _ rfl, hc 2 _ rfl, hc 3 _ rfl, hc 4 _ rfl, hc 5 _ rfl, hc 6 _ rfl⟩, ⟨rfl, rfl, rfl, rfl, rfl, rfl⟩, hs⟩
theorem RL.le {d : Rd} {nm : ByteArray} {s lo ak ev rj : Nat} (h : RL d nm s lo ak ev rj) {R : Rl} (hR : R.Ok) (hd : d ∈ R.dests) : ak ≤ 10000000 ∧ ev ≤ 10000000 ∧ rj ≤ 10000000 ∧ s ≤ 10000000 ∧ lo ≤ 10000000 ∧ nm.size ≤ 20 := by
  have h1 := (hR.each d hd).ends
  have h2 := hR.nb
  have h3 := List.count_le_length (a := 97) (l := d.all)
  have h4 := List.count_le_length (a := 101) (l := d.all)
  have h5 := List.count_le_length (a := 114) (l := d.all)
  have h6 := (Ldg.low_ge d).2
  have h7 : nm.size ≤ 20 := by rw [h.nm]; exact (Lab.isName_true (hR.each d hd).name).2.1
  refine ⟨by rw [h.ak]; omega, by rw [h.ev]; omega, by rw [h.rj]; omega, by rw [h.s]; omega, by rw [h.lo]; omega, h7⟩
theorem nm_ne {a b : ByteArray} (h : a ≠ b) : (a.toList == b.toList) = false := Bool.eq_false_iff.2 (fun e => h (Lab.eqB_true e))
theorem nm_eq {a b : ByteArray} (h : a = b) : (a.toList == b.toList) = true := by rw [h]; exact beq_self_eq_true _
theorem LBox.m4 {W : World} {g : Nat} {R : Rl} {F N : Nat} {a : Option Addr} {m c : Nat} (h : LBox W g R.abs F N a m c) (hR : R.Ok) : m = R.dests.length ∧ m ≤ 4 := by
  obtain ⟨_, _, hm, _⟩ := h.view
  rw [Ldg.abs_many] at hm
  have := hR.many
  exact ⟨hm, by omega⟩
end Go.Proofs.Ytjbdofjheeljkaa
