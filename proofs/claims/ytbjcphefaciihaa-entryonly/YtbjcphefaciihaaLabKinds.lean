/-
  Slices of pairs, of matchers, and a matcher, that came in.
-/
import Derived.Test.YtbjcphefaciihaaMatchW
import Derived.Deep.SlicePairs
import Derived.OpenShut
import Derived.Lib.SmallJoins
namespace Go.Proofs.Ytbjcphefaciihaa
open Go.RowKit Go.Deep
open Lab (Pr)

theorem pairsAt_of {w : World} {x : Addr} {len : Nat} {S0 S1 : Nat → ByteArray} (h : ∀ i, i < len → w.cell? (x.add (i * 2)) = some (.string (S0 i)) ∧ w.cell? (x.add (i * 2 + 1)) = some (.string (S1 i))) :
    PairsAt w (some x) ((List.range len).map fun i => (S0 i, S1 i)) := by
  intro i hi
  have hi' : i < len := by simpa using hi
  obtain ⟨b, off, spot⟩ := x
  have h0 := (h 0 (by omega)).1
  have hs : spot = none := by simpa [Addr.add] using World.cell?_spot h0
  subst hs
  refine ⟨b, off, rfl, ?_, fun j hj => ?_⟩
  · have := World.block_lt_of_cell? w _ h0
    simpa [Addr.add] using this
  · have hj' : j < len := by simpa using hj
    have := h j hj'
    rw [Addr.add_lit, Addr.add_lit] at this
    simpa [Nat.add_assoc] using this

theorem open_pairsAt {H : Type} {enc : TypeId × Value → H} {w : World} {base : Nat} {spare : Nat → Bool} {held : Bool} {fuel : Nat} {cs : List Value} {x : DataW H × List MemPlace} (h : DataW.trod enc Try.prog w base spare held fuel 22 cs = some x) :
    ∃ a ps cap, cs = [.slice a ps.length cap] ∧ PairsAt w a ps ∧ ps.length ≤ maxLen ∧ ps.length ≤ cap ∧ ∀ p ∈ ps, p.1.size ≤ maxLen ∧ p.2.size ≤ maxLen := by
  rcases open_slice_pairs Try.underlying22 Try.underlying53 (by kernel_rfl) rfl rfl (by kernel_rfl) (by kernel_rfl) h with ⟨rfl, _⟩ | ⟨a, len, cap, m, n, V0, V1, D0, D1, P0, P1, rfl, _, hl, hm, hmm, _, hc⟩
  · exact ⟨none, [], 0, rfl, PairsAt.nil _ _, Nat.zero_le _, Nat.zero_le _, fun p hp => by simp at hp⟩
  · have hlm : len ≤ m := by rw [hmm]; split <;> omega
    have each : ∀ i, i < len → ∃ q : ByteArray × ByteArray, V0 i = .string q.1 ∧ V1 i = .string q.2 ∧ q.1.size ≤ maxLen ∧ q.2.size ≤ maxLen := by
      intro i hi
      obtain ⟨_, _, t0, t1⟩ := hc i (by omega)
      obtain ⟨s0, e0, _, z0⟩ := DataW.trod_string Try.underlying9 t0
      obtain ⟨s1, e1, _, z1⟩ := DataW.trod_string Try.underlying9 t1
      exact ⟨(s0, s1), by simpa using e0, by simpa using e1, z0, z1⟩
    obtain ⟨q, hq⟩ := choose_lt each
    refine ⟨some a, (List.range len).map fun i => ((q i).1, (q i).2), cap, by simp, pairsAt_of fun i hi => ?_, by simp; omega, by simpa using hl, fun p hp => ?_⟩
    · obtain ⟨c0, c1, _, _⟩ := hc i (by omega)
      rw [c0, c1, (hq i hi).1, (hq i hi).2.1]; exact ⟨rfl, rfl⟩
    · obtain ⟨i, hi, rfl⟩ := List.mem_map.1 hp
      exact (hq i (List.mem_range.1 hi)).2.2

set_option maxRecDepth 100000 in
theorem matsAt_of {w : World} {x : Addr} {len : Nat} {S0 S1 : Nat → ByteArray} {B : Nat → Bool} (h : ∀ i, i < len → w.cell? (x.add (i * 3)) = some (.string (S0 i)) ∧ w.cell? (x.add (i * 3 + 1)) = some (.string (S1 i)) ∧ w.cell? (x.add (i * 3 + 2)) = some (.bool (B i))) :
    MatsAt w (some x) ((List.range len).map fun i => (S0 i, S1 i, B i)) := by
  intro i hi
  have hi' : i < len := by simpa using hi
  obtain ⟨b, off, spot⟩ := x
  have h0 := (h 0 (by omega)).1
  have hs : spot = none := by simpa [Addr.add] using World.cell?_spot h0
  subst hs
  refine ⟨b, off, rfl, ?_, fun j hj => ?_⟩
  · have := World.block_lt_of_cell? w _ h0
    simpa [Addr.add] using this
  · have hj' : j < len := by simpa using hj
    have := h j hj'
    rw [Addr.add_lit, Addr.add_lit, Addr.add_lit] at this
    simpa [Nat.add_assoc] using this

set_option maxRecDepth 100000 in
theorem open_matsAt {H : Type} {enc : TypeId × Value → H} {w : World} {base : Nat} {spare : Nat → Bool} {held : Bool} {fuel : Nat} {cs : List Value} {x : DataW H × List MemPlace} (h : DataW.trod enc Try.prog w base spare held fuel 37 cs = some x) :
    ∃ a ms cap, cs = [.slice a ms.length cap] ∧ MatsAt w a ms ∧ ms.length ≤ maxLen ∧ (ms.length ≤ cap ∧ (a = none → cap = 0)) ∧ ∀ p ∈ ms, p.1.size ≤ maxLen ∧ p.2.1.size ≤ maxLen := by
  rcases open_slice Try.underlying37 h with ⟨rfl, _⟩ | ⟨a, len, cap, m, n, D, Pl, rfl, _, hl, hm, hmm, _, hc⟩
  · exact ⟨none, [], 0, rfl, MatsAt.nil _ _, Nat.zero_le _, ⟨Nat.zero_le _, fun _ => rfl⟩, fun p hp => by simp at hp⟩
  · have hlm : len ≤ m := by rw [hmm]; split <;> omega
    have ce : Try.prog.cellsOf 43 = 3 := by kernel_rfl
    have each : ∀ i, i < len → ∃ q : Mt, (w.cell? (a.add (i * 3)) = some (.string q.1) ∧ w.cell? (a.add (i * 3 + 1)) = some (.string q.2.1) ∧ w.cell? (a.add (i * 3 + 2)) = some (.bool q.2.2)) ∧ q.1.size ≤ maxLen ∧ q.2.1.size ≤ maxLen := by
      intro i hi
      obtain ⟨cs', h1, h2⟩ := hc i (by omega)
      rw [ce] at h1
      obtain ⟨_, hlen, hcell⟩ := World.cells?_some h1
      obtain ⟨xs, k, hk, hxy, _, hxl, hf⟩ := DataW.trod_struct Try.underlying43 h2
      match xs, hxl, cs', hlen with
      | [y0, y1, y2], _, [v0, v1, v2], _ =>
        have g0 := hf 0 _ rfl
        have g1 := hf 1 _ rfl
        have g2 := hf 2 _ rfl
        have k1 : Try.prog.cellsOf 9 = 1 := by kernel_rfl
        have k2 : Try.prog.cellsOf 4 = 1 := by kernel_rfl
        simp [k1, k2] at g0 g1 g2
        obtain ⟨s0, e0, _, z0⟩ := DataW.trod_string Try.underlying9 g0
        obtain ⟨s1, e1, _, z1⟩ := DataW.trod_string Try.underlying9 g1
        obtain ⟨b2, e2, _⟩ := DataW.trod_bool Try.underlying4 g2
        have c0 := hcell 0 (by omega)
        have c1 := hcell 1 (by omega)
        have c2 := hcell 2 (by omega)
        rw [add_add] at c0 c1 c2
        simp at e0 e1 e2 c0 c1 c2
        subst e0 e1 e2
        exact ⟨(s0, s1, b2), ⟨c0, c1, c2⟩, z0, z1⟩
    obtain ⟨q, hq⟩ := choose_lt each
    refine ⟨some a, (List.range len).map fun i => ((q i).1, (q i).2.1, (q i).2.2), cap, by simp, matsAt_of fun i hi => (hq i hi).1, by simp; omega, ⟨by simpa using hl, fun e => by cases e⟩, fun p hp => ?_⟩
    obtain ⟨i, hi, rfl⟩ := List.mem_map.1 hp
    exact (hq i (List.mem_range.1 hi)).2

set_option maxRecDepth 100000 in
theorem open_matV {H : Type} {enc : TypeId × Value → H} {w : World} {base : Nat} {spare : Nat → Bool} {held : Bool} {r : Reach} {b0 : Nat} {v : Value} {d : DataW H} {p : List MemPlace} (hv : Value.okWide Try.prog w r b0 43 v) (h : DataW.Trod enc Try.prog w base spare held 43 v d p) :
    ∃ (n x : ByteArray) (b : Bool), v = .agg #[.string n, .string x, .bool b] ∧ n.size ≤ 9223372036854775807 ∧ x.size ≤ 9223372036854775807 := by
  obtain ⟨v0, v1, v2, y0, y1, y2, n, rfl, _, _, t0, t1, t2⟩ := Go.Joins.open_agg3 Try.underlying43 (by kernel_rfl) (by kernel_rfl) hv h
  obtain ⟨s0, e0, _, z0⟩ := DataW.trod_string Try.underlying9 t0
  obtain ⟨s1, e1, _, z1⟩ := DataW.trod_string Try.underlying9 t1
  obtain ⟨b2, e2, _⟩ := DataW.trod_bool Try.underlying4 t2
  simp at e0 e1 e2
  subst e0 e1 e2
  exact ⟨s0, s1, b2, rfl, z0, z1⟩

end Go.Proofs.Ytbjcphefaciihaa
