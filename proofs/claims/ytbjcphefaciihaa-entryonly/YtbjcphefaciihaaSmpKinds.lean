/-
  A slice of samples that came in.
-/
import Derived.Test.YtbjcphefaciihaaSmpW
import Derived.Deep.SlicePairs
import Derived.OpenShut
import Derived.Lib.SmallJoins
namespace Go.Proofs.Ytbjcphefaciihaa
open Go.RowKit Go.Deep
open Smp (Sm)

theorem smpsAt_of {w : World} {x : Addr} {len : Nat} {S0 S1 : Nat → Int} (h : ∀ i, i < len → w.cell? (x.add (i * 2)) = some (.int .u64 (S0 i)) ∧ w.cell? (x.add (i * 2 + 1)) = some (.int .i64 (S1 i))) :
    SmpsAt w (some x) ((List.range len).map fun i => (S0 i, S1 i)) := by
  intro i hi
  have hi' : i < len := by simpa using hi
  obtain ⟨b, off, spot⟩ := x
  have h0 := (h 0 (by omega)).1
  have hs : spot = none := by simpa [Addr.add] using World.cell?_spot h0
  subst hs
  refine ⟨b, off, rfl, ?_, fun j hj => ?_⟩
  · have := World.block_lt_of_cell? w _ h0
    simpa [Addr.add] using this
  · have hj' : j < len := by simpa using hj
    have := h j hj'
    rw [Addr.add_lit, Addr.add_lit] at this
    simpa [Nat.add_assoc] using this

theorem open_smpsAt {H : Type} {enc : TypeId × Value → H} {w : World} {base : Nat} {spare : Nat → Bool} {held : Bool} {fuel : Nat} {cs : List Value} {x : DataW H × List MemPlace} (h : DataW.trod enc Try.prog w base spare held fuel 23 cs = some x) :
    ∃ a ss cap, cs = [.slice a ss.length cap] ∧ SmpsAt w a ss ∧ ss.length ≤ maxLen ∧ ss.length ≤ cap ∧ ∀ p ∈ ss, Smp.Ok p := by
  rcases open_slice_pairs Try.underlying23 Try.underlying67 (by kernel_rfl) rfl rfl (by kernel_rfl) (by kernel_rfl) h with ⟨rfl, _⟩ | ⟨a, len, cap, m, n, V0, V1, D0, D1, P0, P1, rfl, _, hl, hm, hmm, _, hc⟩
  · exact ⟨none, [], 0, rfl, SmpsAt.nil _ _, Nat.zero_le _, Nat.zero_le _, fun p hp => by simp at hp⟩
  · have hlm : len ≤ m := by rw [hmm]; split <;> omega
    have each : ∀ i, i < len → ∃ q : Int × Int, V0 i = .int .u64 q.1 ∧ V1 i = .int .i64 q.2 ∧ Smp.Ok q := by
      intro i hi
      obtain ⟨_, _, t0, t1⟩ := hc i (by omega)
      obtain ⟨s0, e0, _, z0⟩ := DataW.trod_int Try.underlying38 t0
      obtain ⟨s1, e1, _, z1⟩ := DataW.trod_int Try.underlying2 t1
      have b0 := bounds_u64 z0
      have b1 := bounds_i64 z1
      exact ⟨(s0, s1), by simpa using e0, by simpa using e1, ⟨b0.1, by show s0 < _; omega, b1.1, b1.2⟩⟩
    obtain ⟨q, hq⟩ := choose_lt each
    refine ⟨some a, (List.range len).map fun i => ((q i).1, (q i).2), cap, by simp, smpsAt_of fun i hi => ?_, by simp; omega, by simpa using hl, fun p hp => ?_⟩
    · obtain ⟨c0, c1, _, _⟩ := hc i (by omega)
      rw [c0, c1, (hq i hi).1, (hq i hi).2.1]; exact ⟨rfl, rfl⟩
    · obtain ⟨i, hi, rfl⟩ := List.mem_map.1 hp
      exact (hq i (List.mem_range.1 hi)).2.2

end Go.Proofs.Ytbjcphefaciihaa
