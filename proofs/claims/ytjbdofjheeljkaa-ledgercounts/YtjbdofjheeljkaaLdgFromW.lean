/-
  'p[n:]' of numbers, by a uint64.
-/
import Derived.Test.YtjbdofjheeljkaaLdgFinW
namespace Go.Proofs.Ytjbdofjheeljkaa
open Go.RowKit

theorem from_nums {X : Nat → Prop} {w : World} {a : Option Addr} {c m n : Nat} {l : List Nat} (h : U64In X w a l) (hm : m = l.length) (hc : m ≤ c) (hn : n ≤ m) :
    ∃ r, (∀ W, (Instr.slice 39 (.slice a m c) (some (.int .u64 (n : Int))) none none).run Try.prog W = .ok (.slice r (m - n) (c - n)) W) ∧ U64In X w r (l.drop n) := by
  cases a with
  | none =>
    refine ⟨none, fun W => ?_, fun i hi => ?_⟩
    · rw [run_slice_l (P := Try.prog) W 39 none m c u64sE .u64 (n : Int) (by omega) (by omega), elem_u64s, size_u64]
      simp [Result.andThen, sliced]
    · obtain ⟨b, off, ha, _⟩ := h 0 (by simp at hi; omega)
      cases ha
  | some x =>
    refine ⟨if c = n then some x else some (x.add n), fun W => ?_, fun i hi => ?_⟩
    · rw [run_slice_l (P := Try.prog) W 39 (some x) m c u64sE .u64 (n : Int) (by omega) (by omega), elem_u64s, size_u64]
      by_cases h0 : c = n
      · simp [Result.andThen, sliced, h0]
      · simp [Result.andThen, sliced, h0]
    · have hi' : i < l.length - n := by simpa using hi
      obtain ⟨b, off, ha, hb, hx, hcc⟩ := h n (by omega)
      obtain rfl := Option.some.inj ha
      refine ⟨b, off + n, by rw [if_neg (by omega)]; simp [Addr.add], hb, hx, fun j hj => ?_⟩
      have hj' : j < l.length - n := by simpa using hj
      have := hcc (n + j) (by omega)
      rw [Nat.add_assoc, this, List.getElem_drop]
end Go.Proofs.Ytjbdofjheeljkaa
