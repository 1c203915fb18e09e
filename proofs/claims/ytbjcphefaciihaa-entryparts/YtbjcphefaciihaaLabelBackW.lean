/-
  The walk of LabelBack.
-/
import Derived.Test.YtbjcphefaciihaaLabTurnM
import Derived.Test.YtbjcphefaciihaaLabShownW
import Derived.Test.YtbjcphefaciihaaLabTakeW
import Derived.Test.YtbjcphefaciihaaFewW
namespace Go.Proofs.Ytbjcphefaciihaa
open Go.RowKit
open Lab (Pr)

theorem ltake_back {c : List Pr} (hr : Lab.Right c) (hs : Lab.Rise c) (rest : ByteArray) (hl : rest.size ≤ 1000) (w : World) :
    Calls Try.prog 32 #[.string (Num.bs (Lab.putL c) ++ rest)] w fun e w' => ∃ v, e = .returned (.tuple #[v, .string rest, .int .i64 0]) ∧ OwnP w' w.heap.size v c ∧ Below w.heap.size w w' := by
  have h1 := Lab.putL_len hr
  have h2 : (Num.bs (Lab.putL c) ++ rest).size ≤ 100000 := by
    rw [bs_append, Num.bs_size]; simp; omega
  have h3 : Lab.takeL (Num.bs (Lab.putL c) ++ rest).data.toList = some (c, rest.data.toList) := by
    rw [bs_append, Num.bs_toList]; exact Lab.takeL_put hr hs _
  refine (ltake_any _ w h2).mono fun e w' ⟨h, hb⟩ => ?_
  rw [h3] at h
  rcases h with ⟨h, _⟩ | ⟨ps, r, v, h, he, ho⟩
  · cases h
  · simp only [Option.some.injEq, Prod.mk.injEq] at h
    obtain ⟨rfl, rfl⟩ := h
    exact ⟨v, by rw [he, Num.bs_of], ho, hb⟩
theorem same_yes (a : Option Addr) (ca n : Nat) (b : Option Addr) (cb m : Nat) (c : List Pr) (w : World) (hn : n = c.length) (hm : m = c.length) (hl : c.length ≤ 9223372036854775807) (hp : PairsAt w a c) (hq : PairsAt w b c) :
    Calls Try.prog 28 #[.slice a n ca, .slice b m cb] w fun e w' => e = .returned (.bool true) ∧ Below w.heap.size w w' := by
  subst hn; subst hm
  have := same_any a ca c b cb c w hp hq hl hl
  rwa [decide_eq_true rfl] at this
theorem lput_as (a : Option Addr) (cap n : Nat) (l c : List Pr) (w : World) (hn : n = l.length) (hp : PairsAt w a l) (hcap : l.length ≤ cap) (hr : Lab.Right l) (hc : Lab.canon l = c) :
    Calls Try.prog 30 #[.slice a n cap] w fun e w' => e = .returned (.tuple #[.string (Num.bs (Lab.putL c)), .int .i64 0]) ∧ Below w.heap.size w w' := by
  subst hn; subst hc; exact lput_good a cap l w hp hcap hr


end Go.Proofs.Ytbjcphefaciihaa
