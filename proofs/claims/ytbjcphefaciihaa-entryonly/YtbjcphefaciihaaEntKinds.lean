/-
  An entry that came in.
-/
import Derived.Test.YtbjcphefaciihaaLabKinds
import Derived.Test.YtbjcphefaciihaaSmpKinds
import Derived.Test.YtbjcphefaciihaaEntW
namespace Go.Proofs.Ytbjcphefaciihaa
open Go.RowKit Go.Deep
open Lab (Pr)
open Smp (Sm)

set_option maxRecDepth 100000 in
theorem open_entV {H : Type} {enc : TypeId × Value → H} {w : World} {base : Nat} {spare : Nat → Bool} {held : Bool} {r : Reach} {b0 : Nat} {v : Value} {d : DataW H} {p : List MemPlace} (hv : Value.okWide Try.prog w r b0 25 v) (h : DataW.Trod enc Try.prog w base spare held 25 v d p) :
    ∃ (a : Option Addr) (ca : Nat) (l : List Pr) (b : Option Addr) (cb : Nat) (s : List Sm), v = .agg #[.slice a l.length ca, .slice b s.length cb] ∧ EntIn w a ca l b cb s ∧ EntSm l s := by
  obtain ⟨v0, v1, y0, y1, n, rfl, _, _, t0, t1⟩ := Go.Joins.open_agg2 Try.underlying25 (by kernel_rfl) (by kernel_rfl) hv h
  obtain ⟨a, l, ca, e0, h1, h2, h3, h4⟩ := open_pairsAt t0
  obtain ⟨b, s, cb, e1, k1, k2, k3, k4⟩ := open_smpsAt t1
  simp at e0 e1
  subst e0 e1
  exact ⟨a, ca, l, b, cb, s, rfl, ⟨h1, h3, k1, k3⟩, ⟨⟨h2, h4⟩, k2, k4⟩⟩

end Go.Proofs.Ytbjcphefaciihaa
