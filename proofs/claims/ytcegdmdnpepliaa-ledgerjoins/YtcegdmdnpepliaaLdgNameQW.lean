/-
  Which of the statements' names is none.
-/
import Derived.Test.YtcegdmdnpepliaaLdgRowCW
namespace Go.Proofs.Ytcegdmdnpepliaa
open Go.RowKit
open Ldg (De Le Rd Rl)

theorem one_list : (⟨#[49]⟩ : ByteArray).toList = [49] := by rw [ByteArray.toList_eq]
/-- Another box is written. -/
theorem LBox.keep {W W' : World} {g X : Nat} {L L2 : Le} {F N F2 N2 : Nat} {a a2 : Option Addr} {m c m2 c2 : Nat} (h : LBox W g L F N a m c) (hk : Kept (fun b => b ≠ X) W W') (hne : g ≠ X) (h2 : LBox W X L2 F2 N2 a2 m2 c2) (hz : ∀ d ∈ L.dests, ∀ x ∈ d.above, x ≠ F2 ∧ x ≠ N2) : LBox W' g L F N a m c :=
  ⟨(hk.block g hne).trans h.cell, h.led.over hz h2.cell hk⟩
theorem nameAt_not (k : Nat) : Lab.isName (nameAt k) = false → nameAt k = ⟨#[49]⟩ := by
  have t (n : ByteArray) (h : Lab.isName n = true) : Lab.isName n = false → n = ⟨#[49]⟩ := fun h2 => by rw [h] at h2; cases h2
  match k with
  | 0 => exact t _ (by kernel_rfl)
  | 1 => exact t _ (by kernel_rfl)
  | 2 => exact t _ (by kernel_rfl)
  | 3 => exact t _ (by kernel_rfl)
  | 4 => exact t _ (by kernel_rfl)
  | k + 5 => intro _; rfl
end Go.Proofs.Ytcegdmdnpepliaa
