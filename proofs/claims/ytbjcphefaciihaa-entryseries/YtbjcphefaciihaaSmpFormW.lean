/-
  What Put and Take tell, good or bad, in one form; 'Same' of the same.
-/
import Derived.Test.YtbjcphefaciihaaSmpTakeSW
import Derived.Test.YtbjcphefaciihaaSmpPutW
import Derived.Test.YtbjcphefaciihaaRefSmpPutW
namespace Go.Proofs.Ytbjcphefaciihaa
open Go.RowKit
open Smp (Sm)

def putRes (l : List Sm) : ByteArray := if Smp.check l = 0 then Num.bs (Smp.putS l) else ⟨#[]⟩
def takeRes (l : List UInt8) : List Sm × List UInt8 × Int := match Smp.takeS l with | none => ([], [], 2) | some (ps, r) => (ps, r, 0)
theorem putV_form (l : List Sm) : putV l = .tuple #[.string (putRes l), .int .i64 (Smp.check l)] := by
  unfold putV putRes
  split
  · rename_i h; rw [h]
  · rfl
theorem put_form (a : Option Addr) (cap : Nat) (ss : List Sm) (w : World) (hp : SmpsAt w a ss) (hc : ss.length ≤ cap) (hl : ss.length ≤ 9223372036854775807) (ho : ∀ x ∈ ss, Smp.Ok x) :
    Calls Try.prog 31 #[.slice a ss.length cap] w fun e w' => e = .returned (.tuple #[.string (putRes ss), .int .i64 (Smp.check ss)]) ∧ Below w.heap.size w w' := by
  rw [← putV_form]; exact put_call a cap ss w hp hc hl ho
theorem refPut_form (a : Option Addr) (cap : Nat) (ss : List Sm) (w : World) (hp : SmpsAt w a ss) (hl : ss.length ≤ 9223372036854775807) (ho : ∀ x ∈ ss, Smp.Ok x) :
    Calls Try.prog 34 #[.slice a ss.length cap] w fun e w' => e = .returned (.tuple #[.string (putRes ss), .int .i64 (Smp.check ss)]) ∧ Below w.heap.size w w' := by
  rw [← putV_form]; exact refPut_call a cap ss w hp hl ho
theorem took_form {s : List UInt8} {B : Nat} {w' : World} {e : Ending} (h : TookS s e w' B) :
    ∃ b cb, e = .returned (.tuple #[.slice b (takeRes s).1.length cb, .string (Num.bs (takeRes s).2.1), .int .i64 (takeRes s).2.2]) ∧ SmpsAt w' b (takeRes s).1 := by
  rcases h with ⟨hT, he⟩ | ⟨ps, r, v, hT, he, ho⟩
  · refine ⟨none, 0, ?_, ?_⟩
    · rw [he]; unfold takeRes; rw [hT]; rfl
    · unfold takeRes; rw [hT]; exact SmpsAt.nil _ _
  · obtain ⟨b, cb, rfl, _, hpp, _⟩ := ho.view
    refine ⟨b, cb, ?_, ?_⟩
    · rw [he]; unfold takeRes; rw [hT]
    · unfold takeRes; rw [hT]; exact hpp
theorem takeRes_len (s : List UInt8) : (takeRes s).1.length ≤ 9223372036854775807 := by
  unfold takeRes
  split
  · simp
  · rename_i ps r hT
    have := (Smp.of_check (Smp.of_takeS hT).2.1).2.1
    simp only; omega
theorem ssame_yes (a : Option Addr) (ca : Nat) (b : Option Addr) (cb : Nat) (l : List Sm) (w : World) (hl : l.length ≤ 9223372036854775807) (hp : SmpsAt w a l) (hq : SmpsAt w b l) :
    Calls Try.prog 29 #[.slice a l.length ca, .slice b l.length cb] w fun e w' => e = .returned (.bool true) ∧ Below w.heap.size w w' := by
  have := ssame_any a ca l b cb l w hp hq hl hl
  rwa [decide_eq_true rfl] at this

end Go.Proofs.Ytbjcphefaciihaa
