/-
  The contracts of num.TakeInt and num.TakeText, case by case.
-/
import Derived.Test.YtocelglgafmfnaaTakeTW
namespace Go.Proofs.Ytocelglgafmfnaa
open Go.RowKit

theorem takeInt_none (s : ByteArray) (w : World) (hs : s.size ≤ maxLen) (h : Num.take s.data.toList = none) :
    Calls Try.prog 36 #[.string s] w fun e w' => e = .returned (.tuple #[.int .i64 0, .string ⟨#[]⟩, .int .i64 2]) ∧ Below w.heap.size w w' := by
  have := takeInt_any s w hs
  rwa [takeIntV, h] at this
theorem takeInt_some (s : ByteArray) (w : World) (hs : s.size ≤ maxLen) {n : Nat} {r : List UInt8} (h : Num.take s.data.toList = some (n, r)) :
    Calls Try.prog 36 #[.string s] w fun e w' => e = .returned (.tuple #[.int .i64 (Num.zag n), .string (Num.bs r), .int .i64 0]) ∧ Below w.heap.size w w' := by
  have := takeInt_any s w hs
  rwa [takeIntV, h] at this

theorem join_take {s : ByteArray} {n : Nat} {r : List UInt8} (h : Num.take s.data.toList = some (n, r)) : Num.bs (Num.put n) ++ Num.bs r = s := by
  rw [bs_append, Num.bs_toList, ← (Num.of_take h).1, Num.bs_of]

end Go.Proofs.Ytocelglgafmfnaa
