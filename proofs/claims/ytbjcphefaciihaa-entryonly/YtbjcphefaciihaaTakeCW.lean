/-
  The contracts of num.TakeInt and num.TakeText, case by case.
-/
import Derived.Test.YtbjcphefaciihaaTakeTW
namespace Go.Proofs.Ytbjcphefaciihaa
open Go.RowKit

theorem takeInt_none (s : ByteArray) (w : World) (hs : s.size ≤ maxLen) (h : Num.take s.data.toList = none) :
    Calls Try.prog 75 #[.string s] w fun e w' => e = .returned (.tuple #[.int .i64 0, .string ⟨#[]⟩, .int .i64 2]) ∧ Below w.heap.size w w' := by
  have := takeInt_any s w hs
  rwa [takeIntV, h] at this
theorem takeInt_some (s : ByteArray) (w : World) (hs : s.size ≤ maxLen) {n : Nat} {r : List UInt8} (h : Num.take s.data.toList = some (n, r)) :
    Calls Try.prog 75 #[.string s] w fun e w' => e = .returned (.tuple #[.int .i64 (Num.zag n), .string (Num.bs r), .int .i64 0]) ∧ Below w.heap.size w w' := by
  have := takeInt_any s w hs
  rwa [takeIntV, h] at this
theorem takeText_long (s : ByteArray) (most : Int) (w : World) (hs : s.size ≤ maxLen) (h0 : -9223372036854775808 ≤ most) (h1 : most ≤ 9223372036854775807) {n : Nat} {r : List UInt8} (h : Num.take s.data.toList = some (n, r)) (c : mostOf most < (n : Int)) :
    Calls Try.prog 74 #[.string s, .int .i64 most] w fun e w' => e = .returned (.tuple #[.string ⟨#[]⟩, .string ⟨#[]⟩, .int .i64 7]) ∧ Below w.heap.size w w' := by
  have := takeText_any s most w hs h0 h1
  rwa [← takeTextV_long h c] at this
theorem takeText_short (s : ByteArray) (most : Int) (w : World) (hs : s.size ≤ maxLen) (h0 : -9223372036854775808 ≤ most) (h1 : most ≤ 9223372036854775807) {n : Nat} {r : List UInt8} (h : Num.take s.data.toList = some (n, r)) (c : ¬ mostOf most < (n : Int)) (d : r.length < n) :
    Calls Try.prog 74 #[.string s, .int .i64 most] w fun e w' => e = .returned (.tuple #[.string ⟨#[]⟩, .string ⟨#[]⟩, .int .i64 2]) ∧ Below w.heap.size w w' := by
  have := takeText_any s most w hs h0 h1
  rwa [← takeTextV_short h c d] at this
theorem takeText_some (s : ByteArray) (most : Int) (w : World) (hs : s.size ≤ maxLen) (h0 : -9223372036854775808 ≤ most) (h1 : most ≤ 9223372036854775807) {n : Nat} {r : List UInt8} (h : Num.take s.data.toList = some (n, r)) (c : ¬ mostOf most < (n : Int)) (d : ¬ r.length < n) :
    Calls Try.prog 74 #[.string s, .int .i64 most] w fun e w' => e = .returned (.tuple #[.string (Num.bs (r.take n)), .string (Num.bs (r.drop n)), .int .i64 0]) ∧ Below w.heap.size w w' := by
  have := takeText_any s most w hs h0 h1
  rwa [← takeTextV_some h c d rfl rfl] at this

theorem join_take {s : ByteArray} {n : Nat} {r : List UInt8} (h : Num.take s.data.toList = some (n, r)) : Num.bs (Num.put n) ++ Num.bs r = s := by
  rw [bs_append, Num.bs_toList, ← (Num.of_take h).1, Num.bs_of]

end Go.Proofs.Ytbjcphefaciihaa
