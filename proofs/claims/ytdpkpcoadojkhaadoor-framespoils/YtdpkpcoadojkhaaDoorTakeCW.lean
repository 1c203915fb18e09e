/-
  The contracts of num.TakeInt and num.TakeText, case by case.
-/
import Derived.Test.YtdpkpcoadojkhaaDoorTakeTW
namespace Go.Proofs.YtdpkpcoadojkhaaDoor
open Go.RowKit


theorem join_take {s : ByteArray} {n : Nat} {r : List UInt8} (h : Num.take s.data.toList = some (n, r)) : Num.bs (Num.put n) ++ Num.bs r = s := by
  rw [bs_append, Num.bs_toList, ← (Num.of_take h).1, Num.bs_of]

end Go.Proofs.YtdpkpcoadojkhaaDoor
