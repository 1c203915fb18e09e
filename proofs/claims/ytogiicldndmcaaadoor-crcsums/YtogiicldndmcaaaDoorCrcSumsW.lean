/-
  The walk of CrcSums.
-/
import Derived.Test.YtogiicldndmcaaaDoorRefCrcW
namespace Go.Proofs.YtogiicldndmcaaaDoor
open Go.RowKit

set_option maxRecDepth 100000 in
set_option maxHeartbeats 400000 in
theorem walkCrcSums (s : ByteArray) (sum : Int) (w : World) (hs : s.size ≤ maxLen) (hb : 0 ≤ sum ∧ sum ≤ 4294967295) (ht : Tab w) :
    Calls Tryd.prog 3 #[.string s, .int .u32 sum] w fun e w' => e = .returned (.bool true) ∧ Below w.heap.size w w' := by
  obtain ⟨n, rfl⟩ := Int.eq_ofNat_of_zero_le hb.1
  have hn : n < 4294967296 := by omega
  clear hb
  have HT := hide ht
  clear ht
  have HS := hide hs
  unfold maxLen at hs
  by_cases hl : s.size ≤ 3000
  · have hg : ¬ (3000 : Int) < (s.size : Int) := by omega
    go_enter Tryd.func3, Tryd.ntmps3
    go_wp2_with fail
    refine (shown_any _ HT.out).mono ?_
    rintro e w1 ⟨rfl, rfl⟩
    go_wp2_with fail
    refine (sum_any _ _ HS.out HT.out).mono ?_
    rintro e w1 ⟨rfl, rfl⟩
    go_wp2_with fail
    refine (refSum_any _ _ HS.out).mono ?_
    rintro e w1 ⟨rfl, rfl⟩
    go_wp2_with fail
    refine (add_at _ n _ _ rfl hn HS.out HT.out).mono ?_
    rintro e w1 ⟨rfl, rfl⟩
    go_wp2_with fail
    refine (refAdd_at _ n _ _ rfl hn HS.out).mono ?_
    rintro e w1 ⟨rfl, rfl⟩
    go_wp2
    go_ret
    exact ⟨ret_true (by simp), Below.refl _ _⟩
  · have hg : (3000 : Int) < (s.size : Int) := by omega
    go_enter Tryd.func3, Tryd.ntmps3
    go_wp2_with fail
    refine (shown_any _ HT.out).mono ?_
    rintro e w1 ⟨rfl, rfl⟩
    go_wp2
    go_ret
    exact ⟨rfl, Below.refl _ _⟩
end Go.Proofs.YtogiicldndmcaaaDoor
