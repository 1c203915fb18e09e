/-
  The walk of CrcJoins.
-/
import Derived.Test.YtogiicldndmcaaaDoorCrcW
namespace Go.Proofs.YtogiicldndmcaaaDoor
open Go.RowKit

theorem app_list (s t : ByteArray) : (s ++ t).data.toList = s.data.toList ++ t.data.toList := by simp
theorem sum_app (s t : ByteArray) : Crc.sum (s ++ t).data.toList = Crc.add (Crc.sum s.data.toList) t.data.toList := by rw [app_list, Crc.sum_append]
theorem add_app (n : Nat) (s t : ByteArray) : Crc.add n (s ++ t).data.toList = Crc.add (Crc.add n s.data.toList) t.data.toList := by rw [app_list, Crc.add_append]
theorem app_le {s t : ByteArray} {n : Nat} (h : s.size + t.size ≤ n) (hn : n ≤ 1099511627776) : (s ++ t).size ≤ maxLen := by rw [ByteArray.size_append]; unfold maxLen; omega

set_option maxRecDepth 100000 in
set_option maxHeartbeats 400000 in
theorem walkCrcJoins (s t : ByteArray) (x : Int) (w : World) (hs : s.size ≤ 140737488351232) (ht : t.size ≤ 140737488351232) (hx : 0 ≤ x ∧ x ≤ 4294967295) (hT : Tab w) :
    Calls Tryd.prog 4 #[.string s, .string t, .int .u32 x] w fun e w' => e = .returned (.bool true) ∧ Below w.heap.size w w' := by
  obtain ⟨n, rfl⟩ := Int.eq_ofNat_of_zero_le hx.1
  have hn : n < 4294967296 := by omega
  clear hx
  have HT := hide hT
  clear hT
  have HS : Hid (s.size ≤ maxLen) := by show s.size ≤ maxLen; unfold maxLen; omega
  have HU : Hid (t.size ≤ maxLen) := by show t.size ≤ maxLen; unfold maxLen; omega
  by_cases hl : s.size + t.size ≤ 3000
  · have hg : ¬ (3000 : Int) < (s.size : Int) + (t.size : Int) := by omega
    have HA := hide (app_le hl (by omega))
    have H1 := hide (sum_app s t)
    have H2 := hide (add_app n s t)
    go_enter Tryd.func4, Tryd.ntmps4
    go_wp2_with fail
    refine (shown_any _ HT.out).mono ?_
    rintro e w1 ⟨rfl, rfl⟩
    go_wp2_with fail
    refine (sum_any _ _ HA.out HT.out).mono ?_
    rintro e w1 ⟨rfl, rfl⟩
    rw [H1.out]
    go_wp2_with fail
    refine (sum_any _ _ HS.out HT.out).mono ?_
    rintro e w1 ⟨rfl, rfl⟩
    go_wp2_with fail
    refine (add_at _ _ _ _ rfl (Crc.sum_lt _) HU.out HT.out).mono ?_
    rintro e w1 ⟨rfl, rfl⟩
    go_wp2_with fail
    refine (add_at _ n _ _ rfl hn HA.out HT.out).mono ?_
    rintro e w1 ⟨rfl, rfl⟩
    rw [H2.out]
    go_wp2_with fail
    refine (add_at _ n _ _ rfl hn HS.out HT.out).mono ?_
    rintro e w1 ⟨rfl, rfl⟩
    go_wp2_with fail
    refine (add_at _ _ _ _ rfl (Crc.add_lt _ hn) HU.out HT.out).mono ?_
    rintro e w1 ⟨rfl, rfl⟩
    go_wp2_with fail
    refine (add_at _ n _ _ rfl hn (by decide) HT.out).mono ?_
    rintro e w1 ⟨rfl, rfl⟩
    rw [show Crc.add n _ = n from Crc.add_nil n]
    go_wp2
    go_ret
    exact ⟨ret_true (by simp), Below.refl _ _⟩
  · have hg : (3000 : Int) < (s.size : Int) + (t.size : Int) := by omega
    go_enter Tryd.func4, Tryd.ntmps4
    go_wp2_with fail
    refine (shown_any _ HT.out).mono ?_
    rintro e w1 ⟨rfl, rfl⟩
    go_wp2
    go_ret
    exact ⟨rfl, Below.refl _ _⟩
end Go.Proofs.YtogiicldndmcaaaDoor
