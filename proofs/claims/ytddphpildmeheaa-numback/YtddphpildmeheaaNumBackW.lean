/-
  The walk of NumBack.
-/
import Derived.Test.YtddphpildmeheaaShownW
import Derived.Test.YtddphpildmeheaaTakeCW
namespace Go.Proofs.Ytddphpildmeheaa
open Go.RowKit

theorem take_join (n : Nat) (t : ByteArray) (h : n < 18446744073709551616) : Num.take (Num.bs (Num.put n) ++ t).data.toList = some (n, t.data.toList) := by
  rw [bs_append, Num.bs_toList, Num.take_put n _ h]
theorem take_join2 (n : Nat) (l : List UInt8) (t : ByteArray) (h : n < 18446744073709551616) : Num.take (Num.bs (Num.put n ++ l) ++ t).data.toList = some (n, l ++ t.data.toList) := by
  rw [bs_append, Num.bs_toList, List.append_assoc, Num.take_put n _ h]
theorem size_join (l : List UInt8) (t : ByteArray) : (Num.bs l ++ t).size = l.length + t.size := by
  rw [bs_append, Num.bs_size]; simp

set_option maxRecDepth 100000 in
set_option maxHeartbeats 1600000 in
theorem walkNumBack (a m : Int) (t s : ByteArray) (w : World) (ha : 0 ≤ a ∧ a ≤ 18446744073709551615) (hm : -9223372036854775808 ≤ m ∧ m ≤ 9223372036854775807) (ht : t.size ≤ 140737488351232) (hs : s.size ≤ 140737488351232) :
    Calls Try.prog 5 #[.int .u64 a, .int .i64 m, .string t, .string s] w fun e w' => e = .returned (.bool true) ∧ Below w.heap.size w w' := by
  obtain ⟨ha0, ha1⟩ := ha
  obtain ⟨hm0, hm1⟩ := hm
  obtain ⟨n, rfl⟩ := Int.eq_ofNat_of_zero_le ha0
  by_cases hl : 3000 < t.size + s.size
  · go_enter Try.func5, Try.ntmps5
    go_wp2_with fail
    refine (shown_any _).mono ?_
    rintro e w1 ⟨rfl, hb1⟩
    go_wp2
    go_ret
    exact ⟨rfl, hb1⟩
  · have hn : n < 18446744073709551616 := by omega
    have hz := Num.zig_lt hm0 hm1
    have HT := take_join n s hn
    have HI := take_join (Num.zig m) s hz
    have hx : t.size < 18446744073709551616 := by omega
    have HX := take_join2 t.size t.data.toList s hx
    have hzz := Num.zag_zig m
    have l1 : (Num.bs (Num.put n)).size ≤ 10 := by rw [Num.bs_size]; exact Num.put_len10 hn
    have l2 : (Num.bs (Num.put (Num.zig m))).size ≤ 10 := by rw [Num.bs_size]; exact Num.put_len10 hz
    have l3 : (Num.bs (Num.put t.size ++ t.data.toList)).size ≤ 4000 := by
      have := Num.put_len10 hx
      rw [Num.bs_size]; simp; omega
    have k1 : (Num.bs (Num.put n) ++ s).size ≤ maxLen := by
      have := Num.put_len10 hn
      rw [size_join]; unfold maxLen; omega
    have k2 : (Num.bs (Num.put (Num.zig m)) ++ s).size ≤ maxLen := by
      have := Num.put_len10 hz
      rw [size_join]; unfold maxLen; omega
    have k3 : (Num.bs (Num.put t.size ++ t.data.toList) ++ s).size ≤ maxLen := by
      have := Num.put_len10 hx
      rw [size_join]; unfold maxLen; simp; omega
    have A1 := hide HT
    have A2 := hide HI
    have A3 := hide HX
    have A4 := hide hzz
    have K1 := hide k1
    have K2 := hide k2
    have K3 := hide k3
    have q1 : (t.data.toList ++ s.data.toList).take t.size = t.data.toList := by simp
    have q2 : (t.data.toList ++ s.data.toList).drop t.size = s.data.toList := by simp
    have Q1 := hide q1
    have Q2 := hide q2
    clear HT HI HX hzz k1 k2 k3 q1 q2
    go_enter Try.func5, Try.ntmps5
    go_wp2_with fail
    refine (shown_any _).mono ?_
    rintro e w1 ⟨rfl, hb1⟩
    go_wp2_with fail
    refine (put_any _ _ hn).mono ?_
    rintro e w2 ⟨rfl, hb2⟩
    go_wp2_with fail
    refine (take_some _ _ (unhide K1) (unhide A1)).mono ?_
    rw [Num.bs_of]
    rintro e w3 ⟨rfl, hb3⟩
    go_wp2_with fail
    refine (putInt_any _ _ hm0 hm1).mono ?_
    rintro e w4 ⟨rfl, hb4⟩
    go_wp2_with fail
    refine (takeInt_some _ _ (unhide K2) (unhide A2)).mono ?_
    rw [Num.bs_of, unhide A4]
    rintro e w5 ⟨rfl, hb5⟩
    go_wp2_with fail
    refine (putText_any _ _ (by omega)).mono ?_
    rintro e w6 ⟨rfl, hb6⟩
    go_wp2_with fail
    refine (takeText_some _ _ _ (unhide K3) (by omega) (by omega) (unhide A3) (by unfold mostOf; split <;> omega) (by simp)).mono ?_
    rw [unhide Q1, unhide Q2, Num.bs_of, Num.bs_of]
    rintro e w7 ⟨rfl, hb7⟩
    go_wp2_with fail
    refine (putText_any _ _ (by omega)).mono ?_
    rintro e w8 ⟨rfl, hb8⟩
    have hbb := bl (bl (bl (bl (bl (bl (bl hb1 hb2) hb3) hb4) hb5) hb6) hb7) hb8
    clear hb1 hb2 hb3 hb4 hb5 hb6 hb7 hb8
    go_wp2_with fail
    by_cases h0 : t.size = 0
    · refine (takeText_some _ _ _ (unhide K3) (by omega) (by omega) (unhide A3) (by unfold mostOf; split <;> omega) (by simp)).mono ?_
      rw [unhide Q1, unhide Q2, Num.bs_of, Num.bs_of]
      rintro e w9 ⟨rfl, hb9⟩
      have hp : ¬ (0 : Int) < (t.size : Int) := by omega
      clear h0
      go_wp2
      go_ret
      exact ⟨ret_true (by rw [decide_eq_false (by omega)]; rfl), bl hbb hb9⟩
    · refine (takeText_long _ _ _ (unhide K3) (by omega) (by omega) (unhide A3) (by unfold mostOf; split <;> omega)).mono ?_
      rintro e w9 ⟨rfl, hb9⟩
      have hp : (0 : Int) < (t.size : Int) := by omega
      clear h0
      go_wp2
      go_ret
      exact ⟨ret_true (decide_eq_true (by omega)), bl hbb hb9⟩

end Go.Proofs.Ytddphpildmeheaa
