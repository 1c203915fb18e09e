/-
  What the document's own Sum and Add (chapter 2) do: bit by bit: they return what the register comes to, and turn nothing.
-/
import Derived.Test.YtdpkpcoadojkhaaDoorCrcW
namespace Go.Proofs.YtdpkpcoadojkhaaDoor
open Go.RowKit

theorem stp_next (j x : Nat) : Crc.stpN (j + 1) x = Crc.stp (Crc.stpN j x) := Crc.stpN_add j 1 x
theorem stp_odd (x : Nat) (hx : x < 4294967296) (h : x % 2 = 1) : bits .xor .u32 ((x : Int) / 2) 2197175160 = ((Crc.stp x : Nat) : Int) := by
  have := u32_xor_nat (x / 2) 2197175160 (by omega) (by omega)
  unfold Crc.stp
  rw [if_pos h, ← this]
  congr 1
theorem stp_even (x : Nat) (h : ¬ x % 2 = 1) : (x : Int) / 2 = ((Crc.stp x : Nat) : Int) := by
  unfold Crc.stp
  rw [if_neg h]; omega
theorem not32' (a : Nat) (ha : a < 4294967296) : bits .xor .u32 (a : Int) 4294967295 = ((a ^^^ 4294967295 : Nat) : Int) := u32_xor_nat a 4294967295 ha (by omega)
theorem run_next8 (r : Nat) (s : ByteArray) (k : Nat) (h : k < s.size) : Crc.stpN 8 (Crc.run r (s.data.toList.take k) ^^^ s[k].toNat) = Crc.run r (s.data.toList.take (k + 1)) := by
  rw [take_snoc s k h, Crc.run_snoc]; rfl

set_option maxRecDepth 100000 in
set_option maxHeartbeats 400000 in
theorem refAdd_any (sum : Nat) (s : ByteArray) (w : World) (hr : sum < 4294967296) (hs : s.size ≤ maxLen) :
    Calls Tryd.prog 30 #[.int .u32 (sum : Int), .string s] w fun e w' => e = .returned (.int .u32 ((Crc.add sum s.data.toList : Nat) : Int)) ∧ w' = w := by
  unfold maxLen at hs
  have H0 := hide (not32' sum hr)
  go_enter Tryd.func30, Tryd.ntmps30
  go_wp2
  go_loop [5, 6] (fun r i => ∃ k : Nat, k ≤ s.size ∧ i = .int .i64 k ∧ r = .int .u32 ((Crc.run (sum ^^^ 4294967295) (s.data.toList.take k) : Nat) : Int)) (fun _ i => s.size - (intOf i).toNat)
  case atStart => exact ⟨0, Nat.zero_le _, rfl, by rw [H0.out]; rfl⟩
  case round =>
    obtain ⟨k, hk, rfl, rfl⟩ := hrel
    have hR := Crc.run_lt (s.data.toList.take k) _ (Crc.inv_lt hr)
    by_cases hlt : k < s.size
    · have HN := hide (run_next8 (sum ^^^ 4294967295) s k hlt)
      have HX := hide (byte32 (Crc.run (sum ^^^ 4294967295) (s.data.toList.take k)) s[k] hR)
      have hX := Crc.xor_lt hR (Crc.byte_lt s[k])
      go_wp2
      go_loop [5, 7] (fun r i => ∃ j : Nat, j ≤ 8 ∧ i = .int .i64 j ∧ r = .int .u32 ((Crc.stpN j (Crc.run (sum ^^^ 4294967295) (s.data.toList.take k) ^^^ s[k].toNat) : Nat) : Int)) (fun _ i => 8 - (intOf i).toNat)
      case atStart => exact ⟨0, by omega, rfl, by rw [HX.out]; rfl⟩
      case round =>
        obtain ⟨j, hj, rfl, rfl⟩ := hrel
        have hY := Crc.stpN_lt j _ hX
        by_cases hjl : j < 8
        · have HS := hide (stp_next j (Crc.run (sum ^^^ 4294967295) (s.data.toList.take k) ^^^ s[k].toNat))
          by_cases hodd : Crc.stpN j (Crc.run (sum ^^^ 4294967295) (s.data.toList.take k) ^^^ s[k].toNat) % 2 = 1
          · have HO := hide (stp_odd _ hY hodd)
            have ht : (((Crc.stpN j (Crc.run (sum ^^^ 4294967295) (s.data.toList.take k) ^^^ s[k].toNat) : Nat) : Int) % 2 == 1) = true := beq_iff_eq.2 (by omega)
            clear hodd
            go_wp2
            go_round
            case rel => exact ⟨j + 1, by omega, by go_num, by rw [HO.out, ← HS.out]⟩
            case measure => simp [intOf]; omega
          · have HO := hide (stp_even _ hodd)
            have ht : (((Crc.stpN j (Crc.run (sum ^^^ 4294967295) (s.data.toList.take k) ^^^ s[k].toNat) : Nat) : Int) % 2 == 1) = false := beq_eq_false_iff_ne.2 (by omega)
            clear hodd
            go_wp2
            go_round
            case rel => exact ⟨j + 1, by omega, by go_num, by rw [HO.out, ← HS.out]⟩
            case measure => simp [intOf]; omega
        · obtain rfl : j = 8 := by omega
          rw [HN.out]
          go_wp2
          go_round
          case rel => exact ⟨k + 1, by omega, by go_num, rfl⟩
          case measure => simp [intOf]; omega
    · have HE := hide (not32' _ hR)
      have HL : Hid (s.data.toList.take k = s.data.toList) := List.take_of_length_le (by simp; omega)
      go_wp2
      go_ret
      exact ⟨ret_int (by rw [HE.out, HL.out]; rfl), rfl⟩

theorem refAdd_at (x : Int) (sum : Nat) (s : ByteArray) (w : World) (hx : x = (sum : Int)) (hr : sum < 4294967296) (hs : s.size ≤ maxLen) :
    Calls Tryd.prog 30 #[.int .u32 x, .string s] w fun e w' => e = .returned (.int .u32 ((Crc.add sum s.data.toList : Nat) : Int)) ∧ w' = w := by
  subst hx; exact refAdd_any sum s w hr hs

set_option maxRecDepth 100000 in
set_option maxHeartbeats 400000 in
theorem refSum_any (s : ByteArray) (w : World) (hs : s.size ≤ maxLen) :
    Calls Tryd.prog 24 #[.string s] w fun e w' => e = .returned (.int .u32 ((Crc.sum s.data.toList : Nat) : Int)) ∧ w' = w := by
  go_enter Tryd.func24, Tryd.ntmps24
  go_wp2_with fail
  refine (refAdd_at _ 0 s _ rfl (by omega) hs).mono ?_
  rintro e w1 ⟨rfl, rfl⟩
  go_wp2
  go_ret
  exact ⟨rfl, rfl⟩
end Go.Proofs.YtdpkpcoadojkhaaDoor
