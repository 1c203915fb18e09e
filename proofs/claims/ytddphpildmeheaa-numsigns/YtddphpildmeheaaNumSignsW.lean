/-
  The walk of NumSigns.
-/
import Derived.Test.YtddphpildmeheaaShownW
import Derived.BigQuiet
namespace Go.Proofs.Ytddphpildmeheaa
open Go.RowKit

/-- The bytes of 2k and of 2k + 1. -/
theorem put_pair (k : Nat) : ∃ (c d : UInt8) (t : List UInt8), Num.put (2 * k) = c :: t ∧ Num.put (2 * k + 1) = d :: t ∧ c.toNat % 2 = 0 ∧ d.toNat = c.toNat + 1 ∧ (t.length = 0 ↔ k < 64) := by
  by_cases h : k < 64
  · exact ⟨UInt8.ofNat (2 * k), UInt8.ofNat (2 * k + 1), [], Num.put_lt (by omega), Num.put_lt (by omega), by rw [Num.ofNat_toNat (by omega)]; omega, by rw [Num.ofNat_toNat (by omega), Num.ofNat_toNat (by omega)], by simp [h]⟩
  · refine ⟨_, _, _, Num.put_ge (by omega), by rw [Num.put_ge (by omega), show (2 * k + 1) / 128 = 2 * k / 128 from by omega], ?_, ?_, ?_⟩
    · rw [Num.ofNat_toNat (by omega)]; omega
    · rw [Num.ofNat_toNat (by omega), Num.ofNat_toNat (by omega)]; omega
    · have := Num.put_pos (2 * k / 128)
      omega

theorem xor_even (a : Nat) (h : a % 2 = 0) : a ^^^ (a + 1) = 1 := by
  have h1 : (a ^^^ (a + 1)) / 2 = 0 := by
    rw [Nat.xor_div_two, show (a + 1) / 2 = a / 2 from by omega, Nat.xor_self]
  have h2 : (a ^^^ (a + 1)) % 2 = 1 := by
    rw [Nat.xor_mod_two_eq_one]; omega
  omega

theorem other_in (n : Int) (h0 : -9223372036854775808 ≤ n) (h1 : n ≤ 9223372036854775807) : wrap64 (-wrap64 (n + 1)) = -(n + 1) := by
  unfold wrap64; omega

set_option maxRecDepth 100000 in
set_option maxHeartbeats 1600000 in
theorem signs_core (n : Int) (X Y : ByteArray) (w : World) (hn0 : -9223372036854775808 ≤ n) (hn1 : n ≤ 9223372036854775807)
    (hX : Num.bs (Num.put (Num.zig n)) = X) (hY : Num.bs (Num.put (Num.zig (-(n + 1)))) = Y) (hs : ((X.size : Int) != (Y.size : Int)) = false) (hp : 0 < X.size) (hp' : 0 < Y.size) (h0 : ((X.size : Int) == 0) = false)
    (hx : (bits .xor .u8 (X[0].toNat : Int) (Y[0].toNat : Int) != 1) = false) (hE : X.extract 1 X.size = Y.extract 1 Y.size) (hl : ((X.size : Int) == 1) = true ↔ (-64 ≤ n ∧ n < 64)) :
    Calls Try.prog 8 #[.int .i64 n] w fun e w' => e = .returned (.bool true) ∧ Below w.heap.size w w' := by
  have HX := hide hX
  have HY := hide hY
  clear hX hY
  go_enter Try.func8, Try.ntmps8
  go_wp2_with fail
  refine (shown_any _).mono ?_
  rintro e w1 ⟨rfl, hb1⟩
  go_wp2_with fail
  refine (putInt_any _ _ (by omega) (by omega)).mono ?_
  rw [unhide HX]
  rintro e w2 ⟨rfl, hb2⟩
  go_wp2_with fail
  rw [other_in n hn0 hn1]
  refine (putInt_any _ _ (by omega) (by omega)).mono ?_
  rw [unhide HY]
  rintro e w3 ⟨rfl, hb3⟩
  have hbb := bl (bl hb1 hb2) hb3
  clear hb1 hb2 hb3
  go_wp2
  go_region
  by_cases c1 : -64 ≤ n
  · by_cases c2 : n < 64
    · have e1 := hl.2 ⟨c1, c2⟩
      clear hl
      go_wp2
      go_ret
      exact ⟨rfl, by first | exact hbb | exact hbb.drew⟩
    · have e1 : ((X.size : Int) == 1) = false := by
        cases h : ((X.size : Int) == 1) with
        | false => rfl
        | true => exact absurd (hl.1 h).2 c2
      clear hl
      go_wp2
      go_ret
      exact ⟨rfl, by first | exact hbb | exact hbb.drew⟩
  · have e1 : ((X.size : Int) == 1) = false := by
      cases h : ((X.size : Int) == 1) with
      | false => rfl
      | true => exact absurd (hl.1 h).1 c1
    clear hl
    go_wp2
    go_ret
    exact ⟨rfl, by first | exact hbb | exact hbb.drew⟩

theorem front_bs (c : UInt8) (t : List UInt8) (h : 0 < (Num.bs (c :: t)).size) : (Num.bs (c :: t))[0] = c := rfl

theorem walkNumSigns (n : Int) (w : World) (hn : -9223372036854775808 ≤ n ∧ n ≤ 9223372036854775807) :
    Calls Try.prog 8 #[.int .i64 n] w fun e w' => e = .returned (.bool true) ∧ Below w.heap.size w w' := by
  obtain ⟨hn0, hn1⟩ := hn
  by_cases h : n < 0
  · obtain ⟨c, d, t, e1, e2, hc, hd, hk⟩ := put_pair (-(n + 1)).toNat
    have z1 : Num.zig n = 2 * (-(n + 1)).toNat + 1 := by unfold Num.zig; rw [if_pos h]; omega
    have z2 : Num.zig (-(n + 1)) = 2 * (-(n + 1)).toNat := by unfold Num.zig; rw [if_neg (by omega)]; omega
    have hd8 := d.toNat_lt
    refine signs_core n (Num.bs (d :: t)) (Num.bs (c :: t)) w hn0 hn1 (by rw [z1, e2]) (by rw [z2, e1]) ?_ (by simp [Num.bs_size]) (by simp [Num.bs_size]) ?_ ?_ ?_ ?_
    · simp [Num.bs_size]
    · rw [Num.bs_size]; exact beq_eq_false_iff_ne.2 (by simp; omega)
    · rw [front_bs, front_bs, u8_xor_nat _ _ (by omega) (by omega), hd, Nat.xor_comm, xor_even _ hc]; rfl
    · rw [extract_bs, extract_bs]; rfl
    · rw [Num.bs_size, beq_iff_eq]; simp only [List.length_cons]; omega
  · obtain ⟨c, d, t, e1, e2, hc, hd, hk⟩ := put_pair n.toNat
    have z1 : Num.zig n = 2 * n.toNat := by unfold Num.zig; rw [if_neg h]; omega
    have z2 : Num.zig (-(n + 1)) = 2 * n.toNat + 1 := by unfold Num.zig; rw [if_pos (by omega)]; omega
    have hd8 := d.toNat_lt
    refine signs_core n (Num.bs (c :: t)) (Num.bs (d :: t)) w hn0 hn1 (by rw [z1, e1]) (by rw [z2, e2]) ?_ (by simp [Num.bs_size]) (by simp [Num.bs_size]) ?_ ?_ ?_ ?_
    · simp [Num.bs_size]
    · rw [Num.bs_size]; exact beq_eq_false_iff_ne.2 (by simp; omega)
    · rw [front_bs, front_bs, u8_xor_nat _ _ (by omega) (by omega), hd, xor_even _ hc]; rfl
    · rw [extract_bs, extract_bs]; rfl
    · rw [Num.bs_size, beq_iff_eq]; simp only [List.length_cons]; omega
end Go.Proofs.Ytddphpildmeheaa
