/-
  The walk of CrcFinds.
-/
import Derived.Test.YtogiicldndmcaaaDoorCrcJoinsW
import Derived.Test.YtogiicldndmcaaaDoorBytesW
import Derived.Deep.DeepCutAuto
import Derived.Deep.RegionWith
namespace Go.Proofs.YtogiicldndmcaaaDoor
open Go.RowKit

def pk (c : Int) (n : Nat) : Nat := ((if c < 0 then -(c + 1) else c) % (n : Int)).toNat
theorem pk_lt (c : Int) {n : Nat} (h : 0 < n) : pk c n < n := by
  unfold pk
  have h1 := Int.emod_lt_of_pos (if c < 0 then -(c + 1) else c) (show (0 : Int) < (n : Int) by omega)
  have h2 := Int.emod_nonneg (if c < 0 then -(c + 1) else c) (show (n : Int) ≠ 0 by omega)
  omega
theorem pk_neg {c : Int} {n : Nat} (hn : 0 < n) (h : c < 0) : -(c + 1) % (n : Int) = ((pk c n : Nat) : Int) := by
  unfold pk
  have h2 := Int.emod_nonneg (-(c + 1)) (show (n : Int) ≠ 0 by omega)
  rw [if_pos h]; omega
theorem pk_pos {c : Int} {n : Nat} (hn : 0 < n) (h : ¬ c < 0) : c % (n : Int) = ((pk c n : Nat) : Int) := by
  unfold pk
  have h2 := Int.emod_nonneg c (show (n : Int) ≠ 0 by omega)
  rw [if_neg h]; omega

set_option maxRecDepth 100000 in
set_option maxHeartbeats 400000 in
theorem pick_any (c : Int) (n : Nat) (w : World) (h0 : -9223372036854775808 ≤ c) (h1 : c ≤ 9223372036854775807) (hn : 0 < n) (hm : n ≤ 1099511627776) :
    Calls Tryd.prog 14 #[.int .i64 c, .int .i64 (n : Int)] w fun e w' => e = .returned (.int .i64 ((pk c n : Nat) : Int)) ∧ w' = w := by
  have hnz : ((n : Int) == 0) = false := beq_eq_false_iff_ne.2 (by omega)
  by_cases hc : c < 0
  · have HP := hide (pk_neg hn hc)
    go_enter Tryd.func14, Tryd.ntmps14
    go_wp2
    go_ret
    exact ⟨ret_int (by rw [← HP.out, ← Int.neg_tmod]; exact Int.tmod_eq_emod_of_nonneg (by omega)), rfl⟩
  · have HP := hide (pk_pos hn hc)
    go_enter Tryd.func14, Tryd.ntmps14
    go_wp2
    go_ret
    exact ⟨ret_int (by exact HP.out), rfl⟩

theorem bit_val (a : UInt8) (k : Nat) (hk : k < 8) : ∃ c : UInt8, bits .xor .u8 (a.toNat : Int) (IntKind.u8.wrap (2 ^ min (IntKind.u64.wrap (k : Int)).toNat 8)) = (c.toNat : Int) ∧ c ≠ a := by
  have e1 : (IntKind.u64.wrap (k : Int)).toNat = k := by rw [IntKind.wrap_u64]; omega
  have e2 : min k 8 = k := by omega
  rw [e1, e2]
  have hp : (2 : Nat) ^ k ≤ 2 ^ 7 := Nat.pow_le_pow_right (by decide) (by omega)
  have h0 : 0 < (2 : Nat) ^ k := Nat.pow_pos (by decide)
  have e3 : IntKind.u8.wrap ((2 : Int) ^ k) = ((2 ^ k : Nat) : Int) := by
    rw [IntKind.wrap_u8', show (2 : Int) ^ k = ((2 ^ k : Nat) : Int) from by simp]; omega
  rw [e3]
  have ha := a.toNat_lt
  have hx := u8_xor_nat a.toNat (2 ^ k) (by omega) (by omega)
  have hlt : a.toNat ^^^ 2 ^ k < 2 ^ 8 := Nat.xor_lt_two_pow (by omega) (by omega)
  refine ⟨UInt8.ofNat (a.toNat ^^^ 2 ^ k), ?_, ?_⟩
  · rw [hx, Num.ofNat_toNat (by omega)]
  · intro h
    have := congrArg UInt8.toNat h
    rw [Num.ofNat_toNat (by omega)] at this
    have h2 := congrArg (a.toNat ^^^ ·) this
    simp only [← Nat.xor_assoc, Nat.xor_self, Nat.zero_xor] at h2
    omega

theorem neq_int {a b : Nat} (h : a ≠ b) : ((a : Int) != (b : Int)) = true := by rw [bne_iff_ne]; omega

set_option maxRecDepth 100000 in
set_option maxHeartbeats 400000 in
theorem walkCrcFinds (s : ByteArray) (x y : Int) (w : World) (hs : s.size ≤ maxLen) (hx : -9223372036854775808 ≤ x ∧ x ≤ 9223372036854775807) (hy : -9223372036854775808 ≤ y ∧ y ≤ 9223372036854775807) (hT : Tab w) :
    Calls Tryd.prog 5 #[.string s, .int .i64 x, .int .i64 y] w fun e w' => e = .returned (.bool true) ∧ Below w.heap.size w w' := by
  obtain ⟨hx0, hx1⟩ := hx
  obtain ⟨hy0, hy1⟩ := hy
  have HT := hide hT
  clear hT
  have HS := hide hs
  unfold maxLen at hs
  by_cases h0 : s.size = 0
  · have hz : ((s.size : Int) == 0) = true := beq_iff_eq.2 (by omega)
    clear h0
    go_enter Tryd.func5, Tryd.ntmps5
    go_wp2_with fail
    refine (shown_any _ HT.out).mono ?_
    rintro e w1 ⟨rfl, rfl⟩
    go_wp2
    go_ret
    exact ⟨rfl, Below.refl _ _⟩
  have hz : ((s.size : Int) == 0) = false := beq_eq_false_iff_ne.2 (by omega)
  by_cases hl : s.size ≤ 2000
  · have hg : ¬ (2000 : Int) < (s.size : Int) := by omega
    go_enter Tryd.func5, Tryd.ntmps5
    go_wp2_with fail
    refine (shown_any _ HT.out).mono ?_
    rintro e w1 ⟨rfl, rfl⟩
    obtain ⟨w2, cap, hrun, hcap, hsz, hbel, hby⟩ := bytes_of (P := Tryd.prog) w1 9 28 5 s Tryd.underlying9 Tryd.underlying28 Tryd.underlying5
    have hp := pk_lt x (show 0 < s.size by omega)
    have hq := pk_lt y (show 0 < 8 by omega)
    have hpl : pk x s.size < s.data.toList.length := by simpa using hp
    have hcell := hby.1 (pk x s.size) hpl
    have hfro := hby.2 (pk x s.size) hpl
    obtain ⟨c, hc, hne⟩ := bit_val (s.data[pk x s.size]'hp) (pk y 8) hq
    have HE := hide (neq_int (Crc.sum_set (b := c) hpl (by simpa using hne)))
    have HZ : Hid ((Num.bs (s.data.toList.set (pk x s.size) c)).size ≤ maxLen) := by
      show (Num.bs (s.data.toList.set (pk x s.size) c)).size ≤ maxLen
      rw [Num.bs_size]; unfold maxLen; simp; omega
    have hcv := (hby.set hpl c).drew.conv (P := Tryd.prog) cap 28 9 5 Tryd.underlying28 Tryd.underlying5 Tryd.underlying9
    rw [show (s.data.toList.set (pk x s.size) c).length = s.size from by simp] at hcv
    have HB : Hid (Below w1.heap.size w1 (w2.setCell ⟨w1.heap.size, pk x s.size, none⟩ (.int .u8 (c.toNat : Int))).drew) := (hbel.setCell (Nat.le_refl _) _).drew
    clear hby hbel hne
    have HC := fun wx => hide (pick_any x s.size wx hx0 hx1 (by omega) (by omega))
    have HD := fun wx => hide (pick_any y 8 wx hy0 hy1 (by omega) (by omega))
    go_wp2_with fail
    go_region_with (first
      | (go_at_call_of 14 (Value.int .i64 x); refine (HC _).out.mono ?_; rintro e w' ⟨rfl, rfl⟩)
      | (go_at_call_of 14 (Value.int .i64 y); refine (HD _).out.mono ?_; rintro e w' ⟨rfl, rfl⟩))
    all_goals
      go_wp2_with fail
      refine (sum_any _ _ HZ.out (HT.out.below HB.out)).mono ?_
      rintro e w3 ⟨rfl, rfl⟩
      go_wp2_with fail
      refine (sum_any _ _ HS.out (HT.out.below HB.out)).mono ?_
      rintro e w3 ⟨rfl, rfl⟩
      go_wp2
      go_ret
      exact ⟨ret_true HE.out, HB.out⟩
  · have hg : (2000 : Int) < (s.size : Int) := by omega
    go_enter Tryd.func5, Tryd.ntmps5
    go_wp2_with fail
    refine (shown_any _ HT.out).mono ?_
    rintro e w1 ⟨rfl, rfl⟩
    go_wp2
    go_ret
    exact ⟨rfl, Below.refl _ _⟩
end Go.Proofs.YtogiicldndmcaaaDoor
