/-
  The statements' own 'pick': which of n things a number speaks of.
-/
import Derived.Test.YtjbdofjheeljkaaBase
namespace Go.Proofs.Ytjbdofjheeljkaa
open Go.RowKit

theorem ret_int' {a b : Int} (h : a = b) : Ending.returned (.int .i64 a) = .returned (.int .i64 b) := by rw [h]

def pk (c : Int) (n : Nat) : Nat := ((if c < 0 then -(c + 1) else c) % (n : Int)).toNat
theorem pk_lt (c : Int) {n : Nat} (h : 0 < n) : pk c n < n := by
  unfold pk
  have h1 := Int.emod_lt_of_pos (if c < 0 then -(c + 1) else c) (show (0 : Int) < (n : Int) by omega)
  have h2 := Int.emod_nonneg (if c < 0 then -(c + 1) else c) (show (n : Int) ≠ 0 by omega)
  omega
theorem pk_neg {c : Int} {n : Nat} (hn : 0 < n) (h : c < 0) : -(c + 1) % (n : Int) = ((pk c n : Nat) : Int) := by
  unfold pk
  have h2 := Int.emod_nonneg (-(c + 1)) (show (n : Int) ≠ 0 by omega)
  rw [if_pos h]; omega
theorem pk_pos {c : Int} {n : Nat} (hn : 0 < n) (h : ¬ c < 0) : c % (n : Int) = ((pk c n : Nat) : Int) := by
  unfold pk
  have h2 := Int.emod_nonneg c (show (n : Int) ≠ 0 by omega)
  rw [if_neg h]; omega

set_option maxRecDepth 100000 in
set_option maxHeartbeats 400000 in
theorem pick_any (c : Int) (n : Nat) (w : World) (h0 : -9223372036854775808 ≤ c) (h1 : c ≤ 9223372036854775807) (hn : 0 < n) (hm : n ≤ 1099511627776) :
    Calls Try.prog 30 #[.int .i64 c, .int .i64 (n : Int)] w fun e w' => e = .returned (.int .i64 ((pk c n : Nat) : Int)) ∧ w' = w := by
  have hnz : ((n : Int) == 0) = false := beq_eq_false_iff_ne.2 (by omega)
  by_cases hc : c < 0
  · have HP := hide (pk_neg hn hc)
    go_enter Try.func30, Try.ntmps30
    go_wp2
    go_ret
    exact ⟨ret_int' (by rw [← HP.out, ← Int.neg_tmod]; exact Int.tmod_eq_emod_of_nonneg (by omega)), rfl⟩
  · have HP := hide (pk_pos hn hc)
    go_enter Try.func30, Try.ntmps30
    go_wp2
    go_ret
    exact ⟨ret_int' (by exact HP.out), rfl⟩

end Go.Proofs.Ytjbdofjheeljkaa
