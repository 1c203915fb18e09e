/-
  Plain: samples at even steps, of one value.
-/
import Derived.Test.YtocelglgafmfnaaSmpMath
namespace Go.Proofs.Ytocelglgafmfnaa.Smp

def ev (A d v : Int) : Nat → Nat → List Sm
  | _, 0 => []
  | k, m + 1 => (A + (k : Int) * d, v) :: ev A d v (k + 1) m
theorem ev_len (A d v : Int) : ∀ (m k : Nat), (ev A d v k m).length = m
  | 0, _ => rfl
  | m + 1, k => by simp [ev, ev_len A d v m (k + 1)]
theorem ev_next (A d v : Int) : ∀ (m k : Nat), ev A d v k (m + 1) = ev A d v k m ++ [(A + ((k + m : Nat) : Int) * d, v)]
  | 0, k => by simp [ev]
  | m + 1, k => by
    have ih := ev_next A d v m (k + 1)
    rw [ev, ih]
    simp only [ev, List.cons_append]
    rw [show k + 1 + m = k + (m + 1) by omega]
theorem ev_take (A d v : Int) : ∀ (m k j : Nat), j ≤ m → (ev A d v k m).take j = ev A d v k j
  | _, _, 0, _ => by simp [ev]
  | 0, _, j + 1, h => by omega
  | m + 1, k, j + 1, h => by
    simp only [ev, List.take_succ_cons]
    rw [ev_take A d v m (k + 1) j (by omega)]
theorem succ_mul' (k : Nat) (d : Int) : ((k + 1 : Nat) : Int) * d = (k : Int) * d + d := by
  rw [Int.natCast_add, Int.add_mul]; simp
theorem ev_rise {A d v : Int} (hd : 0 < d) : ∀ (m k : Nat), riseB (ev A d v k m) = true
  | 0, _ => rfl
  | 1, _ => rfl
  | m + 2, k => by
    have ih := ev_rise (A := A) (v := v) hd (m + 1) (k + 1)
    simp only [ev] at ih ⊢
    simp only [riseB, Bool.and_eq_true, decide_eq_true_eq]
    refine ⟨?_, ih⟩
    have := succ_mul' k d
    omega
theorem mul_bd {k : Nat} {d : Int} (hk : k ≤ 20) (h0 : 0 ≤ d) (h1 : d ≤ 1099511627776) : 0 ≤ (k : Int) * d ∧ (k : Int) * d ≤ 21990232555520 := by
  refine ⟨Int.mul_nonneg (by omega) h0, ?_⟩
  have a := Int.mul_le_mul_of_nonneg_right (a := (k : Int)) (b := 20) (c := d) (by omega) h0
  omega
theorem ev_ok {A d v : Int} (hA : 0 ≤ A ∧ A < 1099511627776) (hd : 0 < d ∧ d ≤ 1099511627776) (hv : -9223372036854775808 ≤ v ∧ v ≤ 9223372036854775807) : ∀ (m k : Nat), k + m ≤ 20 → ∀ x ∈ ev A d v k m, Ok x
  | 0, _, _, x, h => by simp [ev] at h
  | m + 1, k, hk, x, h => by
    rcases List.mem_cons.1 h with rfl | h
    · have := mul_bd (k := k) (d := d) (by omega) (by omega) hd.2
      exact ⟨by show 0 ≤ A + (k : Int) * d; omega, by show A + (k : Int) * d < _; omega, hv.1, hv.2⟩
    · exact ev_ok hA hd hv m (k + 1) (by omega) x h
theorem ev_check {A d v : Int} (hd : 0 < d) {m : Nat} (h1 : 1 ≤ m) (h2 : m ≤ 20) : check (ev A d v 0 m) = 0 := check_ok (by rw [ev_len]; omega) (ev_rise hd m 0)

theorem zig0 : Num.put (Num.zig (i 0)) = [0] := by decide +kernel
theorem ev_stp {A d v : Int} (hd : 0 < d ∧ d ≤ 1099511627776) (k : Nat) : stp (A + (k : Int) * d, v) (A + ((k + 1 : Nat) : Int) * d, v) = d := by
  unfold stp
  have := succ_mul' k d
  simp only
  rw [this, show A + ((k : Int) * d + d) - (A + (k : Int) * d) = d by omega]
  exact u_id (by omega) (by omega)
theorem ev_body {A d v : Int} (hd : 0 < d ∧ d ≤ 1099511627776) : ∀ (m k : Nat), body (A + (k : Int) * d, v) d (ev A d v (k + 1) m) = List.replicate (2 * m) 0
  | 0, _ => rfl
  | m + 1, k => by
    have ih := ev_body (A := A) (v := v) hd m (k + 1)
    simp only [ev, body, one]
    rw [ev_stp hd k, ih, Int.sub_self, Int.sub_self, zig0, show 2 * (m + 1) = 2 * m + 1 + 1 by omega]
    rfl
/-- What is the same in both. -/
def evC (A d v : Int) : List UInt8 := Num.put A.toNat ++ (Num.put (Num.zig v) ++ (Num.put (Num.zig d) ++ [0]))
theorem ev_put {A d v : Int} (hd : 0 < d ∧ d ≤ 1099511627776) (q : Nat) (hq : q ≤ 18) : putS (ev A d v 0 (q + 2)) = UInt8.ofNat (q + 2) :: (evC A d v ++ List.replicate (2 * q) 0) := by
  have hs := ev_stp (A := A) (v := v) hd 0
  have hb := ev_body (A := A) (v := v) hd q 1
  simp only [ev, putS, body, one]
  rw [hs, hb, Int.sub_self, zig0]
  have e1 : (A + ((0 : Nat) : Int) * d) = A := by simp
  have e2 : i (d - 0) = d := by rw [Int.sub_zero]; exact i_id (by omega) (by omega)
  rw [e1, e2]
  simp only [List.length_cons, ev_len]
  rw [Num.put_lt (n := q + 1 + 1) (by omega)]
  unfold evC
  simp only [List.append_assoc, List.cons_append, List.nil_append]
theorem evC_len {A d v : Int} (hA : 0 ≤ A ∧ A < 1099511627776) (hd : 0 < d ∧ d ≤ 1099511627776) (hv : -9223372036854775808 ≤ v ∧ v ≤ 9223372036854775807) : (evC A d v).length ≤ 31 := by
  have g1 := Num.put_len10 (n := A.toNat) (by omega)
  have g2 := Num.put_len10 (Num.zig_lt hv.1 hv.2)
  have g3 := Num.put_len10 (Num.zig_lt (m := d) (by omega) (by omega))
  unfold evC
  simp only [List.length_append, List.length_cons, List.length_nil]; omega

end Go.Proofs.Ytocelglgafmfnaa.Smp
