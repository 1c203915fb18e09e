/-
  What is a name: label.Name, and the document's own.
-/
import Derived.Test.YtjbdofjheeljkaaLdgDW
namespace Go.Proofs.Ytjbdofjheeljkaa.Ldg
open Go.Proofs.Ytjbdofjheeljkaa
open Go.RowKit

theorem letB_eq {n : Nat} {b : Bool} (h : b = true ↔ (97 ≤ n ∧ n ≤ 122 ∨ n = 95)) : b = Lab.letB n := by
  unfold Lab.letB; cases b
  · exact (decide_eq_false fun k => by simpa using h.2 k).symm
  · exact (decide_eq_true (h.1 rfl)).symm
theorem digB_eq {n : Nat} {b : Bool} (h : b = true ↔ (48 ≤ n ∧ n ≤ 57)) : b = Lab.digB n := by
  unfold Lab.digB; cases b
  · exact (decide_eq_false fun k => by simpa using h.2 k).symm
  · exact (decide_eq_true (h.1 rfl)).symm

set_option maxRecDepth 100000 in
set_option maxHeartbeats 400000 in
theorem opens_any (n : Nat) (w : World) (hn : n < 256) : Calls Try.prog 82 #[.int .u8 (n : Int)] w fun e w' => e = .returned (.bool (Lab.letB n)) ∧ w' = w := by
  by_cases h1 : 97 ≤ n
  · by_cases h2 : n ≤ 122
    · go_enter Try.func82, Try.ntmps82
      go_wp2
      go_ret
      exact ⟨lret_b (letB_eq (by simp; omega)), rfl⟩
    · go_enter Try.func82, Try.ntmps82
      go_wp2
      go_ret
      exact ⟨lret_b (letB_eq (by simp; omega)), rfl⟩
  · by_cases h2 : n = 95
    · subst h2
      go_enter Try.func82, Try.ntmps82
      go_wp2
      go_ret
      exact ⟨lret_b (letB_eq (by simp)), rfl⟩
    · have h3 : ((n : Int) == 95) = false := by simp; omega
      go_enter Try.func82, Try.ntmps82
      go_wp2
      go_ret
      exact ⟨lret_b (letB_eq (by simp; omega)), rfl⟩
set_option maxRecDepth 100000 in
set_option maxHeartbeats 400000 in
theorem digit_any (n : Nat) (w : World) (hn : n < 256) : Calls Try.prog 83 #[.int .u8 (n : Int)] w fun e w' => e = .returned (.bool (Lab.digB n)) ∧ w' = w := by
  by_cases h1 : 48 ≤ n
  · by_cases h2 : n ≤ 57
    · go_enter Try.func83, Try.ntmps83
      go_wp2
      go_ret
      exact ⟨lret_b (digB_eq (by simp; omega)), rfl⟩
    · go_enter Try.func83, Try.ntmps83
      go_wp2
      go_ret
      exact ⟨lret_b (digB_eq (by simp; omega)), rfl⟩
  · go_enter Try.func83, Try.ntmps83
    go_wp2
    go_ret
    exact ⟨lret_b (digB_eq (by simp; omega)), rfl⟩

theorem name_bad {s : ByteArray} {k : Nat} (hk : k < s.size) (h : Lab.okAt k s[k] = false) : false = Lab.isName s :=
  (Lab.isName_no (fun q => by have := q.2.2 k hk; rw [Lab.getD_at s k hk, h] at this; cases this)).symm
theorem name_next {s : ByteArray} {k : Nat} (hk : k < s.size) (h : Lab.okAt k s[k] = true) (hs : ∀ i, i < k → Lab.okAt i (s.data.toList.getD i 0) = true) : ∀ i, i < k + 1 → Lab.okAt i (s.data.toList.getD i 0) = true := by
  intro i hi
  by_cases e : i = k
  · subst e; rw [Lab.getD_at s i hk]; exact h
  · exact hs i (by omega)

set_option maxRecDepth 100000 in
set_option maxHeartbeats 800000 in
theorem name_any (s : ByteArray) (w : World) (hs : s.size ≤ 9223372036854775807) :
    Calls Try.prog 64 #[.string s] w fun e w' => e = .returned (.bool (Lab.isName s)) ∧ w' = w := by
  by_cases h0 : s.size = 0
  · have h0' : ((s.size : Int) == 0) = true := by simp [h0]
    go_enter Try.func64, Try.ntmps64
    go_wp2
    go_ret
    exact ⟨lret_b (Lab.isName_no (fun q => by have := q.1; have := q.2.1; omega)).symm, rfl⟩
  have h0' : ((s.size : Int) == 0) = false := beq_eq_false_iff_ne.2 (by omega)
  by_cases h20 : 20 < s.size
  · go_enter Try.func64, Try.ntmps64
    go_wp2
    go_ret
    exact ⟨lret_b (Lab.isName_no (fun q => by have := q.1; have := q.2.1; omega)).symm, rfl⟩
  go_enter Try.func64, Try.ntmps64
  go_wp2
  go_loopw [14] (fun i wr => ∃ k : Nat, k ≤ s.size ∧ i = .int .i64 (k : Int) ∧ (∀ i, i < k → Lab.okAt i (s.data.toList.getD i 0) = true) ∧ wr = w)
    (fun i _ => s.size - (intOf i).toNat)
  case atStart => exact ⟨0, Nat.zero_le _, rfl, fun i h => by omega, rfl⟩
  case round =>
    obtain ⟨k, hk, rfl, hok, rfl⟩ := hrel
    have HO := hide hok
    clear hok
    by_cases hlt : k < s.size
    · have hb : (s[k]).toNat < 256 := (s[k]).toNat_lt
      cases hL : Lab.letB (s[k]).toNat with
      | true =>
        have hok1 : Lab.okAt k s[k] = true := by simp [Lab.okAt, hL]
        have HK := hide hok1
        clear hok1
        go_wp2_with fail
        refine (opens_any _ _ hb).mono ?_
        rintro e w1 ⟨rfl, rfl⟩
        go_wp2
        go_roundw
        case rel => exact ⟨k + 1, by omega, by go_num, name_next hlt (unhide HK) (unhide HO), trivial⟩
        case measure => simp [intOf]; omega
      | false =>
        by_cases hk0 : k = 0
        · subst hk0
          have hok1 : Lab.okAt 0 s[0] = false := by simp [Lab.okAt, hL]
          have HK := hide (name_bad hlt hok1)
          clear hok1
          go_wp2_with fail
          refine (opens_any _ _ hb).mono ?_
          rintro e w1 ⟨rfl, rfl⟩
          go_wp2
          go_ret
          exact ⟨lret_b (unhide HK), rfl⟩
        · have hk0' : ((k : Int) == 0) = false := by simp; omega
          cases hD : Lab.digB (s[k]).toNat with
          | true =>
            have hok1 : Lab.okAt k s[k] = true := by simp [Lab.okAt, hD, hk0]
            have HK := hide hok1
            clear hok1
            go_wp2_with fail
            refine (opens_any _ _ hb).mono ?_
            rintro e w1 ⟨rfl, rfl⟩
            go_wp2_with fail
            refine (digit_any _ _ hb).mono ?_
            rintro e w1 ⟨rfl, rfl⟩
            go_wp2
            go_roundw
            case rel => exact ⟨k + 1, by omega, by go_num, name_next hlt (unhide HK) (unhide HO), trivial⟩
            case measure => simp [intOf]; omega
          | false =>
            have hok1 : Lab.okAt k s[k] = false := by simp [Lab.okAt, hL, hD]
            have HK := hide (name_bad hlt hok1)
            clear hok1
            go_wp2_with fail
            refine (opens_any _ _ hb).mono ?_
            rintro e w1 ⟨rfl, rfl⟩
            go_wp2_with fail
            refine (digit_any _ _ hb).mono ?_
            rintro e w1 ⟨rfl, rfl⟩
            go_wp2
            go_ret
            exact ⟨lret_b (unhide HK), rfl⟩
    · go_wp2
      go_ret
      exact ⟨lret_b (Lab.isName_mk ⟨by omega, by omega, fun i hi => unhide HO i (by omega)⟩).symm, rfl⟩

set_option maxRecDepth 100000 in
set_option maxHeartbeats 1600000 in
theorem refName_any (s : ByteArray) (w : World) (hs : s.size ≤ 9223372036854775807) :
    Calls Try.prog 72 #[.string s] w fun e w' => e = .returned (.bool (Lab.isName s)) ∧ w' = w := by
  go_enter Try.func72, Try.ntmps72
  go_wp2
  go_loopw [3] (fun i wr => ∃ k : Nat, k ≤ s.size ∧ i = .int .i64 (k : Int) ∧ (∀ i, i < k → Lab.okAt i (s.data.toList.getD i 0) = true) ∧ wr = w)
    (fun i _ => s.size - (intOf i).toNat)
  case atStart => exact ⟨0, Nat.zero_le _, rfl, fun i h => by omega, rfl⟩
  case round =>
    obtain ⟨k, hk, rfl, hok, rfl⟩ := hrel
    have HO := hide hok
    clear hok
    by_cases hlt : k < s.size
    · have hb : (s[k]).toNat < 256 := (s[k]).toNat_lt
      have H1 : Hid (Lab.okAt k s[k] = true ↔ (97 ≤ (s[k]).toNat ∧ (s[k]).toNat ≤ 122 ∨ (s[k]).toNat = 95) ∨ (k ≠ 0 ∧ 48 ≤ (s[k]).toNat ∧ (s[k]).toNat ≤ 57)) := by
        refine hide ?_
        simp [Lab.okAt, Lab.letB, Lab.digB]
      rcases (show (97 ≤ (s[k]).toNat ∧ (s[k]).toNat ≤ 122) ∨ ((s[k]).toNat < 97 ∧ (s[k]).toNat = 95) ∨ (122 < (s[k]).toNat ∧ k = 0) ∨ (122 < (s[k]).toNat ∧ k ≠ 0) ∨ ((s[k]).toNat < 97 ∧ (s[k]).toNat ≠ 95 ∧ k = 0) ∨ ((s[k]).toNat < 97 ∧ (s[k]).toNat ≠ 95 ∧ k ≠ 0 ∧ 57 < (s[k]).toNat) ∨ ((s[k]).toNat < 97 ∧ (s[k]).toNat ≠ 95 ∧ k ≠ 0 ∧ (s[k]).toNat < 48) ∨ ((s[k]).toNat < 97 ∧ (s[k]).toNat ≠ 95 ∧ k ≠ 0 ∧ 48 ≤ (s[k]).toNat ∧ (s[k]).toNat ≤ 57) from by omega) with ⟨l1, l2⟩ | ⟨l1, l2⟩ | ⟨l1, l2⟩ | ⟨l1, l2⟩ | ⟨l1, l2, l3⟩ | ⟨l1, l2, l3, l4⟩ | ⟨l1, l2, l3, l4⟩ | ⟨l1, l2, l3, l4, l5⟩
      · have HK := hide ((unhide H1).2 (by omega))
        go_wp2
        go_roundw
        case rel => exact ⟨k + 1, by omega, by go_num, name_next hlt (unhide HK) (unhide HO), trivial⟩
        case measure => simp [intOf]; omega
      · have HK := hide ((unhide H1).2 (by omega))
        have q95 : (((s[k]).toNat : Int) == 95) = true := beq_iff_eq.2 (by omega)
        go_wp2
        go_roundw
        case rel => exact ⟨k + 1, by omega, by go_num, name_next hlt (unhide HK) (unhide HO), trivial⟩
        case measure => simp [intOf]; omega
      · have q122 : decide (((s[k]).toNat : Int) ≤ 122) = false := decide_eq_false (by omega)
        have q95 : (((s[k]).toNat : Int) == 95) = false := beq_eq_false_iff_ne.2 (by omega)
        subst l2
        have HK := hide (name_bad hlt (Bool.eq_false_iff.2 (fun q => by have := (unhide H1).1 q; omega)))
        go_wp2
        go_ret
        exact ⟨lret_b (unhide HK), rfl⟩
      · have q122 : decide (((s[k]).toNat : Int) ≤ 122) = false := decide_eq_false (by omega)
        have q95 : (((s[k]).toNat : Int) == 95) = false := beq_eq_false_iff_ne.2 (by omega)
        have qk : ((k : Int) == 0) = false := beq_eq_false_iff_ne.2 (by omega)
        have HK := hide (name_bad hlt (Bool.eq_false_iff.2 (fun q => by have := (unhide H1).1 q; omega)))
        go_wp2
        go_ret
        exact ⟨lret_b (unhide HK), rfl⟩
      · have q95 : (((s[k]).toNat : Int) == 95) = false := beq_eq_false_iff_ne.2 (by omega)
        subst l3
        have HK := hide (name_bad hlt (Bool.eq_false_iff.2 (fun q => by have := (unhide H1).1 q; omega)))
        go_wp2
        go_ret
        exact ⟨lret_b (unhide HK), rfl⟩
      · have q95 : (((s[k]).toNat : Int) == 95) = false := beq_eq_false_iff_ne.2 (by omega)
        have qk : ((k : Int) == 0) = false := beq_eq_false_iff_ne.2 (by omega)
        have HK := hide (name_bad hlt (Bool.eq_false_iff.2 (fun q => by have := (unhide H1).1 q; omega)))
        go_wp2
        go_ret
        exact ⟨lret_b (unhide HK), rfl⟩
      · have q95 : (((s[k]).toNat : Int) == 95) = false := beq_eq_false_iff_ne.2 (by omega)
        have qk : ((k : Int) == 0) = false := beq_eq_false_iff_ne.2 (by omega)
        have HK := hide (name_bad hlt (Bool.eq_false_iff.2 (fun q => by have := (unhide H1).1 q; omega)))
        go_wp2
        go_ret
        exact ⟨lret_b (unhide HK), rfl⟩
      · have q95 : (((s[k]).toNat : Int) == 95) = false := beq_eq_false_iff_ne.2 (by omega)
        have qk : ((k : Int) == 0) = false := beq_eq_false_iff_ne.2 (by omega)
        have HK := hide ((unhide H1).2 (by omega))
        go_wp2
        go_roundw
        case rel => exact ⟨k + 1, by omega, by go_num, name_next hlt (unhide HK) (unhide HO), trivial⟩
        case measure => simp [intOf]; omega
    · have hr : ∀ b : Bool, (b = true ↔ 1 ≤ s.size ∧ s.size ≤ 20) → b = Lab.isName s := by
        intro b hb
        cases b
        · exact (Lab.isName_no (fun q => by simpa using hb.2 ⟨q.1, q.2.1⟩)).symm
        · exact (Lab.isName_mk ⟨(hb.1 rfl).1, (hb.1 rfl).2, fun i hi => unhide HO i (by omega)⟩).symm
      have HR := hide hr
      clear hr
      by_cases h1 : 1 ≤ s.size
      · by_cases h2 : s.size ≤ 20
        · go_wp2
          go_ret
          exact ⟨lret_b (unhide HR _ (by simp; omega)), rfl⟩
        · go_wp2
          go_ret
          exact ⟨lret_b (unhide HR _ (by simp; omega)), rfl⟩
      · go_wp2
        go_ret
        exact ⟨lret_b (unhide HR _ (by simp; omega)), rfl⟩

end Go.Proofs.Ytjbdofjheeljkaa.Ldg
