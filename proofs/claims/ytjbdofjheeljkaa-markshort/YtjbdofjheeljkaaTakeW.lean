/-
  What num.Take, TakeInt and TakeText do: for every text.
-/
import Derived.Test.YtjbdofjheeljkaaPutW
import Derived.WalkMore
namespace Go.Proofs.Ytjbdofjheeljkaa
open Go.RowKit

/-- What Take returns. -/
def takeV (l : List UInt8) : Value :=
  match Num.take l with
  | none => .tuple #[.int .u64 0, .string ⟨#[]⟩, .int .i64 2]
  | some (n, r) => .tuple #[.int .u64 (n : Int), .string (Num.bs r), .int .i64 0]

theorem drop_cons (s : ByteArray) (k : Nat) (h : k < s.size) : s.data.toList.drop k = s[k] :: s.data.toList.drop (k + 1) := by
  rw [List.drop_eq_getElem_cons (by simpa using h)]; rfl

theorem or_add (k acc c : Nat) (hacc : acc < 2 ^ (7 * k)) (hc : acc + c * 2 ^ (7 * k) < 18446744073709551616) :
    bits .or .u64 (acc : Int) (IntKind.u64.wrap ((c : Int) * 2 ^ (7 * k))) = ((acc + c * 2 ^ (7 * k) : Nat) : Int) := by
  have e : ((c : Int) * 2 ^ (7 * k)) = ((c * 2 ^ (7 * k) : Nat) : Int) := by simp
  rw [e, IntKind.wrap_u64, Int.emod_eq_of_lt (by omega) (by omega), u64_or_nat _ _ (by omega) (by omega), Nat.or_comm, nat_join (7 * k) _ _ (by simp) hacc, Nat.add_comm]

/-- The number so far, with one group more. -/
theorem acc_step {k acc c : Nat} (hacc : acc < 2 ^ (7 * k)) (hc : c < 128) : acc + c * 2 ^ (7 * k) < 2 ^ (7 * (k + 1)) := by
  rw [Num.pow7]
  have : (c + 1) * 2 ^ (7 * k) ≤ 128 * 2 ^ (7 * k) := Nat.mul_le_mul_right _ (by omega)
  rw [Nat.add_mul] at this
  omega

theorem acc_lt {k acc c : Nat} (hacc : acc < 2 ^ (7 * k)) (hk : k ≤ 9) (hc : c < 128) (h9 : k = 9 → c ≤ 1) : acc + c * 2 ^ (7 * k) < 18446744073709551616 := by
  by_cases e : k = 9
  · subst e
    have h := h9 rfl
    have e2 : (2 : Nat) ^ (7 * 9) = 9223372036854775808 := by decide
    rw [e2] at hacc ⊢; omega
  · have h := acc_step hacc hc
    have h2 : 2 ^ (7 * (k + 1)) ≤ 9223372036854775808 := Num.pow7_le (by omega)
    omega

theorem takeV_none {l : List UInt8} (h : Num.take l = none) : Ending.returned (.tuple #[.int .u64 0, .string ⟨#[]⟩, .int .i64 2]) = .returned (takeV l) := by rw [takeV, h]
theorem takeV_some {l r : List UInt8} {n : Nat} {N : Int} {t : ByteArray} (h : Num.take l = some (n, r)) (hn : N = (n : Int)) (ht : t = Num.bs r) : Ending.returned (.tuple #[.int .u64 N, .string t, .int .i64 0]) = .returned (takeV l) := by rw [takeV, h, hn, ht]

set_option maxRecDepth 100000 in
set_option maxHeartbeats 800000 in
theorem take_any (s : ByteArray) (w : World) (hs : s.size ≤ maxLen) :
    Calls Try.prog 96 #[.string s] w fun e w' => e = .returned (takeV s.data.toList) ∧ Below w.heap.size w w' := by
  unfold maxLen at hs
  go_enter Try.func96, Try.ntmps96
  go_wp2
  go_step3
  go_wp2
  go_step3
  go_wp2
  go_loop [5, 6, 11] (fun n z i => ∃ (k acc : Nat), k ≤ s.size ∧ k ≤ 9 ∧ acc < 2 ^ (7 * k) ∧ i = .int .i64 (k : Int) ∧ z = .int .i64 0 ∧ n = .int .u64 (acc : Int) ∧ Num.take s.data.toList = Num.tk k acc (s.data.toList.drop k)) (fun _ _ i => s.size - (intOf i).toNat)
  case atStart => exact ⟨0, 0, Nat.zero_le _, Nat.zero_le _, by simp, rfl, rfl, rfl, by simp [Num.take]⟩
  case round =>
    obtain ⟨k, acc, hk, hk9, hacc, rfl, rfl, rfl, ht⟩ := hrel
    have HT : Hid (Num.take s.data.toList = Num.tk k acc (s.data.toList.drop k)) := ht
    have HA : Hid (acc < 2 ^ (7 * k)) := hacc
    clear ht hacc
    by_cases hlt : k < s.size
    · have hb := s[k].toNat_lt
      have HD : Hid (s.data.toList.drop k = s[k] :: s.data.toList.drop (k + 1)) := drop_cons s k hlt
      by_cases h9 : k = 9 ∧ 1 < s[k].toNat
      · have hk9 : ((k : Int) == 9) = true := beq_iff_eq.2 (by omega)
        have h1 : (1 : Int) < (s[k].toNat : Int) := by omega
        have HN : Hid (Num.take s.data.toList = none) := by rw [Hid, HT.out, HD.out, Num.tk, if_pos h9]
        clear h9
        go_wp2
        go_ret3
        exact ⟨takeV_none HN.out, Below.refl _ _⟩
      · by_cases h0 : 0 < k ∧ s[k].toNat = 0
        · have hkp : (0 : Int) < (k : Int) := by omega
          have hle : ¬ (1 : Int) < (s[k].toNat : Int) := by omega
          have e0 : ((s[k].toNat : Int) == 0) = true := beq_iff_eq.2 (by omega)
          have HN : Hid (Num.take s.data.toList = none) := by rw [Hid, HT.out, HD.out, Num.tk, if_neg h9, if_pos h0]
          clear h9 h0
          go_wp2
          all_goals
            go_ret3
            exact ⟨takeV_none HN.out, Below.refl _ _⟩
        · by_cases h128 : s[k].toNat < 128
          · have HN : Hid (Num.take s.data.toList = some (acc + s[k].toNat * 2 ^ (7 * k), s.data.toList.drop (k + 1))) := by rw [Hid, HT.out, HD.out, Num.tk, if_neg h9, if_neg h0, if_pos h128]
            have HV : Hid (bits .or .u64 (acc : Int) (IntKind.u64.wrap ((s[k].toNat : Int) * 2 ^ (7 * k))) = ((acc + s[k].toNat * 2 ^ (7 * k) : Nat) : Int)) := or_add k acc _ HA.out (acc_lt HA.out hk9 h128 (by omega))
            have e0 : 0 < k → ((s[k].toNat : Int) == 0) = false := fun h => beq_eq_false_iff_ne.2 (by omega)
            have e9 : k = 9 → ¬ (1 : Int) < (s[k].toNat : Int) := fun h => by omega
            by_cases hk0 : 0 < k
            · have e0' := e0 hk0
              by_cases hk9' : k = 9
              · have e9' := e9 hk9'
                have hk9 : ((k : Int) == 9) = true := beq_iff_eq.2 (by omega)
                have HK : Hid (k = 9) := hk9'
                clear h9 h0 e0 e9 hk9'
                go_wp2
                go_region
                all_goals
                  go_wp2
                  rw [Exit.noGoto_ret]
                  go_ret3
                  exact ⟨takeV_some HN.out HV.out (extract_bs s _), by first | exact Below.refl _ _ | exact (Below.refl _ _).drew⟩
              · have hk9 : ((k : Int) == 9) = false := beq_eq_false_iff_ne.2 (by omega)
                clear h9 h0 e0 e9
                go_wp2
                go_region
                all_goals
                  go_wp2
                  rw [Exit.noGoto_ret]
                  go_ret3
                  exact ⟨takeV_some HN.out HV.out (extract_bs s _), by first | exact Below.refl _ _ | exact (Below.refl _ _).drew⟩
            · have hk9 : ((k : Int) == 9) = false := beq_eq_false_iff_ne.2 (by omega)
              clear h9 h0 e0 e9
              go_wp2
              go_region
              all_goals
                go_wp2
                rw [Exit.noGoto_ret]
                go_ret3
                exact ⟨takeV_some HN.out HV.out (extract_bs s _), by first | exact Below.refl _ _ | exact (Below.refl _ _).drew⟩
          · have hk9' : ((k : Int) == 9) = false := beq_eq_false_iff_ne.2 (by omega)
            have e0 : ((s[k].toNat : Int) == 0) = false := beq_eq_false_iff_ne.2 (by omega)
            have HN : Hid (Num.take s.data.toList = Num.tk (k + 1) (acc + (s[k].toNat - 128) * 2 ^ (7 * k)) (s.data.toList.drop (k + 1))) := by rw [Hid, HT.out, HD.out, Num.tk, if_neg h9, if_neg h0, if_neg h128]
            have HV : Hid (bits .or .u64 (acc : Int) (IntKind.u64.wrap (((s[k].toNat : Int) - 128) * 2 ^ (7 * k))) = ((acc + (s[k].toNat - 128) * 2 ^ (7 * k) : Nat) : Int)) := by
              have e : ((s[k].toNat : Int) - 128) = ((s[k].toNat - 128 : Nat) : Int) := by omega
              rw [Hid, e]
              exact or_add k acc _ HA.out (acc_lt HA.out hk9 (by omega) (by omega))
            have hk8 : k ≤ 8 := by omega
            clear h9 h0
            go_wp2
            all_goals
              go_round
              case rel => exact ⟨k + 1, acc + (s[k].toNat - 128) * 2 ^ (7 * k), by omega, by omega, acc_step HA.out (by omega), by go_num, rfl, by rw [HV.out], HN.out⟩
              case measure => simp [intOf]; omega
    · have HN : Hid (Num.take s.data.toList = none) := by rw [Hid, HT.out, List.drop_eq_nil_of_le (by simp; omega), Num.tk]
      go_wp2
      go_ret3
      exact ⟨takeV_none HN.out, Below.refl _ _⟩
end Go.Proofs.Ytjbdofjheeljkaa
