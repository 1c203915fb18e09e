/-
  What the document's own Take (postroomref1) does: the same as num's.
-/
import Derived.Test.YtdpkpcoadojkhaaDoorTakeCW
import Derived.Test.YtdpkpcoadojkhaaDoorRefPutW
import Derived.Deep.RegionWith
import Derived.Deep.DeepCutAuto
namespace Go.Proofs.YtdpkpcoadojkhaaDoor
open Go.RowKit

/-- The bytes behind place i, up to k. -/
def seg (l : List UInt8) (k i : Nat) : List UInt8 := (l.take (k + 1)).drop i
theorem seg_all (l : List UInt8) (k : Nat) : seg l k 0 = l.take (k + 1) := by simp [seg]
theorem seg_none (l : List UInt8) (k : Nat) : seg l k (k + 1) = [] := by
  unfold seg; apply List.drop_eq_nil_of_le; simp; omega
theorem seg_cons (l : List UInt8) (k i : Nat) (hi : i ≤ k) (hk : k < l.length) : seg l k i = l[i] :: seg l k (i + 1) := by
  unfold seg
  rw [List.drop_eq_getElem_cons (by simp; omega)]
  simp
theorem val_cons_mod (b : UInt8) (t : List UInt8) : (128 * (Num.val t % 18446744073709551616) + b.toNat % 128) % 18446744073709551616 = Num.val (b :: t) % 18446744073709551616 := by
  simp only [Num.val]; omega

theorem wrap_val (V b : Nat) : IntKind.u64.wrap (IntKind.u64.wrap (128 * (V : Int)) + (b : Int) % 128) = (((128 * V + b % 128) % 18446744073709551616 : Nat) : Int) := by
  rw [IntKind.wrap_u64, IntKind.wrap_u64]; omega

theorem extract_front (s : ByteArray) (k : Nat) : s.extract 0 k = Num.bs (s.data.toList.take k) := by
  apply ByteArray.ext
  apply Array.ext'
  simp [Num.bs]

set_option maxRecDepth 100000 in
set_option maxHeartbeats 1600000 in
theorem refTake_any (s : ByteArray) (w : World) (hs : s.size ≤ maxLen) :
    Calls Tryd.prog 27 #[.string s] w fun e w' => e = .returned (takeV s.data.toList) ∧ Below w.heap.size w w' := by
  unfold maxLen at hs
  go_enter Tryd.func27, Tryd.ntmps27
  go_wp2
  go_loop [5] (fun x => ∃ k : Nat, x = .int .i64 (k : Int) ∧ k ≤ s.size ∧ k ≤ 10 ∧ (∀ i (hi : i < s.data.toList.length), i < k → 128 ≤ (s.data.toList[i]).toNat)) (fun x => s.size - (intOf x).toNat)
  case atStart => exact ⟨0, rfl, Nat.zero_le _, Nat.zero_le _, fun i _ h => by omega⟩
  case round =>
    obtain ⟨k, rfl, hk, hk10, hall⟩ := hrel
    have HA := hide hall
    clear hall
    by_cases hlt : k < s.size
    · have hkl : k < s.data.toList.length := by simpa using hlt
      by_cases hk9 : k < 10
      · by_cases hb : 128 ≤ s[k].toNat
        · go_wp2
          go_round
          case rel => exact ⟨k + 1, by go_num, by omega, by omega, fun i hi h => by
            by_cases e : i = k
            · subst e; exact hb
            · exact unhide HA i hi (by omega)⟩
          case measure => simp [intOf]; omega
        · -- the last byte stands at k
          go_wp2
          go_loop [6, 7] (fun n i => ∃ (j : Nat), j ≤ k + 1 ∧ i = .int .i64 ((j : Int) - 1) ∧ n = .int .u64 ((Num.val (seg s.data.toList k j) % 18446744073709551616 : Nat) : Int)) (fun _ i => (intOf i + 1).toNat)
          case atStart => exact ⟨k + 1, Nat.le_refl _, by go_num, by rw [seg_none]; rfl⟩
          case round =>
            obtain ⟨j, hj, rfl, rfl⟩ := hrel
            by_cases hj0 : 0 < j
            · have hc := seg_cons s.data.toList k (j - 1) (by omega) hkl
              rw [show j - 1 + 1 = j from by omega] at hc
              have HC := hide hc
              clear hc
              generalize hV : Num.val (seg s.data.toList k j) % 18446744073709551616 = V at *
              have hVl : V < 18446744073709551616 := by omega
              have HV := hide hV
              clear hV
              go_wp2
              go_round
              case rel => exact ⟨j - 1, by omega, by go_num, by
                rw [unhide HC, ← val_cons_mod, unhide HV]
                exact congrArg (Value.int IntKind.u64) (wrap_val V _)⟩
              case measure => simp [intOf]; omega
            · obtain rfl : j = 0 := by omega
              rw [seg_all]
              generalize hV : Num.val (s.data.toList.take (k + 1)) % 18446744073709551616 = V at *
              have hVl : V < 18446744073709551616 := by omega
              have hT := Num.take_at hkl (unhide HA) (by exact Nat.not_le.1 hb) hV.symm
              clear hV
              have hw1 : IntKind.i64.wrap ((k : Int) + 1) = ((k + 1 : Nat) : Int) := by rw [IntWalk.i64_in _ ⟨by omega, by omega⟩]; omega
              have hle : ((k + 1 : Nat) : Int) ≤ (s.size : Int) := by omega
              have hle2 : k + 1 ≤ s.size := by omega
              by_cases hp : Num.put V = s.data.toList.take (k + 1)
              · have HT := hide (hT.1 hp)
                have hq : ((Num.bs (Num.put V)).toList == (s.extract 0 (k + 1)).toList) = true := by rw [extract_front, hp]; simp
                clear hT hp
                go_wp2_with fail
                go_cut [51] (fun t wc => t = .bool false ∧ Below w.heap.size w wc)
                case first =>
                  go_region_with (go_at_call 25; refine (refPut_any _ _ hVl).mono ?_; rintro e w1 ⟨rfl, hb1⟩)
                  all_goals
                    have hbz := bl (Below.refl _ _).drew (by assumption)
                    go_wp2_with fail
                    go_meet
                    case rel => exact ⟨rfl, hbz⟩
                case rest =>
                  obtain ⟨rfl, hbz⟩ := hcut
                  go_wp2
                  go_region
                  all_goals
                    go_wp2
                    go_ret3
                    exact ⟨takeV_some (unhide HT) rfl (extract_bs s _), by first | exact hbz | exact hbz.drew⟩
              · have HT := hide (hT.2 hp)
                have hq : ((Num.bs (Num.put V)).toList == (s.extract 0 (k + 1)).toList) = false := by
                  rw [extract_front, ByteArray.toList_eq, ByteArray.toList_eq, Num.bs_toList, Num.bs_toList]
                  exact beq_eq_false_iff_ne.2 hp
                clear hT hp
                go_wp2_with fail
                go_cut [51] (fun t wc => t = .bool true ∧ Below w.heap.size w wc)
                case first =>
                  go_region_with (go_at_call 25; refine (refPut_any _ _ hVl).mono ?_; rintro e w1 ⟨rfl, hb1⟩)
                  all_goals
                    have hbz := bl (Below.refl _ _).drew (by assumption)
                    go_wp2_with fail
                    go_meet
                    case rel => exact ⟨rfl, hbz⟩
                case rest =>
                  obtain ⟨rfl, hbz⟩ := hcut
                  go_wp2
                  go_ret3
                  exact ⟨takeV_none (unhide HT), hbz⟩
      · have HN : Hid (Num.take s.data.toList = none) := Num.take_on (Or.inr (by omega)) (unhide HA)
        go_wp2
        go_ret3
        exact ⟨takeV_none HN.out, Below.refl _ _⟩
    · have HN : Hid (Num.take s.data.toList = none) := Num.take_on (k := k) (Or.inl (by simp; omega)) (unhide HA)
      go_wp2
      go_ret3
      exact ⟨takeV_none HN.out, Below.refl _ _⟩
end Go.Proofs.YtdpkpcoadojkhaaDoor
