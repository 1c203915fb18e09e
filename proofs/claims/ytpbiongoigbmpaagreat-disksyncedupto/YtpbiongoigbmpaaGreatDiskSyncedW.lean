/-
  All that is synced stays.
-/
import Derived.Test.YtpbiongoigbmpaaGreatDskRunW
import Derived.Test.YtpbiongoigbmpaaGreatDskTwoW
import Derived.Test.YtpbiongoigbmpaaGreatDskKinds
namespace Go.Proofs.YtpbiongoigbmpaaGreat
open Go.RowKit
open Dsk (By Dk)

set_option maxRecDepth 100000 in
set_option maxHeartbeats 800000 in
theorem walkDiskSynced (room : Int) (a0 : Option Addr) (cap0 : Nat) (l : List Ac) (k : Int) (ka : Option Addr) (kc : Nat) (ks : List Int) (w : World) (hr : -9223372036854775808 ≤ room ∧ room ≤ 9223372036854775807) (ha : ActsAt w a0 l) (hl : l.length ≤ 9223372036854775807) (hok : ∀ p ∈ l, AcOk p)
    (hks : KeepAt w ka ks) (hkl : ks.length ≤ 9223372036854775807) (hc : l.length + acSum l ≤ 10000000) :
    Calls Tryz.prog 5 #[.int .i64 room, .slice a0 l.length cap0, .agg #[.int .i64 k, .slice ka ks.length kc]] w fun e w' => e = .returned (.bool true) ∧ Below w.heap.size w w' := by
  have HA := hide ha
  have HOK := hide hok
  have HKS := hide hks
  have bK : ∀ o, Below w.heap.size w (w.alloc o) := fun o => (Below.refl _ w).alloc (Nat.le_refl _) o
  have HBK := hide bK
  clear ha hok hks bK
  go_enter Tryz.func5, Tryz.ntmps5
  go_wp2_with fail
  have y0 : (w.alloc (.cells #[.int .i64 k, .slice ka ks.length kc] 36)).cell? ⟨w.heap.size, 0, none⟩ = some (.int .i64 k) := by simp
  have y1 : (w.alloc (.cells #[.int .i64 k, .slice ka ks.length kc] 36)).cell? ⟨w.heap.size, 1, none⟩ = some (.slice ka ks.length kc) := by simp
  have b0 := HBK.out (.cells #[.int .i64 k, .slice ka ks.length kc] 36)
  have s0 : w.heap.size < (w.alloc (.cells #[.int .i64 k, .slice ka ks.length kc] 36)).heap.size := by simp
  obtain ⟨w0, hw0⟩ : ∃ w0, w.alloc (.cells #[.int .i64 k, .slice ka ks.length kc] 36) = w0 := ⟨_, rfl⟩
  rw [hw0] at y0 y1 b0 s0 ⊢
  clear hw0
  refine (dshown_any _).mono ?_
  rintro e w1 ⟨rfl, hb1⟩
  have HB0 := hide b0
  have Y0 := hide y0
  have Y1 := hide y1
  clear b0 y0 y1
  go_wp2_with fail
  refine (light_any cap0 (HA.out.below (bl HB0.out hb1)) hl HOK.out).mono ?_
  rintro e w2 ⟨b, rfl, hli, hb2⟩
  have HB2 := hide (bl hb1 hb2)
  clear hb1 hb2 hli
  go_wp2_with fail
  refine (run_any cap0 room hr.2 (HA.out.below (bl HB0.out HB2.out)) HOK.out hc).mono ?_
  rintro e w3 ⟨pd, S, rfl, hd3, ho3⟩
  obtain ⟨D, hD⟩ : ∃ D, runA l (Dsk.fresh room) = D := ⟨_, rfl⟩
  rw [hD] at hd3
  obtain ⟨c, hcc⟩ : ∃ c, l.length + acSum l = c := ⟨_, rfl⟩
  rw [hcc] at hd3 hc
  clear hD hcc
  have HD3 := hide hd3
  have HO3 := hide ho3
  clear hd3 ho3
  cases b with
  | false =>
    go_wp2
    go_ret
    exact ⟨rfl, bl HB0.out (bl HB2.out HO3.out.below)⟩
  | true =>
    go_wp2_with fail
    refine (fail_dk HD3.out 0 (by omega)).mono ?_
    rintro e w4 ⟨rfl, hd4, ho4⟩
    have HD4 := hide hd4
    have HO4 := hide (HO3.out.only ho4)
    clear hd4 ho4
    go_wp2_with fail
    refine (stop_dk HD4.out (-1) (by omega)).mono ?_
    rintro e w5 ⟨rfl, hd5, ho5⟩
    have HY := hide (Dsk.Synced.start HD3.out.ok)
    obtain ⟨D5, hD5⟩ : ∃ D5, Dsk.setStop (-1) (Dsk.setFail 0 D) = D5 := ⟨_, rfl⟩
    rw [hD5] at hd5 HY
    have hli : Dsk.list D5 = Dsk.list D := by rw [← hD5]; rfl
    have hlen : (Dsk.list D).length ≤ c := HD3.out.listLe
    have HD5 := hide hd5
    have HO5 := hide (HO4.out.only ho5)
    have HOK3 := hide HD3.out.ok
    clear hd5 ho5 hD5 HD3 HD4
    go_wp2_with fail
    refine (list_dk HD5.out (by omega)).mono ?_
    rintro e w6 ⟨v, rfl, ho, hb⟩
    obtain ⟨ta, tc, rfl, htx⟩ := txk_of ho HD5.out.lt
    rw [hli] at htx ⊢
    clear hli
    have HT6 := hide htx
    have HD6 := hide (HD5.out.below hb)
    have HO6 := hide (HO5.out.then hb)
    clear ho hb htx
    go_wp2
    go_loopw [11] (fun v wr => ∃ (i : Nat) (C : Dk) (S : Nat → Prop), i ≤ (Dsk.list D).length ∧ v = .int .i64 (i : Int) ∧ Hid (IsDk S wr pd C (c + i)) ∧ Hid (Own w2 S wr) ∧ Hid (TxK S wr ta (Dsk.list D)) ∧ Hid (Dsk.Synced D C ((Dsk.list D).take i))) (fun v _ => (Dsk.list D).length - (intOf v).toNat)
    case atStart => exact ⟨0, _, _, Nat.zero_le _, rfl, HD6, HO6, HT6, HY⟩
    case round =>
      obtain ⟨i, C, S', hi, rfl, HD, HO, HT, HSY⟩ := hrel
      clear HY HT6 HD6 HO6 HD5 HO5
      by_cases hlt : i < (Dsk.list D).length
      · obtain ⟨tg, to, t1, t2⟩ := HT.out
        obtain ⟨rfl, hg, _⟩ := t1 (by omega)
        have hcy := t2 i hlt
        have hmem := List.getElem_mem hlt
        have htk : (Dsk.list D).take (i + 1) = (Dsk.list D).take i ++ [(Dsk.list D)[i]] := List.take_succ_eq_append_getElem hlt
        obtain ⟨n, hn⟩ : ∃ n, (Dsk.list D)[i] = n := ⟨_, rfl⟩
        rw [hn] at hcy hmem htk
        have hns := lname_size HOK3.out hmem
        obtain ⟨q1, q2⟩ := HSY.out.next hmem
        rw [← htk] at q2
        have Q1 := hide q1
        have Q2 := hide q2
        clear hn hmem t1 t2 hg q1 q2 htk
        go_wp2_with fail
        refine (sync_dk HD.out n (by unfold maxLen; omega) (by omega)).mono ?_
        rintro e w7 ⟨rfl, hd7, ho7⟩
        rw [Q1.out]
        have HD7 := hide hd7
        have HO7 := hide (HO.out.next ho7)
        have HT7 := hide (HT.out.only ho7)
        clear hd7 ho7 hcy
        go_wp2
        go_roundw
        case rel => exact ⟨i + 1, _, _, by omega, by go_num, HD7, HO7, HT7, Q2⟩
        case measure => simp [intOf]; omega
      · obtain rfl : i = (Dsk.list D).length := by omega
        have hsy := HSY.out
        rw [List.take_length] at hsy
        obtain ⟨z0, z1, z2, z3, z4, z5, z6⟩ := hsy.crash HOK3.out k ks
        have Z0 := hide z0
        have Z1 := hide z1
        have Z3 := hide z3
        have Z4 := hide z4
        have Z5 := hide z5
        have Z6 := hide z6
        clear hsy z0 z1 z2 z3 z4 z5 z6
        go_wp2_with fail
        refine (syncDir_dk HD.out (by omega)).mono ?_
        rintro e w7 ⟨rfl, hd7, ho7⟩
        rw [Z0.out]
        obtain ⟨E, hE⟩ : ∃ E, (Dsk.syncDir C).1 = E := ⟨_, rfl⟩
        rw [hE] at hd7 Z1 Z3 Z4 Z5 Z6
        have HD7 := hide hd7
        have HO7 := hide (HO.out.next ho7)
        have HT7 := hide (HT.out.only ho7)
        clear hd7 ho7 hE
        have y0 := (HO7.out.below.cell (p := ⟨w.heap.size, 0, none⟩) (by have := HB2.out.size; simp only; omega)).trans ((HB2.out.cell (p := ⟨w.heap.size, 0, none⟩) (by simp only; omega)).trans Y0.out)
        have y1 := (HO7.out.below.cell (p := ⟨w.heap.size, 1, none⟩) (by have := HB2.out.size; simp only; omega)).trans ((HB2.out.cell (p := ⟨w.heap.size, 1, none⟩) (by simp only; omega)).trans Y1.out)
        go_wp2_with fail
        refine (crash_dk HD7.out (by omega) k ka kc ks (HKS.out.below (bl HB0.out (bl HB2.out HO7.out.below))) hkl).mono ?_
        rintro e w8 ⟨pa, rfl, hd8, hb8⟩
        obtain ⟨A, hA⟩ : ∃ A, Dsk.crash k ks E = A := ⟨_, rfl⟩
        rw [hA] at hd8 Z3 Z4 Z5 Z6
        have HA8 := hide hd8
        have HD8 := hide (HD7.out.below hb8)
        have HB8 := hide (bl HO7.out.below hb8)
        have HT8 := hide (HT7.out.txts.below hb8)
        clear hd8 hb8 hA y0 y1
        have hla : (Dsk.list A).length ≤ 1000000000000 := by have := HA8.out.listLe; omega
        go_wp2_with fail
        refine (list_dk HA8.out (by omega)).mono ?_
        rintro e w9 ⟨v, rfl, ho, hb⟩
        obtain ⟨ua, uc, rfl, htx⟩ := txts_of ho
        have HT9 := hide htx
        have HT89 := hide (HT8.out.below hb)
        have HA9 := hide (HA8.out.below hb)
        have HD9 := hide (HD8.out.below hb)
        have HB9 := hide (bl HB8.out hb)
        clear ho hb htx
        go_wp2_with fail
        refine (same_any uc tc (la := Dsk.list A) (lb := Dsk.list D) HT9.out HT89.out hla (by omega)).mono ?_
        rintro e w10 ⟨rfl, hb⟩
        rw [decide_eq_true Z3.out]
        have HT10 := hide (HT89.out.below hb)
        have HA10 := hide (HA9.out.below hb)
        have HD10 := hide (HD9.out.below hb)
        have HB10 := hide (bl HB9.out hb)
        clear hb
        go_wp2_with fail
        refine (used_dk HA10.out).mono ?_
        rintro e wx ⟨rfl, hw⟩
        rw [hw, Z4.out]
        clear hw
        go_wp2_with fail
        refine (used_dk HD10.out).mono ?_
        rintro e wx ⟨rfl, hw⟩
        rw [hw, Z1.out]
        clear hw
        go_wp2_with fail
        refine (ops_dk HA10.out).mono ?_
        rintro e wx ⟨rfl, hw⟩
        rw [hw, Z5.out]
        clear hw
        obtain ⟨tg, to, t1, t2⟩ := HT10.out
        have T1 := hide t1
        have T2 := hide t2
        clear t1 t2
        go_wp2
        go_loopw [13] (fun v wr => ∃ (i : Nat), i ≤ (Dsk.list D).length ∧ v = .int .i64 (i : Int) ∧ Hid (Below w10.heap.size w10 wr)) (fun v _ => (Dsk.list D).length - (intOf v).toNat)
        case atStart => exact ⟨0, Nat.zero_le _, rfl, hide (Below.refl _ _)⟩
        case round =>
          obtain ⟨i, hi, rfl, HW⟩ := hrel
          by_cases hlt : i < (Dsk.list D).length
          · obtain ⟨rfl, hg⟩ := T1.out (by omega)
            have hcy := (HW.out.cell (p := ⟨tg, to + i, none⟩) hg).trans (T2.out i hlt)
            have hmem := List.getElem_mem hlt
            obtain ⟨n, hn⟩ : ∃ n, (Dsk.list D)[i] = n := ⟨_, rfl⟩
            rw [hn] at hcy hmem
            have hns := lname_size HOK3.out hmem
            obtain ⟨s, hs, ht⟩ := Z6.out n hmem
            have HS := hide hs
            have HST := hide ht
            clear hn hmem hs ht hg
            go_wp2_with fail
            refine (read_dk (HD10.out.below HW.out) n (by unfold maxLen; omega)).mono ?_
            rintro e wx ⟨rfl, hw⟩
            rw [hw, HS.out]
            clear hw
            go_wp2_with fail
            refine (read_dk (HA10.out.below HW.out) n (by unfold maxLen; omega)).mono ?_
            rintro e wx ⟨rfl, hw⟩
            rw [hw, HST.out]
            clear hw
            go_wp2
            go_roundw
            case rel => exact ⟨i + 1, by omega, by go_num, HW⟩
            case measure => simp [intOf]; omega
          · go_wp2
            go_ret
            exact ⟨rfl, bl HB0.out (bl HB2.out (bl HB10.out HW.out))⟩

end Go.Proofs.YtpbiongoigbmpaaGreat
