/-
  What is left when the power went stays.
-/
import Derived.Test.YtpbiongoigbmpaaGreatDskRunW
import Derived.Test.YtpbiongoigbmpaaGreatDskTwoW
import Derived.Test.YtpbiongoigbmpaaGreatDskKinds
namespace Go.Proofs.YtpbiongoigbmpaaGreat
open Go.RowKit
open Dsk (By Dk)

set_option maxRecDepth 100000 in
set_option maxHeartbeats 800000 in
theorem walkDiskTwice (room : Int) (a0 : Option Addr) (cap0 : Nat) (l : List Ac) (k : Int) (ka : Option Addr) (kc : Nat) (ks : List Int) (j : Int) (ja : Option Addr) (jc : Nat) (js : List Int) (w : World) (hr : -9223372036854775808 ≤ room ∧ room ≤ 9223372036854775807) (ha : ActsAt w a0 l) (hl : l.length ≤ 9223372036854775807) (hok : ∀ p ∈ l, AcOk p)
    (hks : KeepAt w ka ks) (hkl : ks.length ≤ 9223372036854775807) (hjs : KeepAt w ja js) (hjl : js.length ≤ 9223372036854775807) (hc : l.length + acSum l ≤ 10000000) :
    Calls Tryz.prog 6 #[.int .i64 room, .slice a0 l.length cap0, .agg #[.int .i64 k, .slice ka ks.length kc], .agg #[.int .i64 j, .slice ja js.length jc]] w fun e w' => e = .returned (.bool true) ∧ Below w.heap.size w w' := by
  have HA := hide ha
  have HOK := hide hok
  have HKS := hide hks
  have HJS := hide hjs
  have bK : ∀ o o', Below w.heap.size w ((w.alloc o).alloc o') := fun o o' => ((Below.refl _ w).alloc (Nat.le_refl _) o).alloc (by simp) o'
  have HBK := hide bK
  clear ha hok hks hjs bK
  go_enter Tryz.func6, Tryz.ntmps6
  go_wp2_with fail
  have y0 : ((w.alloc (.cells #[.int .i64 k, .slice ka ks.length kc] 36)).alloc (.cells #[.int .i64 j, .slice ja js.length jc] 36)).cell? ⟨w.heap.size, 0, none⟩ = some (.int .i64 k) := by simp
  have y1 : ((w.alloc (.cells #[.int .i64 k, .slice ka ks.length kc] 36)).alloc (.cells #[.int .i64 j, .slice ja js.length jc] 36)).cell? ⟨w.heap.size, 1, none⟩ = some (.slice ka ks.length kc) := by simp
  have x0 : ((w.alloc (.cells #[.int .i64 k, .slice ka ks.length kc] 36)).alloc (.cells #[.int .i64 j, .slice ja js.length jc] 36)).cell? ⟨w.heap.size + 1, 0, none⟩ = some (.int .i64 j) := by simp
  have x1 : ((w.alloc (.cells #[.int .i64 k, .slice ka ks.length kc] 36)).alloc (.cells #[.int .i64 j, .slice ja js.length jc] 36)).cell? ⟨w.heap.size + 1, 1, none⟩ = some (.slice ja js.length jc) := by simp
  have b0 := HBK.out (.cells #[.int .i64 k, .slice ka ks.length kc] 36) (.cells #[.int .i64 j, .slice ja js.length jc] 36)
  have s0 : w.heap.size + 1 < ((w.alloc (.cells #[.int .i64 k, .slice ka ks.length kc] 36)).alloc (.cells #[.int .i64 j, .slice ja js.length jc] 36)).heap.size := by simp
  obtain ⟨w0, hw0⟩ : ∃ w0, (w.alloc (.cells #[.int .i64 k, .slice ka ks.length kc] 36)).alloc (.cells #[.int .i64 j, .slice ja js.length jc] 36) = w0 := ⟨_, rfl⟩
  rw [hw0] at y0 y1 x0 x1 b0 s0 ⊢
  clear hw0
  refine (dshown_any _).mono ?_
  rintro e w1 ⟨rfl, hb1⟩
  have HB0 := hide b0
  clear b0
  go_wp2_with fail
  refine (light_any cap0 (HA.out.below (bl HB0.out hb1)) hl HOK.out).mono ?_
  rintro e w2 ⟨b, rfl, hli, hb2⟩
  have HB2 := hide (bl hb1 hb2)
  clear hb1 hb2 hli
  go_wp2_with fail
  refine (run_any cap0 room hr.2 (HA.out.below (bl HB0.out HB2.out)) HOK.out hc).mono ?_
  rintro e w3 ⟨pd, S, rfl, hd3, ho3⟩
  obtain ⟨D, hD⟩ : ∃ D, runA l (Dsk.fresh room) = D := ⟨_, rfl⟩
  rw [hD] at hd3
  obtain ⟨c, hcc⟩ : ∃ c, l.length + acSum l = c := ⟨_, rfl⟩
  rw [hcc] at hd3 hc
  clear hD hcc
  have HD3 := hide hd3
  have HB3 := hide (bl HB2.out ho3.below)
  clear hd3 ho3
  cases b with
  | false =>
    go_wp2
    go_ret
    exact ⟨rfl, bl HB0.out HB3.out⟩
  | true =>
    replace y0 := (HB3.out.cell (p := ⟨w.heap.size, 0, none⟩) (by simp only; omega)).trans y0
    replace y1 := (HB3.out.cell (p := ⟨w.heap.size, 1, none⟩) (by simp only; omega)).trans y1
    go_wp2_with fail
    refine (crash_dk HD3.out (by omega) k ka kc ks (HKS.out.below (bl HB0.out HB3.out)) hkl).mono ?_
    rintro e w4 ⟨pa, rfl, hd4, hb4⟩
    obtain ⟨A, hA⟩ : ∃ A, Dsk.crash k ks D = A := ⟨_, rfl⟩
    have hAA : Dsk.crash j js A = A := by rw [← hA]; exact Dsk.crash_crash _ _ _ _ _
    have hAl : A.left = -1 := by rw [← hA]; rfl
    rw [hA] at hd4
    have HD4 := hide hd4
    have HB4 := hide (bl HB3.out hb4)
    have HAA := hide hAA
    have HAL := hide hAl
    clear hd4 hb4 hA hAA hAl y0 y1
    replace x0 := (HB4.out.cell (p := ⟨w.heap.size + 1, 0, none⟩) (by simp only; omega)).trans x0
    replace x1 := (HB4.out.cell (p := ⟨w.heap.size + 1, 1, none⟩) (by simp only; omega)).trans x1
    go_wp2_with fail
    refine (crash_dk HD4.out (by omega) j ja jc js (HJS.out.below (bl HB0.out HB4.out)) hjl).mono ?_
    rintro e w5 ⟨pb, rfl, hd5, hb5⟩
    rw [HAA.out] at hd5
    have HD5 := hide hd5
    have HA5 := hide (HD4.out.below hb5)
    have HB5 := hide (bl HB4.out hb5)
    clear hd5 hb5 x0 x1
    have hla : (Dsk.list A).length ≤ 1000000000000 := by have := HA5.out.listLe; omega
    go_wp2_with fail
    refine (list_dk HA5.out (by omega)).mono ?_
    rintro e w6 ⟨v, rfl, ho, hb⟩
    obtain ⟨va, vc, rfl, htx⟩ := txts_of ho
    have HT6 := hide htx
    have HA6 := hide (HA5.out.below hb)
    have HD6 := hide (HD5.out.below hb)
    have HB6 := hide (bl HB5.out hb)
    clear ho hb htx
    go_wp2_with fail
    refine (list_dk HD6.out (by omega)).mono ?_
    rintro e w7 ⟨v, rfl, ho, hb⟩
    obtain ⟨ua, uc, rfl, htx⟩ := txts_of ho
    have HT7 := hide htx
    have HT67 := hide (HT6.out.below hb)
    have HA7 := hide (HA6.out.below hb)
    have HD7 := hide (HD6.out.below hb)
    have HB7 := hide (bl HB6.out hb)
    clear ho hb htx
    go_wp2_with fail
    refine (same_any vc uc (la := Dsk.list A) (lb := Dsk.list A) HT67.out HT7.out hla hla).mono ?_
    rintro e w8 ⟨rfl, hb⟩
    rw [decide_eq_true rfl]
    have HA8 := hide (HA7.out.below hb)
    have HD8 := hide (HD7.out.below hb)
    have HB8 := hide (bl HB7.out hb)
    clear hb
    go_wp2_with fail
    refine (used_dk HA8.out).mono ?_
    rintro e w9 ⟨rfl, hw⟩
    rw [hw]
    clear hw
    go_wp2_with fail
    refine (used_dk HD8.out).mono ?_
    rintro e w9 ⟨rfl, hw⟩
    rw [hw]
    clear hw
    go_wp2_with fail
    refine (list_dk HA8.out (by omega)).mono ?_
    rintro e w9 ⟨v, rfl, ho, hb⟩
    obtain ⟨ta, tc, rfl, htx⟩ := txts_of ho
    obtain ⟨tg, to, t1, t2⟩ := htx
    have T1 := hide t1
    have T2 := hide t2
    have HA9 := hide (HA8.out.below hb)
    have HD9 := hide (HD8.out.below hb)
    have HB9 := hide (bl HB8.out hb)
    clear ho hb t1 t2
    go_wp2
    go_loopw [15] (fun v wr => ∃ (i : Nat), i ≤ (Dsk.list A).length ∧ v = .int .i64 (i : Int) ∧ Hid (Below w9.heap.size w9 wr)) (fun v _ => (Dsk.list A).length - (intOf v).toNat)
    case atStart => exact ⟨0, Nat.zero_le _, rfl, hide (Below.refl _ _)⟩
    case round =>
      obtain ⟨i, hi, rfl, HW⟩ := hrel
      by_cases hlt : i < (Dsk.list A).length
      · obtain ⟨rfl, hg⟩ := T1.out (by omega)
        have hcy := (HW.out.cell (p := ⟨tg, to + i, none⟩) hg).trans (T2.out i hlt)
        have hmem := List.getElem_mem hlt
        obtain ⟨n, hn⟩ : ∃ n, (Dsk.list A)[i] = n := ⟨_, rfl⟩
        rw [hn] at hcy hmem
        have hns := lname_size HA9.out.ok hmem
        obtain ⟨s, hs⟩ := read_there HA9.out.ok (by rw [HAL.out]; omega) hmem
        have HS := hide hs
        clear hn hmem hs hg
        go_wp2_with fail
        refine (read_dk (HA9.out.below HW.out) n (by unfold maxLen; omega)).mono ?_
        rintro e wx ⟨rfl, hw⟩
        rw [hw, HS.out]
        clear hw
        go_wp2_with fail
        refine (read_dk (HD9.out.below HW.out) n (by unfold maxLen; omega)).mono ?_
        rintro e wx ⟨rfl, hw⟩
        rw [hw, HS.out]
        clear hw
        go_wp2
        go_roundw
        case rel => exact ⟨i + 1, by omega, by go_num, HW⟩
        case measure => simp [intOf]; omega
      · go_wp2
        go_ret
        exact ⟨rfl, bl HB0.out (bl HB9.out HW.out)⟩

end Go.Proofs.YtpbiongoigbmpaaGreat
