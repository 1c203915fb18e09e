/-
  No more bytes are there than there is room.
-/
import Derived.Test.YtpbiongoigbmpaaDskRunW
import Derived.Test.YtpbiongoigbmpaaDskRoomM
import Derived.Test.YtpbiongoigbmpaaBytesW
namespace Go.Proofs.Ytpbiongoigbmpaa
open Go.RowKit
open Dsk (By Dk)

theorem runA_room (l : List Ac) : ∀ D : Dk, (runA l D).room = D.room := by
  induction l with
  | nil => exact fun _ => rfl
  | cons x r ih => exact fun D => (ih _).trans (Dsk.does_room ..)
theorem runA_fits (l : List Ac) : ∀ D : Dk, Dsk.Ok D → Dsk.Fits D → Dsk.Fits (runA l D) := by
  induction l with
  | nil => exact fun _ _ h => h
  | cons x r ih => exact fun D hk h => ih _ (Dsk.does_ok _ _ _ _ _ hk) (Dsk.does_fits _ _ _ _ _ hk h)
def nZ : ByteArray := ⟨#[122]⟩
theorem info_u8d : (Try.prog.info? 5).map (fun i => (i.zero, i.size, i.bytes)) = some (some (.int .u8 0), 1, 1) := by kernel_rfl
set_option maxRecDepth 100000 in
set_option maxHeartbeats 800000 in
theorem walkDiskRoom (room : Int) (a0 : Option Addr) (cap0 : Nat) (l : List Ac) (long : Int) (w : World) (hr : -9223372036854775808 ≤ room ∧ room ≤ 9223372036854775807) (ha : ActsAt w a0 l) (hl : l.length ≤ 9223372036854775807) (hok : ∀ p ∈ l, AcOk p)
    (hlo : -9223372036854775808 ≤ long ∧ long ≤ 9223372036854775807) (hc : l.length + acSum l ≤ 10000000) :
    Calls Try.prog 3 #[.int .i64 room, .slice a0 l.length cap0, .int .i64 long] w fun e w' => e = .returned (.bool true) ∧ Below w.heap.size w w' := by
  have HA := hide ha
  have HOK := hide hok
  clear ha hok
  obtain ⟨n, hn⟩ : ∃ n, pk room 300 = n := ⟨_, rfl⟩
  have hn3 : n < 300 := by rw [← hn]; exact pk_lt _ (by omega)
  have HN := hide hn
  obtain ⟨m, hm⟩ : ∃ m, pk long 310 = m := ⟨_, rfl⟩
  have hm3 : m < 310 := by rw [← hm]; exact pk_lt _ (by omega)
  have HM := hide hm
  clear hn hm
  go_enter Try.func3, Try.ntmps3
  go_wp2_with fail
  refine (dshown_any _).mono ?_
  rintro e w1 ⟨rfl, hb1⟩
  go_wp2_with fail
  refine (light_any cap0 (HA.out.below hb1) hl HOK.out).mono ?_
  rintro e w2 ⟨b, rfl, hli, hb2⟩
  have HB2 := hide (bl hb1 hb2)
  clear hb1 hb2 hli
  go_wp2_with fail
  refine (pick_any room 300 _ hr.1 hr.2 (by omega) (by omega)).mono ?_
  rintro e wx ⟨rfl, hw⟩
  rw [hw, HN.out]
  clear hw
  go_wp2_with fail
  refine (run_any cap0 (n : Int) (by omega) (HA.out.below HB2.out) HOK.out hc).mono ?_
  rintro e w3 ⟨pd, S, rfl, hd3, ho3⟩
  have hroom : (runA l (Dsk.fresh (n : Int))).room = n := by rw [runA_room]; rfl
  have hfit : Dsk.used (runA l (Dsk.fresh (n : Int))) ≤ n := by have := runA_fits l _ (Dsk.fresh_ok (n : Int)) (Dsk.fresh_fits _); unfold Dsk.Fits at this; rw [hroom] at this; exact this
  obtain ⟨D, hD⟩ : ∃ D, runA l (Dsk.fresh (n : Int)) = D := ⟨_, rfl⟩
  rw [hD] at hd3 hroom hfit
  obtain ⟨c, hcc⟩ : ∃ c, l.length + acSum l = c := ⟨_, rfl⟩
  rw [hcc] at hd3 hc
  obtain ⟨u, hu⟩ : ∃ u, Dsk.used D = u := ⟨_, rfl⟩
  rw [hu] at hfit
  have hpre : Dsk.Pre n u (Dsk.setStop (-1) (Dsk.setFail 0 D)) := ⟨Dsk.setStop_ok _ (Dsk.setFail_ok _ hd3.ok), hroom, hu, rfl, rfl⟩
  have HPRE := hide hpre
  have HD3 := hide hd3
  have HO3 := hide ho3
  clear hd3 ho3 hD hcc hu hroom hpre
  cases b with
  | false =>
    go_wp2
    go_ret
    exact ⟨rfl, bl HB2.out HO3.out.below⟩
  | true =>
    go_wp2_with fail
    refine (fail_dk HD3.out 0 (by omega)).mono ?_
    rintro e w4 ⟨rfl, hd4, ho4⟩
    have HD4 := hide hd4
    have HO4 := hide (HO3.out.only ho4)
    clear hd4 ho4
    go_wp2_with fail
    refine (stop_dk HD4.out (-1) (by omega)).mono ?_
    rintro e w5 ⟨rfl, hd5, ho5⟩
    obtain ⟨D5, hD5⟩ : ∃ D5, Dsk.setStop (-1) (Dsk.setFail 0 D) = D5 := ⟨_, rfl⟩
    rw [hD5] at hd5 HPRE
    have HD5 := hide hd5
    have HO5 := hide (HO4.out.only ho5)
    have HU5 := hide HPRE.out.used
    clear hd5 ho5 hD5 HD3 HD4
    go_wp2_with fail
    refine (used_dk HD5.out).mono ?_
    rintro e wx ⟨rfl, hw⟩
    rw [hw, HU5.out]
    clear hw
    go_wp2_with fail
    refine (create_dk HD5.out nZ (by decide) (by omega)).mono ?_
    rintro e w6 ⟨rfl, hd6, ho6⟩
    have hrd := HPRE.out.create (z := nZ) (by decide)
    obtain ⟨D6, hD6⟩ : ∃ D6, (Dsk.create nZ D5).1 = D6 := ⟨_, rfl⟩
    rw [hD6] at hd6 hrd
    have HR6 := hide hrd
    have HU6 := hide hrd.used
    have HD6 := hide hd6
    have HO6 := hide (HO5.out.next ho6)
    clear hd6 ho6 hD6 hrd HD5 HPRE HU5
    go_wp2_with fail
    refine (used_dk HD6.out).mono ?_
    rintro e wx ⟨rfl, hw⟩
    rw [hw, HU6.out]
    clear hw
    obtain ⟨free, hfree⟩ : ∃ free : Nat, free = n - u := ⟨_, rfl⟩
    have hfi : (n : Int) - (u : Int) = (free : Int) := by omega
    have hf1 : free + u ≤ n := by omega
    have hf2 : n ≤ free + u := by omega
    clear hfree
    go_wp2_with fail
    refine (pick_any long 310 _ hlo.1 hlo.2 (by omega) (by omega)).mono ?_
    rintro e wx ⟨rfl, hw⟩
    rw [hw, HM.out]
    clear hw
    obtain ⟨wm, hrun, hms, hmb, hBA⟩ := make_of (P := Try.prog) w6 32 5 m Try.underlying32 info_u8d (by omega)
    have hcv := hBA.conv (P := Try.prog) m 32 9 5 Try.underlying32 Try.underlying5 Try.underlying9
    rw [List.length_replicate] at hcv
    have HD7 := hide (HD6.out.below hmb)
    have HO7 := hide (HO6.out.then hmb)
    clear hms hmb hBA
    have hbl : (List.replicate m (0 : UInt8)).length = m := List.length_replicate
    generalize List.replicate m (0 : UInt8) = t at *
    have hts : (Num.bs t).size = m := by rw [Num.bs_size]; exact hbl
    go_wp2_with fail
    refine (append_dk HD7.out nZ (Num.bs t) (by decide) (by rw [hts]; omega)).mono ?_
    rintro e w8 ⟨rfl, hd8, ho8⟩
    rw [Num.bs_toList] at hd8 ⊢
    rw [hts] at hd8
    have HO8 := hide (HO7.out.next ho8)
    clear ho8 hcv hrun
    by_cases hlong : free < m
    · obtain ⟨z1, z2⟩ := HR6.out.full (s := t) (by rw [hbl]; omega)
      have Z1 := hide z1
      have Z2 := hide z2.used
      have HD8 := hide hd8
      clear hd8 z1 z2
      rw [Z1.out]
      have hnf : (n : Int) - (free : Int) = (u : Int) := by omega
      go_wp2_with fail
      refine (used_dk HD8.out).mono ?_
      rintro e wx ⟨rfl, hw⟩
      rw [hw, Z2.out]
      clear hw
      go_wp2
      go_ret
      exact ⟨by simp, bl HB2.out HO8.out.below⟩
    · obtain ⟨z1, z2⟩ := HR6.out.fits (s := t) (by rw [hbl]; omega)
      rw [hbl] at z2
      obtain ⟨D8, hD8⟩ : ∃ D8, (Dsk.append nZ t D6).1 = D8 := ⟨_, rfl⟩
      rw [hD8] at z2 hd8
      have Z1 := hide z1
      have HR8 := hide z2
      have HU8 := hide z2.used
      have HD8 := hide hd8
      clear hd8 z1 z2 hD8
      rw [Z1.out]
      have hnf : (n : Int) - (free : Int) + (m : Int) = ((u + m : Nat) : Int) := by omega
      go_wp2_with fail
      refine (used_dk HD8.out).mono ?_
      rintro e wx ⟨rfl, hw⟩
      rw [hw, HU8.out]
      clear hw
      obtain ⟨q, hq⟩ : ∃ q : Nat, q = free - m := ⟨_, rfl⟩
      obtain ⟨q1, hq1⟩ : ∃ q1 : Nat, q1 = q + 1 := ⟨_, rfl⟩
      have hqi : (free : Int) - (m : Int) = (q : Int) := by omega
      have hqj : (q : Int) + 1 = (q1 : Int) := by omega
      have hq2 : q + m ≤ free := by omega
      have hq3 : free ≤ q + m := by omega
      have hq4 : q1 ≤ q + 1 := by omega
      have hq5 : q + 1 ≤ q1 := by omega
      clear hq hq1
      obtain ⟨wm, hrun, hms, hmb, hBA⟩ := make_of (P := Try.prog) w8 32 5 q1 Try.underlying32 info_u8d (by omega)
      have hcv := hBA.conv (P := Try.prog) q1 32 9 5 Try.underlying32 Try.underlying5 Try.underlying9
      rw [List.length_replicate] at hcv
      have HD9 := hide (HD8.out.below hmb)
      have HO9 := hide (HO8.out.then hmb)
      clear hms hmb hBA
      have hbl2 : (List.replicate q1 (0 : UInt8)).length = q1 := List.length_replicate
      generalize List.replicate q1 (0 : UInt8) = t2 at *
      have hts2 : (Num.bs t2).size = q1 := by rw [Num.bs_size]; exact hbl2
      go_wp2_with fail
      refine (append_dk HD9.out nZ (Num.bs t2) (by decide) (by rw [hts2]; omega)).mono ?_
      rintro e w10 ⟨rfl, hd10, ho10⟩
      rw [Num.bs_toList] at hd10 ⊢
      rw [hts2] at hd10
      obtain ⟨z1, z2⟩ := HR8.out.full (s := t2) (by rw [hbl2]; omega)
      obtain ⟨D10, hD10⟩ : ∃ D10, (Dsk.append nZ t2 D8).1 = D10 := ⟨_, rfl⟩
      rw [hD10] at z2 hd10
      have Z10 := hide z1
      have HR10 := hide z2
      have HD10 := hide hd10
      have HO10 := hide (HO9.out.next ho10)
      clear hd10 ho10 z1 z2 hD10 hcv hrun
      rw [Z10.out]
      obtain ⟨wm, hrun, hms, hmb, hBA⟩ := make_of (P := Try.prog) w10 32 5 q Try.underlying32 info_u8d (by omega)
      have hcv := hBA.conv (P := Try.prog) q 32 9 5 Try.underlying32 Try.underlying5 Try.underlying9
      rw [List.length_replicate] at hcv
      have HD11 := hide (HD10.out.below hmb)
      have HO11 := hide (HO10.out.then hmb)
      clear hms hmb hBA
      have hbl3 : (List.replicate q (0 : UInt8)).length = q := List.length_replicate
      generalize List.replicate q (0 : UInt8) = t3 at *
      have hts3 : (Num.bs t3).size = q := by rw [Num.bs_size]; exact hbl3
      go_wp2_with fail
      refine (append_dk HD11.out nZ (Num.bs t3) (by decide) (by rw [hts3]; omega)).mono ?_
      rintro e w12 ⟨rfl, hd12, ho12⟩
      rw [Num.bs_toList] at hd12 ⊢
      rw [hts3] at hd12
      obtain ⟨z1, z2⟩ := HR10.out.fits (s := t3) (by rw [hbl3]; omega)
      rw [hbl3] at z2
      have Z12 := hide z1
      have hu12 := z2.used
      have hun : u + m + q = n := by omega
      rw [hun] at hu12
      have HU12 := hide hu12
      have HD12 := hide hd12
      have HO12 := hide (HO11.out.next ho12)
      clear hd12 ho12 z1 z2 hcv hrun hu12 hun
      rw [Z12.out]
      go_wp2_with fail
      refine (used_dk HD12.out).mono ?_
      rintro e wx ⟨rfl, hw⟩
      rw [hw, HU12.out]
      clear hw
      go_wp2
      go_ret
      exact ⟨by simp, bl HB2.out HO12.out.below⟩

end Go.Proofs.Ytpbiongoigbmpaa
