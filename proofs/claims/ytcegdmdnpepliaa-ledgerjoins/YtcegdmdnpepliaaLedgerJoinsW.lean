/-
  The walk of LedgerJoins.
-/
import Derived.Test.YtcegdmdnpepliaaLdgNameQW
import Derived.Test.YtcegdmdnpepliaaPlain
import Derived.Test.YtcegdmdnpepliaaLdgJoinW
import Derived.Test.YtcegdmdnpepliaaLdgLeaveW
import Derived.Test.YtcegdmdnpepliaaLdgRead3W
import Derived.Test.YtcegdmdnpepliaaGrowP
import Derived.Deep.DeepCutAuto
namespace Go.Proofs.Ytcegdmdnpepliaa
open Go.RowKit
open Ldg (De Le Rd Rl actL runL aN)

set_option linter.unusedVariables false in
set_option maxRecDepth 100000 in
set_option maxHeartbeats 600000 in
theorem walkLedgerJoins (a0 : Option Addr) (cap0 : Nat) (l : List La) (a1 a2 : Int) (w : World) (ha : LasAt w a0 l) (hl : l.length ≤ 9223372036854775807) (hcap : l.length ≤ cap0) (hok : ∀ p ∈ l, LaOk p) (hno : a0 = none → cap0 = 0) (h1 : -9223372036854775808 ≤ a1 ∧ a1 ≤ 9223372036854775807) (h2 : -9223372036854775808 ≤ a2 ∧ a2 ≤ 9223372036854775807) :
    Calls Try.prog 8 #[.slice a0 l.length cap0, .int .i64 a1, .int .i64 a2] w fun e w' => e = .returned (.bool true) ∧ Below w.heap.size w w' := by
  have HA := hide ha
  have HOK := hide hok
  clear ha hok
  by_cases hlen : l.length ≤ 100
  case neg =>
    go_enter Try.func8, Try.ntmps8
    go_wp2_with fail
    refine (lshown_any _).mono ?_
    rintro e w1 ⟨rfl, hb1⟩
    go_wp2
    go_ret
    exact ⟨rfl, hb1⟩
  obtain ⟨hRok, hRn⟩ := Ldg.run_ok (l := l) (by omega)
  obtain ⟨R, hR⟩ : ∃ R, runL l = R := ⟨_, rfl⟩
  rw [hR] at hRok hRn
  have HR := hide hR
  have HRO := hide hRok
  have HRN := hide hRn
  have HFIT := hide (Ldg.abs_fit hRok)
  obtain ⟨n, hn⟩ : ∃ n, nameAt (pk a1 6) = n := ⟨_, rfl⟩
  have HN := hide hn
  clear hn
  clear hR hRok hRn
  have HNS := hide (show n.size ≤ 1000000000 by rw [← HN.out, nameAt_size]; omega)
  have HNA := hide (show Lab.isName n = false → n = ⟨#[49]⟩ by rw [← HN.out]; exact nameAt_not (pk a1 6))
  obtain ⟨L0, hL0⟩ : ∃ x, (R.leave n).1 = x := ⟨_, rfl⟩
  obtain ⟨c0, hc0⟩ : ∃ x, (R.leave n).2 = x := ⟨_, rfl⟩
  have HL0 := hide hL0
  have HC0 := hide hc0
  have HLV := hide (show R.abs.leave n = (L0.abs, c0) by rw [Ldg.leave_abs, hL0, hc0])
  obtain ⟨FL, hFL⟩ : ∃ x, L0.abs.first = x := ⟨_, rfl⟩
  obtain ⟨NL, hNL⟩ : ∃ x, L0.abs.next = x := ⟨_, rfl⟩
  have FLE := hide hFL
  have NLE := hide hNL
  clear hL0 hc0 hFL hNL
  go_enter Try.func8, Try.ntmps8
  go_wp2_with fail
  refine (lshown_any _).mono ?_
  rintro e w1 ⟨rfl, hb1⟩
  have HB := hide hb1
  clear hb1
  go_wp2_with fail
  refine (run_any cap0 (HA.out.below HB.out) HOK.out (by omega)).mono ?_
  rintro e w2 ⟨ar, mr, cr, rfl, hled, hb2⟩
  rw [HR.out] at hled ⊢
  have HBW := hide (bl HB.out hb2)
  have HB := HBW
  have hbx := LBox.new hled
  obtain ⟨F, hF⟩ : ∃ x, R.first = x := ⟨_, rfl⟩
  obtain ⟨N, hN⟩ : ∃ x, R.next = x := ⟨_, rfl⟩
  have HF := hide hF
  have HNX := hide hN
  obtain ⟨X, hX⟩ : ∃ x, w2.heap.size = x := ⟨_, rfl⟩
  rw [hF, hN] at hbx ⊢
  rw [hX] at hbx
  have HBX := hide hbx
  have HX := hide hX
  clear hled hb2 hbx hF hN
  go_wp2_with fail
  try rw [hX]
  clear hX
  refine (lname_any a1 _ h1.1 h1.2).mono ?_
  rintro e w3 ⟨rfl, hb3⟩
  rw [HN.out]
  have HBX := hide (HBX.out.then hb3)
  have HB := hide (bl (bl HB.out (bnew w2 (.cells #[.int .u64 (F : Int), .int .u64 (N : Int), .slice ar mr cr] 27))) hb3)
  have HXW := hide (show w.heap.size ≤ X ∧ X < w3.heap.size from ⟨by have := HBW.out.size; have := HX.out; omega, HBX.out.lt⟩)
  clear hb3
  have x0 := lcell_of HBX.out.cell 0 rfl
  have x1 := lcell_of HBX.out.cell 1 rfl
  have x2 := lcell_of HBX.out.cell 2 rfl
  go_wp2_with fail
  clear x0 x1 x2
  refine (lleave_any HBX.out.led HFIT.out n).mono ?_
  rintro e wz ⟨rv, rfl, hl, hbz⟩
  rw [HLV.out] at hl ⊢
  obtain ⟨aYL, mYL, cYL, rfl, hmm, hl⟩ := hl.view
  clear hmm
  obtain ⟨fm, hfm⟩ : ∃ x, (L0.abs).first = x := ⟨_, rfl⟩
  obtain ⟨nm, hnm⟩ : ∃ x, (L0.abs).next = x := ⟨_, rfl⟩
  have e1 : fm = FL := by rw [← hfm]; exact FLE.out
  have e2 : nm = NL := by rw [← hnm]; exact NLE.out
  rw [hfm, hnm, e1, e2] at hl ⊢
  clear hfm hnm e1 e2
  have hbx := LBox.new hl
  have hbn := bl hbz (bnew wz (.cells #[.int .u64 (FL : Int), .int .u64 (NL : Int), .slice aYL mYL cYL] 27))
  obtain ⟨w4, hwB⟩ : ∃ W, wz.alloc (.cells #[.int .u64 (FL : Int), .int .u64 (NL : Int), .slice aYL mYL cYL] 27) = W := ⟨_, rfl⟩
  obtain ⟨YL, hY⟩ : ∃ y, wz.heap.size = y := ⟨_, rfl⟩
  rw [hwB, hY] at hbx
  rw [hwB] at hbn
  have HYL := hide hbx
  have HWB := hide hwB
  have HYB := hide hY
  have HYLL := hide (show w3.heap.size ≤ YL from by rw [← hY]; exact hbz.size)
  have HB := hide (HB.out.trans (hbn.mono HB.out.size))
  have HBX := hide (HBX.out.then hbn)
  clear hl hbz hbx hbn hwB hY
  go_upto_region 7 with fail
  try rw [HWB.out]
  try rw [HYB.out]
  clear HWB HYB
  go_upto_if 41 with fail
  go_cut [] (fun wc => ∃ (R2 : Rl) (a : Option Addr) (m c : Nat), Hid (LBox wc X R2.abs F N a m c) ∧ Hid R2.Ok ∧ Hid (n ∉ R2.names) ∧ Hid (R2.first = F) ∧ Hid (R2.next = N) ∧ Hid (Below w.heap.size w wc))
  case first =>
    by_cases hcz : c0 = 0
    · have hc2 : (R.leave n).2 = 0 := by rw [HC0.out]; exact hcz
      obtain ⟨hg1, hg2, hg3⟩ := Ldg.leave_gone HRO.out hc2
      have hLo := Ldg.leave_ok HRO.out hc2
      rw [HL0.out] at hg1 hg2 hg3 hLo
      have hFL : FL = F := by rw [← FLE.out, ← HF.out]; exact hg2
      have hNL : NL = N := by rw [← NLE.out, ← HNX.out]; exact hg3
      have G1 := hide hg1
      have G2 := hide (show L0.first = F from hg2.trans HF.out)
      have G3 := hide (show L0.next = N from hg3.trans HNX.out)
      have GO := hide hLo
      have hwr := HBX.out.write HYL.out.led (fun d hd x hx => by
        have := Ldg.above_nums hLo hd hx
        have h2 := hg2.trans HF.out
        have h3 := hg3.trans HNX.out
        omega)
      have hks := kept3 w4 X (.int .u64 (FL : Int)) (.int .u64 (NL : Int)) (.slice aYL mYL cYL)
      have x0 := lcell_of HYL.out.cell 0 rfl
      have x1 := lcell_of HYL.out.cell 1 rfl
      have x2 := lcell_of HYL.out.cell 2 rfl
      have y0 := lcell_of HBX.out.cell 0 rfl
      have y1 := lcell_of HBX.out.cell 1 rfl
      have y2 := lcell_of HBX.out.cell 2 rfl
      have yf := lfrozen_of HBX.out.cell
      obtain ⟨w5, hw5⟩ : ∃ W, ((w4.setCell ⟨X, 0, none⟩ (.int .u64 (FL : Int))).setCell ⟨X, 1, none⟩ (.int .u64 (NL : Int))).setCell ⟨X, 2, none⟩ (.slice aYL mYL cYL) = W := ⟨_, rfl⟩
      rw [hw5] at hwr hks
      have hbw := HB.out.trans (hks.bel (fun b hb => by have := HXW.out.1; omega))
      rw [hFL, hNL] at hwr
      have HWR := hide hwr
      have HBW2 := hide hbw
      have HW5 := hide hw5
      have hz : ((c0 : Nat) : Int) = 0 := by omega
      clear hwr hbw hks hc2 hg1 hg2 hg3 hLo hFL hNL hw5 hcz
      go_wp2
      try rw [HW5.out]
      go_meet
      case rel => exact ⟨L0, _, _, _, HWR, GO, G1, G2, G3, HBW2⟩
    · have hno : n ∉ R.names := fun hm => hcz (by rw [← HC0.out]; exact Ldg.leave_some hm)
      have hz : ¬ ((c0 : Nat) : Int) = 0 := by omega
      have HNO := hide hno
      clear hno hcz
      go_wp2
      go_meet
      case rel => exact ⟨R, _, _, _, HBX, HRO, HNO, HF, HNX, HB⟩
  case rest =>
  clear HBX HYL HB
  obtain ⟨R2, ar2, mr2, cr2, HBX, HRO2, HNI, HF2, HN2, HB⟩ := hcut
  obtain ⟨w6, hwn⟩ : ∃ W, wc = W := ⟨_, rfl⟩
  rw [hwn] at HBX HB ⊢
  clear hwn
  have HFIT2 := hide (Ldg.abs_fit HRO2.out)
  have HXL6 := hide HBX.out.lt
  have HW6 := hide HB.out.size
  obtain ⟨Fz, hFz⟩ : ∃ x, (Ldg.Rl.none.abs).first = x := ⟨_, rfl⟩
  obtain ⟨Nz, hNz⟩ : ∃ x, (Ldg.Rl.none.abs).next = x := ⟨_, rfl⟩
  have FzE := hide hFz
  have NzE := hide hNz
  clear hFz hNz
  rcases Ldg.join_cases HNI.out with ⟨hb, hj⟩ | ⟨hb, h4, hj⟩ | ⟨hb, h4, hj⟩
  · have HJ := hide (show R2.abs.join n = (Ldg.Rl.none.abs, 3) by rw [Ldg.join_abs, hj])
    have HNN := hide (nm_eq (HNA.out hb))
    clear hb hj
    have x0 := lcell_of HBX.out.cell 0 rfl
    have x1 := lcell_of HBX.out.cell 1 rfl
    have x2 := lcell_of HBX.out.cell 2 rfl
    go_wp2_with fail
    clear x0 x1 x2
    refine (ljoin_any HBX.out.led HFIT2.out n HNS.out).mono ?_
    rintro e wz ⟨rv, rfl, hl, hbz⟩
    rw [HJ.out] at hl ⊢
    obtain ⟨aYA, mYA, cYA, rfl, hmm, hl⟩ := hl.view
    clear hmm
    obtain ⟨fm, hfm⟩ : ∃ x, (Ldg.Rl.none.abs).first = x := ⟨_, rfl⟩
    obtain ⟨nm, hnm⟩ : ∃ x, (Ldg.Rl.none.abs).next = x := ⟨_, rfl⟩
    have e1 : fm = Fz := by rw [← hfm]; exact FzE.out
    have e2 : nm = Nz := by rw [← hnm]; exact NzE.out
    rw [hfm, hnm, e1, e2] at hl ⊢
    clear hfm hnm e1 e2
    have hbx := LBox.new hl
    have hbn := bl hbz (bnew wz (.cells #[.int .u64 (Fz : Int), .int .u64 (Nz : Int), .slice aYA mYA cYA] 27))
    obtain ⟨w7, hwB⟩ : ∃ W, wz.alloc (.cells #[.int .u64 (Fz : Int), .int .u64 (Nz : Int), .slice aYA mYA cYA] 27) = W := ⟨_, rfl⟩
    obtain ⟨YA, hY⟩ : ∃ y, wz.heap.size = y := ⟨_, rfl⟩
    rw [hwB, hY] at hbx
    rw [hwB] at hbn
    have HYA := hide hbx
    have HWB := hide hwB
    have HYB := hide hY
    have HYAL := hide (show w6.heap.size ≤ YA from by rw [← hY]; exact hbz.size)
    have HB := hide (HB.out.trans (hbn.mono HB.out.size))
    have HBX := hide (HBX.out.then hbn)
    clear hl hbz hbx hbn hwB hY
    go_upto_region 10 with fail
    try rw [HWB.out]
    try rw [HYB.out]
    clear HWB HYB
    have hn1 : (n.toList == [49]) = true := by have := HNN.out; rw [one_list] at this; exact this
    go_wp2
    go_ret
    exact ⟨rfl, HB.out⟩
  · have HJ := hide (show R2.abs.join n = (Ldg.Rl.none.abs, 6) by rw [Ldg.join_abs, hj])
    have hm4 : ((mr2 : Nat) : Int) = 4 := by have := HBX.out.m4 HRO2.out; omega
    have HM4 := hide hm4
    clear hb hj hm4 h4
    have x0 := lcell_of HBX.out.cell 0 rfl
    have x1 := lcell_of HBX.out.cell 1 rfl
    have x2 := lcell_of HBX.out.cell 2 rfl
    go_wp2_with fail
    clear x0 x1 x2
    refine (ljoin_any HBX.out.led HFIT2.out n HNS.out).mono ?_
    rintro e wz ⟨rv, rfl, hl, hbz⟩
    rw [HJ.out] at hl ⊢
    obtain ⟨aYA, mYA, cYA, rfl, hmm, hl⟩ := hl.view
    clear hmm
    obtain ⟨fm, hfm⟩ : ∃ x, (Ldg.Rl.none.abs).first = x := ⟨_, rfl⟩
    obtain ⟨nm, hnm⟩ : ∃ x, (Ldg.Rl.none.abs).next = x := ⟨_, rfl⟩
    have e1 : fm = Fz := by rw [← hfm]; exact FzE.out
    have e2 : nm = Nz := by rw [← hnm]; exact NzE.out
    rw [hfm, hnm, e1, e2] at hl ⊢
    clear hfm hnm e1 e2
    have hbx := LBox.new hl
    have hbn := bl hbz (bnew wz (.cells #[.int .u64 (Fz : Int), .int .u64 (Nz : Int), .slice aYA mYA cYA] 27))
    obtain ⟨w7, hwB⟩ : ∃ W, wz.alloc (.cells #[.int .u64 (Fz : Int), .int .u64 (Nz : Int), .slice aYA mYA cYA] 27) = W := ⟨_, rfl⟩
    obtain ⟨YA, hY⟩ : ∃ y, wz.heap.size = y := ⟨_, rfl⟩
    rw [hwB, hY] at hbx
    rw [hwB] at hbn
    have HYA := hide hbx
    have HWB := hide hwB
    have HYB := hide hY
    have HYAL := hide (show w6.heap.size ≤ YA from by rw [← hY]; exact hbz.size)
    have HB := hide (HB.out.trans (hbn.mono HB.out.size))
    have HBX := hide (HBX.out.then hbn)
    clear hl hbz hbx hbn hwB hY
    go_upto_region 10 with fail
    try rw [HWB.out]
    try rw [HYB.out]
    clear HWB HYB
    have x0 := lcell_of HBX.out.cell 0 rfl
    have x1 := lcell_of HBX.out.cell 1 rfl
    have x2 := lcell_of HBX.out.cell 2 rfl
    have hm4 := HM4.out
    go_wp2
    go_ret
    exact ⟨rfl, HB.out⟩
  · have HJ := hide (show R2.abs.join n = ((R2.with n).abs, 0) by rw [Ldg.join_abs, hj])
    have HW1 := hide (show (R2.with n).abs.first = F from HF2.out)
    have HW2 := hide (show (R2.with n).abs.next = N from HN2.out)
    have hMo := Ldg.with_ok HRO2.out HNI.out hb h4
    have hn7 : N ≤ 101 := by
      have h1 := HRN.out
      have h2 := HNX.out
      omega
    obtain ⟨kk, hkk⟩ : ∃ x, pk a2 20 = x := ⟨_, rfl⟩
    have hk20 : kk < 20 := by rw [← hkk]; exact pk_lt a2 (by omega)
    have hfr := Ldg.fresh_is HRO2.out HNI.out hb h4 kk (by have := HN2.out; omega)
    have hadd := fun q (hq : q ≤ 20) => Ldg.addN_ok hMo q (by show R2.next + q ≤ _; have := HN2.out; omega)
    obtain ⟨M, hMe⟩ : ∃ x, R2.with n = x := ⟨_, rfl⟩
    rw [hMe] at HJ HW1 HW2 hMo hfr
    have HADD : Hid (∀ q, q ≤ 20 → (Ldg.addN q M).Ok) := by subst hMe; exact hide hadd
    have HMO := hide hMo
    have HFRE := hide hfr
    have HKK := hide hkk
    have hMF : M.first = F := HW1.out
    have hMN : M.next = N := HW2.out
    have HMF := hide hMF
    have HMN := hide hMN
    clear hb h4 hj hMo hfr hadd hMe hkk hMF hMN
    have x0 := lcell_of HBX.out.cell 0 rfl
    have x1 := lcell_of HBX.out.cell 1 rfl
    have x2 := lcell_of HBX.out.cell 2 rfl
    go_wp2_with fail
    clear x0 x1 x2
    refine (ljoin_any HBX.out.led HFIT2.out n HNS.out).mono ?_
    rintro e wz ⟨rv, rfl, hl, hbz⟩
    rw [HJ.out] at hl ⊢
    obtain ⟨aYM, mYM, cYM, rfl, hmm, hl⟩ := hl.view
    clear hmm
    obtain ⟨fm, hfm⟩ : ∃ x, (M.abs).first = x := ⟨_, rfl⟩
    obtain ⟨nm, hnm⟩ : ∃ x, (M.abs).next = x := ⟨_, rfl⟩
    have e1 : fm = F := by rw [← hfm]; exact HW1.out
    have e2 : nm = N := by rw [← hnm]; exact HW2.out
    rw [hfm, hnm, e1, e2] at hl ⊢
    clear hfm hnm e1 e2
    have hbx := LBox.new hl
    have hbn := bl hbz (bnew wz (.cells #[.int .u64 (F : Int), .int .u64 (N : Int), .slice aYM mYM cYM] 27))
    obtain ⟨w7, hwB⟩ : ∃ W, wz.alloc (.cells #[.int .u64 (F : Int), .int .u64 (N : Int), .slice aYM mYM cYM] 27) = W := ⟨_, rfl⟩
    obtain ⟨YM, hY⟩ : ∃ y, wz.heap.size = y := ⟨_, rfl⟩
    rw [hwB, hY] at hbx
    rw [hwB] at hbn
    have HYM := hide hbx
    have HWB := hide hwB
    have HYB := hide hY
    have HYML := hide (show w6.heap.size ≤ YM from by rw [← hY]; exact hbz.size)
    have HB := hide (HB.out.trans (hbn.mono HB.out.size))
    have HBX := hide (HBX.out.then hbn)
    clear hl hbz hbx hbn hwB hY
    go_upto_region 10 with fail
    try rw [HWB.out]
    try rw [HYB.out]
    clear HWB HYB
    go_wp2_with fail
    refine (pick_any a2 20 _ h2.1 h2.2 (by omega) (by omega)).mono ?_
    rintro e w8 ⟨rfl, hw⟩
    rw [hw, HKK.out]
    clear hw
    have HXY := hide (show w.heap.size ≤ YM ∧ X < YM by have h1 := HYML.out; have h2 := HXL6.out; have h3 := HW6.out; omega)
    go_wp2
    go_loopw [15] (fun v15 wr => ∃ (q nq : Nat) (a : Option Addr) (m c : Nat), v15 = .int .i64 (q : Int) ∧ q ≤ kk ∧ Hid (LBox wr X R2.abs F N ar2 mr2 cr2) ∧ Hid (nq = N + q) ∧ Hid (LBox wr YM (Ldg.addN q M).abs F nq a m c) ∧ Hid (Below w.heap.size w wr)) (fun v15 _ => kk - (intOf v15).toNat)
    case atStart => exact ⟨0, N, _, _, _, rfl, Nat.zero_le _, HBX, hide rfl, HYM, HB⟩
    case round =>
      clear HBX HYM HB
      obtain ⟨q, nq, am, mm, cm, rfl, hq, HBX, HNQ, HYM, HB⟩ := hrel
      by_cases hql : q < kk
      · have hqo := HADD.out q (by omega)
        obtain ⟨h5, h6, _⟩ := Ldg.addN_first M q
        have hqn : (Ldg.addN q M).next = nq := by rw [h6, HMN.out, HNQ.out]
        have hqf : (Ldg.addN q M).first = F := by rw [h5, HMF.out]
        have HQF := hide (Ldg.abs_fit hqo)
        obtain ⟨Q, hQ⟩ : ∃ x, Ldg.addN q M = x := ⟨_, rfl⟩
        obtain ⟨Q1, hQ1⟩ : ∃ x, Ldg.addN (q + 1) M = x := ⟨_, rfl⟩
        have hqq : Q.add = Q1 := by rw [← hQ, ← hQ1]; rfl
        rw [hQ] at HYM HQF hqo hqn hqf
        have HQO := hide hqo
        have HQN := hide hqn
        have HQQF := hide hqf
        have HQQ := hide hqq
        have HQ1 := hide hQ1
        clear hqo h5 h6 hqn hqf hQ hQ1 hqq
        have x0 := lcell_of HYM.out.cell 0 rfl
        have x1 := lcell_of HYM.out.cell 1 rfl
        have x2 := lcell_of HYM.out.cell 2 rfl
        go_wp2_with fail
        clear x0 x1 x2
        refine (add_any HYM.out.led HQF.out).mono ?_
        rintro e w9 ⟨rv, rfl, hl, hb9⟩
        rw [← Ldg.add_abs, HQQ.out] at hl
        obtain ⟨an, mn, cn, rfl, hmm, hl⟩ := hl.view
        clear hmm
        obtain ⟨fm, hfm⟩ : ∃ x, Q1.abs.first = x := ⟨_, rfl⟩
        obtain ⟨nm, hnm⟩ : ∃ x, Q1.abs.next = x := ⟨_, rfl⟩
        have e1 : fm = F := by rw [← hfm, ← HQQ.out]; exact HQQF.out
        have e2 : nm = nq + 1 := by rw [← hnm, ← HQQ.out]; exact congrArg (· + 1) HQN.out
        rw [hfm, hnm, e1] at hl ⊢
        clear hfm hnm e1
        have HBX := hide (HBX.out.then hb9)
        have HYM := hide (HYM.out.then hb9)
        have HB := hide (HB.out.trans (hb9.mono HB.out.size))
        have hwr := HYM.out.write hl (fun d hd x hx => by
          rw [← HQQ.out, Ldg.add_abs] at hd
          have h7 := Ldg.above_nums HQO.out hd hx
          have h8 := HQN.out
          have h9 := HQQF.out
          omega)
        have hks := kept3 w9 YM (.int .u64 (F : Int)) (.int .u64 (nm : Int)) (.slice an mn cn)
        have x0 := lcell_of HYM.out.cell 0 rfl
        have x1 := lcell_of HYM.out.cell 1 rfl
        have x2 := lcell_of HYM.out.cell 2 rfl
        have xf := lfrozen_of HYM.out.cell
        obtain ⟨w10, hw10⟩ : ∃ W, ((w9.setCell ⟨YM, 0, none⟩ (.int .u64 (F : Int))).setCell ⟨YM, 1, none⟩ (.int .u64 (nm : Int))).setCell ⟨YM, 2, none⟩ (.slice an mn cn) = W := ⟨_, rfl⟩
        rw [hw10] at hwr hks
        have hbx : LBox w10 X R2.abs F N ar2 mr2 cr2 := HBX.out.keep hks (fun hh => by have := HXY.out.2; omega) HYM.out (fun d hd x hx => by
          have h7 := Ldg.above_nums HRO2.out hd hx
          have h8 := HF2.out
          have h9 := HN2.out
          have := HNQ.out
          omega)
        have hbw := HB.out.trans (hks.bel (fun b hb => by have := HXY.out.1; omega))
        have HBX := hide hbx
        have HYM := hide hwr
        have HB := hide hbw
        have HW10 := hide hw10
        have HE2 := hide e2
        clear hl hb9 hwr hks hbx hbw hw10 e2
        go_wp2
        try rw [HW10.out]
        go_roundw
        case rel => exact ⟨q + 1, nm, an, mn, cn, by go_num, by omega, HBX, hide (by rw [HE2.out, HNQ.out]; omega), by rw [HQ1.out]; exact HYM, HB⟩
        case measure => simp [intOf]; omega
      · have hqe : q = kk := by omega
        subst hqe
        obtain ⟨hDo, hDl, hDp, hDj, lnm, hDn⟩ := HFRE.out
        obtain ⟨D, hD⟩ : ∃ x, Ldg.addN q M = x := ⟨_, rfl⟩
        have hlen := (Ldg.addN_first M q).2.2
        rw [hD] at hDo hDl hDp hDj hDn HYM hlen
        have HDO := hide hDo
        have HFD := hide (Ldg.abs_fit hDo)
        have HDL := hide hDl
        rw [HN2.out] at hDp
        have HDP := hide hDp
        have HDJ := hide (show D.abs.join n = (Ldg.Rl.none.abs, 4) by rw [Ldg.join_abs, hDj])
        have HDN := hide hDn
        clear hDo hDl hDp hDj hDn hD hlen
        have x0 := lcell_of HYM.out.cell 0 rfl
        have x1 := lcell_of HYM.out.cell 1 rfl
        have x2 := lcell_of HYM.out.cell 2 rfl
        go_wp2_with fail
        clear x0 x1 x2
        refine (find_any HYM.out.led HFD.out n).mono ?_
        rintro e w9 ⟨hb9, hfd⟩
        rw [Ldg.abs_look, HDL.out] at hfd
        rcases hfd with ⟨h0, _⟩ | ⟨d1, sv1, hd1, rfl, hsl1⟩
        · cases h0
        obtain ⟨fa, fb, fc, fe⟩ := Ldg.fresh_abs n R2.next q
        obtain ⟨qa, hqa⟩ : ∃ x, (Rd.mk n R2.next (List.replicate q 112)).above = x := ⟨_, rfl⟩
        have hda : (Rd.mk n R2.next (List.replicate q 112)).abs = ⟨n, N, N, qa, 0, 0, 0⟩ := by
          unfold Ldg.Rd.abs
          rw [fa, fb, fc, fe, hqa]
          simp only
          rw [HN2.out]
        obtain rfl : (⟨n, N, N, qa, 0, 0, 0⟩ : De) = d1 := hda.symm.trans (Option.some.inj hd1)
        obtain ⟨av1, cv1, rfl, _, _, _⟩ := hsl1
        simp only
        obtain ⟨la, hla⟩ : ∃ x, qa.length = x := ⟨_, rfl⟩
        rw [hla]
        have bD := bnew w9 (.cells #[.string n, .int .u64 (N : Int), .int .u64 (N : Int), .slice av1 la cv1, .int .u64 0, .int .u64 0, .int .u64 0] 41)
        have cD := alloc_new w9 (.cells #[.string n, .int .u64 (N : Int), .int .u64 (N : Int), .slice av1 la cv1, .int .u64 0, .int .u64 0, .int .u64 0] 41)
        have hyl : w9.heap.size < (w9.alloc (.cells #[.string n, .int .u64 (N : Int), .int .u64 (N : Int), .slice av1 la cv1, .int .u64 0, .int .u64 0, .int .u64 0] 41)).heap.size := by simp
        have HB := hide ((HB.out.trans (hb9.mono HB.out.size)).trans (bD.mono (Nat.le_trans HB.out.size hb9.size)))
        have HBX := hide ((HBX.out.then hb9).then bD)
        have HYM := hide ((HYM.out.then hb9).then bD)
        obtain ⟨Y1, hY1⟩ : ∃ y, w9.heap.size = y := ⟨_, rfl⟩
        obtain ⟨w10, hw10⟩ : ∃ W, w9.alloc (.cells #[.string n, .int .u64 (N : Int), .int .u64 (N : Int), .slice av1 la cv1, .int .u64 0, .int .u64 0, .int .u64 0] 41) = W := ⟨_, rfl⟩
        rw [hY1, hw10] at cD hyl
        rw [hw10] at HB HBX HYM
        have CD := hide cD
        have HW10 := hide hw10
        have HY1 := hide hY1
        have HYL1 := hide hyl
        clear fa fb fc fe hqa hda hla hb9 hd1 bD cD hyl hY1 hw10
        go_upto_region 18 with fail
        try rw [HW10.out]
        try rw [HY1.out]
        have x0 := lcell_of HYM.out.cell 0 rfl
        have x1 := lcell_of HYM.out.cell 1 rfl
        have x2 := lcell_of HYM.out.cell 2 rfl
        go_wp2_with fail
        clear x0 x1 x2
        refine (pending_any HYM.out.led HFD.out (Ldg.abs_right HDO.out) n).mono ?_
        rintro e w11 ⟨pv, rfl, ho, hb11⟩
        rw [Ldg.abs_pend HDO.out, HDP.out] at ho
        obtain ⟨ap, cp, rfl, _, _, hu⟩ := ho.sl
        rw [List.length_range']
        have HU := hide hu.up
        have HBX := hide (HBX.out.then hb11)
        have HYM := hide (HYM.out.then hb11)
        have HB := hide (HB.out.trans (hb11.mono HB.out.size))
        have CD := hide ((hb11.block _ HYL1.out).trans CD.out)
        have HYL1 := hide (Nat.lt_of_lt_of_le HYL1.out hb11.size)
        clear hb11 ho hu
        have x0 := lcell_of HYM.out.cell 0 rfl
        have x1 := lcell_of HYM.out.cell 1 rfl
        have x2 := lcell_of HYM.out.cell 2 rfl
        go_wp2_with fail
        clear x0 x1 x2
        refine (ljoin_any HYM.out.led HFD.out n HNS.out).mono ?_
        rintro e wz ⟨rv, rfl, hl, hbz⟩
        rw [HDJ.out] at hl ⊢
        obtain ⟨aYJ, mYJ, cYJ, rfl, hmm, hl⟩ := hl.view
        clear hmm
        obtain ⟨fm, hfm⟩ : ∃ x, (Ldg.Rl.none.abs).first = x := ⟨_, rfl⟩
        obtain ⟨nm, hnm⟩ : ∃ x, (Ldg.Rl.none.abs).next = x := ⟨_, rfl⟩
        have e1 : fm = Fz := by rw [← hfm]; exact FzE.out
        have e2 : nm = Nz := by rw [← hnm]; exact NzE.out
        rw [hfm, hnm, e1, e2] at hl ⊢
        clear hfm hnm e1 e2
        have hbx := LBox.new hl
        have hbn := bl hbz (bnew wz (.cells #[.int .u64 (Fz : Int), .int .u64 (Nz : Int), .slice aYJ mYJ cYJ] 27))
        obtain ⟨w12, hwB⟩ : ∃ W, wz.alloc (.cells #[.int .u64 (Fz : Int), .int .u64 (Nz : Int), .slice aYJ mYJ cYJ] 27) = W := ⟨_, rfl⟩
        obtain ⟨YJ, hY⟩ : ∃ y, wz.heap.size = y := ⟨_, rfl⟩
        rw [hwB, hY] at hbx
        rw [hwB] at hbn
        have HYJ := hide hbx
        have HWB := hide hwB
        have HYB := hide hY
        have HYJL := hide (show w11.heap.size ≤ YJ from by rw [← hY]; exact hbz.size)
        have HB := hide (HB.out.trans (hbn.mono HB.out.size))
        have HBX := hide (HBX.out.then hbn)
        have HYM := hide (HYM.out.then hbn)
        have HU := hide (HU.out.later hbn)
        have CD := hide ((hbn.block _ HYL1.out).trans CD.out)
        have HYL1 := hide (Nat.lt_of_lt_of_le HYL1.out hbn.size)
        clear hl hbz hbx hbn hwB hY
        go_upto_region 20 with fail
        try rw [HWB.out]
        try rw [HYB.out]
        clear HWB HYB
        have hmD := HYM.out.m4 HDO.out
        have hmp : 0 < mm := by
          have h5 := HDN.out
          have h6 : D.names.length = D.dests.length := by unfold Ldg.Rl.names; rw [List.length_map]
          rw [h5, List.length_append] at h6
          simp at h6
          omega
        obtain ⟨m1, hm1⟩ : ∃ x, mm - 1 = x := ⟨_, rfl⟩
        have hm1l : m1 < mm := by omega
        obtain ⟨b1, off1, sv1, nm, ds, lo, ak, ev, rj, hk1, rfl, hbl1, hrc, hrl, hsx⟩ := HYM.out.rc hm1l
        obtain ⟨hl1, hl2⟩ := Ldg.last_name (i := m1) HDN.out (by omega)
        have hnn : nm = n := by rw [hrl.nm, hl2]
        rw [hnn] at hrc
        have HRC := hide hrc
        have HNB := hide hbl1
        have hmi : ((mm : Nat) : Int) - 1 = (m1 : Int) := by omega
        have hmw : IntKind.i64.wrap ((m1 : Nat) : Int) = (m1 : Int) := by rw [IntKind.wrap_i64]; omega
        have hne := nm_eq (rfl : n = n)
        clear hsx hmD hm1 hl2 hl1 hrc hrl hnn hk1 hbl1
        by_cases hq0 : q = 0
        · have hqi : ((q : Nat) : Int) = 0 := by omega
          go_wp2_with fail
          refine wp_region_growK (fun z => z < w12.heap.size) [] [0, 1, 2, 3, 4, 5, 6, 7, 8, 9, 10, 11, 12, 13, 14, 15, 16, 17, 18, 19, 20, 21, 22, 23, 24, 25, 26, 27, 28, 29, 30, 31, 32, 33, 34, 35, 36, 37, 38, 39, 40, 41, 42, 43, 44, 45, 46, 47, 48, 49, 50, 51, 52, 53, 54, 55, 56, 57, 58, 59, 60, 61] [] (by kernel_rfl) (by kernel_rfl) (by kernel_rfl) (by kernel_rfl) ?_
          intro wq hbq
          simp only [stagesOfK, getLK, pickLK]
          have inh : Nonempty (GrK (fun z => z < w12.heap.size) wq) := GrK.some _ wq
          have x2 := fun z : GrK (fun z => z < w12.heap.size) wq => z.cell (a := ⟨YM, 2, none⟩) HYM.out.lt (lcell_of (HYM.out.then hbq).cell 2 rfl)
          have y1 := fun z : GrK (fun z => z < w12.heap.size) wq => z.cell (a := ⟨X, 1, none⟩) HBX.out.lt (lcell_of (HBX.out.then hbq).cell 1 rfl)
          have hcd := (hbq.block _ HYL1.out).trans CD.out
          have d1 := fun z : GrK (fun z => z < w12.heap.size) wq => z.cell (a := ⟨Y1, 1, none⟩) HYL1.out (lcell_of hcd 1 rfl)
          have d2 := fun z : GrK (fun z => z < w12.heap.size) wq => z.cell (a := ⟨Y1, 2, none⟩) HYL1.out (lcell_of hcd 2 rfl)
          have d4 := fun z : GrK (fun z => z < w12.heap.size) wq => z.cell (a := ⟨Y1, 4, none⟩) HYL1.out (lcell_of hcd 4 rfl)
          have d5 := fun z : GrK (fun z => z < w12.heap.size) wq => z.cell (a := ⟨Y1, 5, none⟩) HYL1.out (lcell_of hcd 5 rfl)
          have d6 := fun z : GrK (fun z => z < w12.heap.size) wq => z.cell (a := ⟨Y1, 6, none⟩) HYL1.out (lcell_of hcd 6 rfl)
          have g0 := fun z : GrK (fun z => z < w12.heap.size) wq => z.cell (a := ⟨b1, off1 + m1 * 7, none⟩) HNB.out (HRC.out.then hbq HNB.out).c0
          have HB := hide (HB.out.trans (hbq.mono HB.out.size))
          refine wpG_lastK ?_
          repeat (go_big_quiet_step (fail))
          refine wpQuiet_nil ?_
          clear x2 y1 d1 d2 d4 d5 d6 g0 hcd inh hbq
          go_wp2
          go_ret
          exact ⟨rfl, HB.out⟩
        · have hql : 0 < q := by omega
          obtain ⟨b3, off3, rfl, hbl3, _, hcs⟩ := HU.out 0 (by rw [List.length_range']; exact hql)
          have g1 := hcs 0 (by rw [List.length_range']; exact hql)
          have e3 : (List.range' N q)[0]'(by rw [List.length_range']; exact hql) = N := by simp
          rw [e3] at g1
          have hqi : ¬ ((q : Nat) : Int) = 0 := by omega
          have hb1 : (((q : Nat) : Int) == 0) = false := beq_eq_false_iff_ne.2 hqi
          have hb2 : (q == 0) = false := beq_eq_false_iff_ne.2 hq0
          have hb3 : decide (q = 0) = false := decide_eq_false hq0
          have hqi2 : (0 : Int) < ((q : Nat) : Int) := by omega
          rw [Nat.add_zero] at g1
          have HG1 := hide g1
          clear hcs e3 g1
          go_wp2_with fail
          refine wp_region_growK (fun z => z < w12.heap.size) [] [0, 1, 2, 3, 4, 5, 6, 7, 8, 9, 10, 11, 12, 13, 14, 15, 16, 17, 18, 19, 20, 21, 22, 23, 24, 25, 26, 27, 28, 29, 30, 31, 32, 33, 34, 35, 36, 37, 38, 39, 40, 41, 42, 43, 44, 45, 46, 47, 48, 49, 50, 51, 52, 53, 54, 55, 56, 57, 58, 59, 60, 61] [] (by kernel_rfl) (by kernel_rfl) (by kernel_rfl) (by kernel_rfl) ?_
          intro wq hbq
          simp only [stagesOfK, getLK, pickLK]
          have inh : Nonempty (GrK (fun z => z < w12.heap.size) wq) := GrK.some _ wq
          have x2 := fun z : GrK (fun z => z < w12.heap.size) wq => z.cell (a := ⟨YM, 2, none⟩) HYM.out.lt (lcell_of (HYM.out.then hbq).cell 2 rfl)
          have y1 := fun z : GrK (fun z => z < w12.heap.size) wq => z.cell (a := ⟨X, 1, none⟩) HBX.out.lt (lcell_of (HBX.out.then hbq).cell 1 rfl)
          have hcd := (hbq.block _ HYL1.out).trans CD.out
          have d1 := fun z : GrK (fun z => z < w12.heap.size) wq => z.cell (a := ⟨Y1, 1, none⟩) HYL1.out (lcell_of hcd 1 rfl)
          have d2 := fun z : GrK (fun z => z < w12.heap.size) wq => z.cell (a := ⟨Y1, 2, none⟩) HYL1.out (lcell_of hcd 2 rfl)
          have d4 := fun z : GrK (fun z => z < w12.heap.size) wq => z.cell (a := ⟨Y1, 4, none⟩) HYL1.out (lcell_of hcd 4 rfl)
          have d5 := fun z : GrK (fun z => z < w12.heap.size) wq => z.cell (a := ⟨Y1, 5, none⟩) HYL1.out (lcell_of hcd 5 rfl)
          have d6 := fun z : GrK (fun z => z < w12.heap.size) wq => z.cell (a := ⟨Y1, 6, none⟩) HYL1.out (lcell_of hcd 6 rfl)
          have g0 := fun z : GrK (fun z => z < w12.heap.size) wq => z.cell (a := ⟨b1, off1 + m1 * 7, none⟩) HNB.out (HRC.out.then hbq HNB.out).c0
          have p0 := fun z : GrK (fun z => z < w12.heap.size) wq => z.cell (a := ⟨b3, off3, none⟩) hbl3 ((hbq.cell (p := ⟨b3, off3, none⟩) hbl3).trans HG1.out)
          have HB := hide (HB.out.trans (hbq.mono HB.out.size))
          refine wpG_lastK ?_
          repeat (go_big_quiet_step (fail))
          refine wpQuiet_nil ?_
          clear x2 y1 d1 d2 d4 d5 d6 g0 hcd inh hbq
          go_wp2
          go_ret
          exact ⟨rfl, HB.out⟩
end Go.Proofs.Ytcegdmdnpepliaa
