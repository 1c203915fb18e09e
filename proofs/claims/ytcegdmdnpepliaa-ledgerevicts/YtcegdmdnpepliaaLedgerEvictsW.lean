/-
  The walk of LedgerEvicts.
-/
import Derived.Test.YtcegdmdnpepliaaLdgRowCW
import Derived.Test.YtcegdmdnpepliaaLdgEvictW
import Derived.Test.YtcegdmdnpepliaaLdgRead2W
import Derived.Test.YtcegdmdnpepliaaLdgRead3W
import Derived.Test.YtcegdmdnpepliaaGrowP
import Derived.Test.YtcegdmdnpepliaaLdgFromW
import Derived.Deep.DeepCutAuto
namespace Go.Proofs.Ytcegdmdnpepliaa
open Go.RowKit
open Ldg (De Le Rd Rl actL runL aN)

set_option linter.unusedVariables false in
set_option maxRecDepth 100000 in
set_option maxHeartbeats 600000 in
theorem walkLedgerEvicts (a0 : Option Addr) (cap0 : Nat) (l : List La) (a1 : Int) (w : World) (ha : LasAt w a0 l) (hl : l.length ≤ 9223372036854775807) (hcap : l.length ≤ cap0) (hok : ∀ p ∈ l, LaOk p) (hno : a0 = none → cap0 = 0) (h1 : -9223372036854775808 ≤ a1 ∧ a1 ≤ 9223372036854775807) :
    Calls Try.prog 7 #[.slice a0 l.length cap0, .int .i64 a1] w fun e w' => e = .returned (.bool true) ∧ Below w.heap.size w w' := by
  have HA := hide ha
  have HOK := hide hok
  clear ha hok
  by_cases hlen : l.length ≤ 100
  case neg =>
    go_enter Try.func7, Try.ntmps7
    go_wp2_with fail
    refine (lshown_any _).mono ?_
    rintro e w1 ⟨rfl, hb1⟩
    go_wp2
    go_ret
    exact ⟨rfl, hb1⟩
  obtain ⟨hRok, hRn⟩ := Ldg.run_ok (l := l) (by omega)
  obtain ⟨R, hR⟩ : ∃ R, runL l = R := ⟨_, rfl⟩
  rw [hR] at hRok hRn
  have HR := hide hR
  have HRO := hide hRok
  have HRN := hide hRn
  have HFIT := hide (Ldg.abs_fit hRok)
  clear hR hRok hRn
  go_enter Try.func7, Try.ntmps7
  go_wp2_with fail
  refine (lshown_any _).mono ?_
  rintro e w1 ⟨rfl, hb1⟩
  have HB := hide hb1
  clear hb1
  go_wp2_with fail
  refine (run_any cap0 (HA.out.below HB.out) HOK.out (by omega)).mono ?_
  rintro e w2 ⟨ar, mr, cr, rfl, hled, hb2⟩
  rw [HR.out] at hled ⊢
  have HBW := hide (bl HB.out hb2)
  have HB := HBW
  have hbx := LBox.new hled
  obtain ⟨F, hF⟩ : ∃ x, R.first = x := ⟨_, rfl⟩
  obtain ⟨N, hN⟩ : ∃ x, R.next = x := ⟨_, rfl⟩
  have HF := hide hF
  have HNX := hide hN
  obtain ⟨X, hX⟩ : ∃ x, w2.heap.size = x := ⟨_, rfl⟩
  rw [hF, hN] at hbx ⊢
  rw [hX] at hbx
  have HBX := hide hbx
  have HX := hide hX
  clear hled hb2 hbx hF hN
  have hbn := bnew w2 (.cells #[.int .u64 (F : Int), .int .u64 (N : Int), .slice ar mr cr] 27)
  obtain ⟨w3, hw3⟩ : ∃ W, w2.alloc (.cells #[.int .u64 (F : Int), .int .u64 (N : Int), .slice ar mr cr] 27) = W := ⟨_, rfl⟩
  have hbx := HBX.out
  rw [hw3] at hbx hbn
  have HBX := hide hbx
  have HB := hide (HB.out.trans (hbn.mono HB.out.size))
  clear hbx hbn
  go_upto_region 5 with fail
  try rw [hw3]
  try rw [hX]
  clear hw3 hX
  have hfn : F ≤ N := by have h1 := HF.out; have h2 := HNX.out; have h3 := HRO.out.fn; omega
  have hn7 : N ≤ 10000000 := by have h2 := HNX.out; have h3 := HRO.out.nb; omega
  obtain ⟨D, hD⟩ : ∃ D, N - F = D := ⟨_, rfl⟩
  obtain ⟨D1, hD1⟩ : ∃ D1, D + 1 = D1 := ⟨_, rfl⟩
  obtain ⟨t, ht⟩ : ∃ t, pk a1 D1 = t := ⟨_, rfl⟩
  have htl : t < D1 := by rw [← ht]; exact pk_lt a1 (by omega)
  obtain ⟨T, hT⟩ : ∃ T, F + t = T := ⟨_, rfl⟩
  have q1 : ((N : Nat) : Int) - (F : Int) = (D : Int) := by omega
  have q2 : IntKind.u64.wrap ((D : Nat) : Int) = (D : Int) := by rw [IntKind.wrap_u64]; omega
  have q3 : IntKind.i64.wrap ((D : Nat) : Int) = (D : Int) := by rw [IntKind.wrap_i64]; omega
  have q4 : ((D : Nat) : Int) + 1 = (D1 : Int) := by omega
  have q5 : IntKind.i64.wrap ((D1 : Nat) : Int) = (D1 : Int) := by rw [IntKind.wrap_i64]; omega
  have q6 : IntKind.u64.wrap ((t : Nat) : Int) = (t : Int) := by rw [IntKind.wrap_u64]; omega
  have q7 : ((F : Nat) : Int) + (t : Int) = (T : Int) := by omega
  have q8 : IntKind.u64.wrap ((T : Nat) : Int) = (T : Int) := by rw [IntKind.wrap_u64]; omega
  have HT := hide ht
  have hT1 : R.first ≤ T := by have := HF.out; omega
  have hT2 : T ≤ R.next := by have := HNX.out; omega
  have hT0 : 1 ≤ T := by have := HRO.out.f1; omega
  have hD1l : D1 ≤ 1099511627776 := by omega
  have hD1p : 0 < D1 := by omega
  have hM := Ldg.cut_ok HRO.out hT1 hT2
  have hcat := fun j (hj : j < R.dests.length) => Ldg.cut_at HRO.out hT1 hT2 hj
  have hfr := Ldg.cut_free HRO.out hT1 hT2
  have hbad := Ldg.cut_bad1 HRO.out hT1
  have hlm := Ldg.cut_len R T
  have hev := Ldg.cut_is hT1 hT2
  have hf1 : (R.cut T).first = T := rfl
  have hf2 : (R.cut T).next = N := HNX.out
  obtain ⟨M, hMe⟩ : ∃ M, R.cut T = M := ⟨_, rfl⟩
  have HCAT : Hid (∀ j (hj : j < R.dests.length), ∃ hi' : j < M.dests.length, M.dests[j].name = R.dests[j].name ∧ M.dests[j].all.count 101 = R.dests[j].all.count 101 + Ldg.cnt T (R.pend R.dests[j].name) ∧ M.pend R.dests[j].name = (R.pend R.dests[j].name).drop (Ldg.cnt T (R.pend R.dests[j].name)) ∧ (T ≤ R.free → Ldg.cnt T (R.pend R.dests[j].name) = 0)) := by
    subst hMe
    exact hide hcat
  rw [hMe] at hM hfr hbad hlm hev hf1 hf2
  obtain ⟨f1, hff1⟩ : ∃ x, R.free = x := ⟨_, rfl⟩
  obtain ⟨f2, hff2⟩ : ∃ x, M.free = x := ⟨_, rfl⟩
  rw [hff1, hff2] at hfr
  have HFF1 := hide hff1
  have HFF2 := hide hff2
  have HFR := hide hfr
  have HMO := hide hM
  have HFM := hide (Ldg.abs_fit hM)
  have HLM := hide hlm
  have HEV := hide (show R.abs.evict T = (M.abs, 0) by rw [Ldg.evict_abs HRO.out, hev])
  have HB1 := hide (show M.abs.evict (T - 1) = (Ldg.Rl.none.abs, 1) by rw [Ldg.evict_abs hM, hbad.1])
  have HB2 := hide (show M.abs.evict (N + 1) = (Ldg.Rl.none.abs, 1) by rw [Ldg.evict_abs hM, ← HNX.out, hbad.2])
  have HF1 := hide (show M.abs.first = T from hf1)
  have HF2 := hide (show M.abs.next = N from hf2)
  have HT0 := hide hT0
  clear hD hD1 ht hT hT1 hT2 hM hcat hfr hbad hlm hev hf1 hf2 hMe hff1 hff2 hT0
  refine wp_region_growK (fun b => b < w3.heap.size) [([0, 1, 2, 3, 4, 5, 6, 7, 8, 9], 10)] [11, 12, 13] [] (by kernel_rfl) (by kernel_rfl) (by kernel_rfl) (by kernel_rfl) ?_
  intro w4 hb4
  simp only [stagesOfK, getLK, pickLK]
  have inh : Nonempty (GrK (fun b => b < w3.heap.size) w4) := GrK.some _ w4
  have x0 := fun z : GrK (fun b => b < w3.heap.size) w4 => z.cell (a := ⟨X, 0, none⟩) HBX.out.lt (lcell_of (HBX.out.then hb4).cell 0 rfl)
  have x1 := fun z : GrK (fun b => b < w3.heap.size) w4 => z.cell (a := ⟨X, 1, none⟩) HBX.out.lt (lcell_of (HBX.out.then hb4).cell 1 rfl)
  have HBX := hide (HBX.out.then hb4)
  have HB := hide (HB.out.trans (hb4.mono HB.out.size))
  clear hb4
  refine wpG_stageK ?_
  repeat (go_big_quiet_step (fail))
  refine wpQuiet_nil ?_
  clear x0 x1 inh
  go_wp2_with fail
  refine (pick_any a1 D1 _ h1.1 h1.2 hD1p hD1l).mono ?_
  rintro e w5 ⟨rfl, hw⟩
  rw [hw, HT.out]
  clear hw
  go_wp2
  refine OnToK.mk (Kept.refl _ _) (Sub.refl _) ?_
  have inh : Nonempty (GrK (fun b => b < w3.heap.size) w4) := GrK.some _ w4
  refine wpG_lastK ?_
  repeat (go_big_quiet_step (fail))
  refine wpQuiet_nil ?_
  clear inh q1 q2 q3 q4 q5 q6 q7
  have x0 := lcell_of HBX.out.cell 0 rfl
  have x1 := lcell_of HBX.out.cell 1 rfl
  have x2 := lcell_of HBX.out.cell 2 rfl
  go_wp2_with fail
  clear x0 x1 x2
  refine (levict_any HBX.out.led HFIT.out T).mono ?_
  rintro e wz ⟨rv, rfl, hl, hbz⟩
  rw [HEV.out] at hl ⊢
  obtain ⟨aYM, mYM, cYM, rfl, hmm, hl⟩ := hl.view
  clear hmm
  obtain ⟨fm, hfm⟩ : ∃ x, (M.abs).first = x := ⟨_, rfl⟩
  obtain ⟨nm, hnm⟩ : ∃ x, (M.abs).next = x := ⟨_, rfl⟩
  have e1 : fm = T := by rw [← hfm]; exact HF1.out
  have e2 : nm = N := by rw [← hnm]; exact HF2.out
  rw [hfm, hnm, e1, e2] at hl ⊢
  clear hfm hnm e1 e2
  have hbx := LBox.new hl
  have hbn := bl hbz (bnew wz (.cells #[.int .u64 (T : Int), .int .u64 (N : Int), .slice aYM mYM cYM] 27))
  obtain ⟨w6, hwB⟩ : ∃ W, wz.alloc (.cells #[.int .u64 (T : Int), .int .u64 (N : Int), .slice aYM mYM cYM] 27) = W := ⟨_, rfl⟩
  obtain ⟨YM, hY⟩ : ∃ y, wz.heap.size = y := ⟨_, rfl⟩
  rw [hwB, hY] at hbx
  rw [hwB] at hbn
  have HYM := hide hbx
  have HWB := hide hwB
  have HYB := hide hY
  have HB := hide (HB.out.trans (hbn.mono HB.out.size))
  have HBX := hide (HBX.out.then hbn)
  clear hl hbz hbx hbn hwB hY
  go_upto_region 7 with fail
  try rw [HWB.out]
  try rw [HYB.out]
  clear HWB HYB
  have x0 := lcell_of HBX.out.cell 0 rfl
  have x1 := lcell_of HBX.out.cell 1 rfl
  have x2 := lcell_of HBX.out.cell 2 rfl
  go_wp2_with fail
  clear x0 x1 x2
  refine (free_any HBX.out.led HFIT.out).mono ?_
  rintro e w7 ⟨rfl, hb7⟩
  rw [show R.abs.free = f1 from HFF1.out]
  have HBX := hide (HBX.out.then hb7)
  have HYM := hide (HYM.out.then hb7)
  have HB := hide (HB.out.trans (hb7.mono HB.out.size))
  have hmr := HBX.out.m4 HRO.out
  have hmy := HYM.out.m4 HMO.out
  have hmm : mYM = mr := by have := HLM.out; omega
  have hfr1 : f1 ≤ f2 := HFR.out.1
  have hfr2 : 0 < mr → T ≤ f2 := fun h => HFR.out.2 (by omega)
  have HFR2 := hide hfr2
  obtain ⟨hmr1, hmr2⟩ := hmr
  clear hb7 hmy hmr1 hfr2
  rw [hmm] at HYM
  try rw [hmm]
  clear hmm
  go_upto_region 8 with fail
  go_cut [92] (fun v92 wc => v92 = .bool false ∧ Hid (LBox wc X R.abs F N ar mr cr) ∧ Hid (LBox wc YM M.abs T N aYM mr cYM) ∧ Hid (Below w.heap.size w wc))
  case first =>
    have x0 := lcell_of HBX.out.cell 0 rfl
    have x1 := lcell_of HBX.out.cell 1 rfl
    have x2 := lcell_of HBX.out.cell 2 rfl
    have y0 := lcell_of HYM.out.cell 0 rfl
    have y1 := lcell_of HYM.out.cell 1 rfl
    have y2 := lcell_of HYM.out.cell 2 rfl
    go_wp2_with fail
    clear x0 x1 x2 y0 y1 y2
    refine (free_any HYM.out.led HFM.out).mono ?_
    rintro e w8 ⟨rfl, hb8⟩
    rw [show M.abs.free = f2 from HFF2.out]
    have HBX := hide (HBX.out.then hb8)
    have HYM := hide (HYM.out.then hb8)
    have HB := hide (HB.out.trans (hb8.mono HB.out.size))
    clear hb8
    have y0 := lcell_of HYM.out.cell 0 rfl
    have y1 := lcell_of HYM.out.cell 1 rfl
    have y2 := lcell_of HYM.out.cell 2 rfl
    go_wp2_with fail
    clear y0 y1 y2
    refine (free_any HYM.out.led HFM.out).mono ?_
    rintro e w9 ⟨rfl, hb9⟩
    rw [show M.abs.free = f2 from HFF2.out]
    have HBX := hide (HBX.out.then hb9)
    have HYM := hide (HYM.out.then hb9)
    have HB := hide (HB.out.trans (hb9.mono HB.out.size))
    clear hb9
    have y0 := lcell_of HYM.out.cell 0 rfl
    have y1 := lcell_of HYM.out.cell 1 rfl
    have y2 := lcell_of HYM.out.cell 2 rfl
    by_cases hft : f2 < T
    · have hz : mr = 0 := by
        rcases Nat.eq_zero_or_pos mr with h | h
        · exact h
        · have := HFR2.out h; omega
      have hz2 : ((mr : Nat) : Int) = 0 := by omega
      go_wp2
      go_meet
      case rel => exact ⟨congrArg Value.bool (decide_eq_false (by omega)), HBX, HYM, HB⟩
    · go_wp2
      go_meet
      case rel => exact ⟨congrArg Value.bool (decide_eq_false (by omega)), HBX, HYM, HB⟩
  case rest =>
  obtain ⟨rfl, HBX, HYM, HB⟩ := hcut
  obtain ⟨w10, hwn⟩ : ∃ W, wc = W := ⟨_, rfl⟩
  rw [hwn] at HBX HYM HB ⊢
  clear hwn
  have HN7 := hide hn7
  have HTN := hide (show T ≤ 10000000 by have := HF1.out; have h := HMO.out.fn; have h2 := HF2.out; have h3 : M.abs.first = M.first := rfl; have h4 : M.abs.next = M.next := rfl; omega)
  have x0 := lcell_of HBX.out.cell 0 rfl
  have x1 := lcell_of HBX.out.cell 1 rfl
  have x2 := lcell_of HBX.out.cell 2 rfl
  go_wp2
  clear x0 x1 x2
  go_loopw [11] (fun v11 wr => ∃ j : Nat, v11 = .int .i64 (j : Int) ∧ j ≤ mr ∧ Hid (LBox wr X R.abs F N ar mr cr) ∧ Hid (LBox wr YM M.abs T N aYM mr cYM) ∧ Hid (Below w.heap.size w wr)) (fun v11 _ => mr - (intOf v11).toNat)
  case atStart => exact ⟨0, rfl, Nat.zero_le _, HBX, HYM, HB⟩
  case round =>
    clear HBX HYM HB
    obtain ⟨j, rfl, hj, HBX, HYM, HB⟩ := hrel
    by_cases hlt : j < mr
    case neg =>
      have e : ((j : Nat) : Int) = (mr : Int) := by omega
      have x0 := lcell_of HBX.out.cell 0 rfl
      have x1 := lcell_of HBX.out.cell 1 rfl
      have x2 := lcell_of HBX.out.cell 2 rfl
      go_upto_region 22 with fail
      clear x0 x1 x2 e
      obtain ⟨T1, hT1⟩ : ∃ x, T - 1 = x := ⟨_, rfl⟩
      obtain ⟨N1, hN1⟩ : ∃ x, N + 1 = x := ⟨_, rfl⟩
      have t1 : ((T : Nat) : Int) - 1 = (T1 : Int) := by have := HT0.out; omega
      have t2 : IntKind.u64.wrap ((T1 : Nat) : Int) = (T1 : Int) := by rw [IntKind.wrap_u64]; have := HTN.out; omega
      have t3 : ((N : Nat) : Int) + 1 = (N1 : Int) := by omega
      have t4 : IntKind.u64.wrap ((N1 : Nat) : Int) = (N1 : Int) := by rw [IntKind.wrap_u64]; have := HN7.out; omega
      have HB1 := hide (hT1 ▸ HB1.out)
      have HB2 := hide (hN1 ▸ HB2.out)
      obtain ⟨Fz, hFz⟩ : ∃ x, (Ldg.Rl.none.abs).first = x := ⟨_, rfl⟩
      obtain ⟨Nz, hNz⟩ : ∃ x, (Ldg.Rl.none.abs).next = x := ⟨_, rfl⟩
      have FzE := hide hFz
      have NzE := hide hNz
      clear hFz hNz hT1 hN1
      have x0 := lcell_of HYM.out.cell 0 rfl
      have x1 := lcell_of HYM.out.cell 1 rfl
      have x2 := lcell_of HYM.out.cell 2 rfl
      go_wp2_with fail
      clear x0 x1 x2
      refine (levict_any HYM.out.led HFM.out T1).mono ?_
      rintro e wz ⟨rv, rfl, hl, hbz⟩
      rw [HB1.out] at hl ⊢
      obtain ⟨aYA, mYA, cYA, rfl, hmm, hl⟩ := hl.view
      clear hmm
      obtain ⟨fm, hfm⟩ : ∃ x, (Ldg.Rl.none.abs).first = x := ⟨_, rfl⟩
      obtain ⟨nm, hnm⟩ : ∃ x, (Ldg.Rl.none.abs).next = x := ⟨_, rfl⟩
      have e1 : fm = Fz := by rw [← hfm]; exact FzE.out
      have e2 : nm = Nz := by rw [← hnm]; exact NzE.out
      rw [hfm, hnm, e1, e2] at hl ⊢
      clear hfm hnm e1 e2
      have hbx := LBox.new hl
      have hbn := bl hbz (bnew wz (.cells #[.int .u64 (Fz : Int), .int .u64 (Nz : Int), .slice aYA mYA cYA] 27))
      obtain ⟨w11, hwB⟩ : ∃ W, wz.alloc (.cells #[.int .u64 (Fz : Int), .int .u64 (Nz : Int), .slice aYA mYA cYA] 27) = W := ⟨_, rfl⟩
      obtain ⟨YA, hY⟩ : ∃ y, wz.heap.size = y := ⟨_, rfl⟩
      rw [hwB, hY] at hbx
      rw [hwB] at hbn
      have HYA := hide hbx
      have HWB := hide hwB
      have HYB := hide hY
      have HB := hide (HB.out.trans (hbn.mono HB.out.size))
      have HYM := hide (HYM.out.then hbn)
      clear hl hbz hbx hbn hwB hY
      go_upto_region 23 with fail
      try rw [HWB.out]
      try rw [HYB.out]
      clear HWB HYB
      have x0 := lcell_of HYM.out.cell 0 rfl
      have x1 := lcell_of HYM.out.cell 1 rfl
      have x2 := lcell_of HYM.out.cell 2 rfl
      go_wp2_with fail
      clear x0 x1 x2
      refine (levict_any HYM.out.led HFM.out N1).mono ?_
      rintro e wz ⟨rv, rfl, hl, hbz⟩
      rw [HB2.out] at hl ⊢
      obtain ⟨aYB, mYB, cYB, rfl, hmm, hl⟩ := hl.view
      clear hmm
      obtain ⟨fm, hfm⟩ : ∃ x, (Ldg.Rl.none.abs).first = x := ⟨_, rfl⟩
      obtain ⟨nm, hnm⟩ : ∃ x, (Ldg.Rl.none.abs).next = x := ⟨_, rfl⟩
      have e1 : fm = Fz := by rw [← hfm]; exact FzE.out
      have e2 : nm = Nz := by rw [← hnm]; exact NzE.out
      rw [hfm, hnm, e1, e2] at hl ⊢
      clear hfm hnm e1 e2
      have hbx := LBox.new hl
      have hbn := bl hbz (bnew wz (.cells #[.int .u64 (Fz : Int), .int .u64 (Nz : Int), .slice aYB mYB cYB] 27))
      obtain ⟨w12, hwB⟩ : ∃ W, wz.alloc (.cells #[.int .u64 (Fz : Int), .int .u64 (Nz : Int), .slice aYB mYB cYB] 27) = W := ⟨_, rfl⟩
      obtain ⟨YB, hY⟩ : ∃ y, wz.heap.size = y := ⟨_, rfl⟩
      rw [hwB, hY] at hbx
      rw [hwB] at hbn
      have HYB := hide hbx
      have HWB := hide hwB
      have HYB := hide hY
      have HB := hide (HB.out.trans (hbn.mono HB.out.size))
      have HYM := hide (HYM.out.then hbn)
      clear hl hbz hbx hbn hwB hY
      go_upto_region 24 with fail
      try rw [HWB.out]
      try rw [HYB.out]
      clear HWB HYB
      go_wp2
      go_ret
      exact ⟨rfl, HB.out⟩
    obtain ⟨b1, off1, sv1, nm, ds, lo, ak, ev, rj, hk1, rfl, hbl1, hrc, hrl, _⟩ := HBX.out.rc hlt
    obtain ⟨b2, off2, sv2, nm2, ds2, lo2, ak2, ev2, rj2, hk2, rfl, hbl2, hrc2, hrl2, _⟩ := HYM.out.rc hlt
    obtain ⟨_, hnn, hcv, hcp, hcz⟩ := HCAT.out j hk1
    have hle := hrl.le HRO.out (List.getElem_mem hk1)
    have hle2 := hrl2.le HMO.out (List.getElem_mem hk2)
    have hpl := Ldg.pend_len HRO.out nm
    rw [← hrl.nm] at hcv hcp hcz
    rw [← hrl.ev, ← hrl2.ev] at hcv
    obtain ⟨pa, hpa⟩ : ∃ x, R.pend nm = x := ⟨_, rfl⟩
    rw [hpa] at hcv hcp hcz hpl
    obtain ⟨gn, hgn⟩ : ∃ x, Ldg.cnt T pa = x := ⟨_, rfl⟩
    have hgl : gn ≤ pa.length := by rw [← hgn]; exact Ldg.cnt_le _ _
    rw [hgn] at hcv hcp hcz
    rw [HFF1.out] at hcz
    have HPA := hide hpa
    have HCV := hide hcv
    have HCP := hide hcp
    have HCZ := hide hcz
    have HGN := hide hgn
    have HGL := hide hgl
    have HLE := hide hle
    have HLE2 := hide hle2
    have HPL := hide hpl
    have HRC := hide hrc
    have HRC2 := hide hrc2
    have HNB := hide hbl1
    have HNB2 := hide hbl2
    clear hrc hrl hrc2 hrl2 hnn hcv hcp hcz hle hle2 hpa hpl hbl1 hbl2 hgn hgl
    have x0 := lcell_of HBX.out.cell 0 rfl
    have x1 := lcell_of HBX.out.cell 1 rfl
    have x2 := lcell_of HBX.out.cell 2 rfl
    have g0 := HRC.out.c0
    go_wp2_with fail
    clear x0 x1 x2 g0
    refine wp_region_growK (fun q => q < wr.heap.size) [([0, 1, 2, 3, 4, 5, 6], 7)] [8] [] (by kernel_rfl) (by kernel_rfl) (by kernel_rfl) (by kernel_rfl) ?_
    intro wq hbq
    simp only [stagesOfK, getLK, pickLK]
    have inh : Nonempty (GrK (fun q => q < wr.heap.size) wq) := GrK.some _ wq
    have x0 := fun z : GrK (fun q => q < wr.heap.size) wq => z.cell (a := ⟨X, 0, none⟩) HBX.out.lt (lcell_of (HBX.out.then hbq).cell 0 rfl)
    have x1 := fun z : GrK (fun q => q < wr.heap.size) wq => z.cell (a := ⟨X, 1, none⟩) HBX.out.lt (lcell_of (HBX.out.then hbq).cell 1 rfl)
    have x2 := fun z : GrK (fun q => q < wr.heap.size) wq => z.cell (a := ⟨X, 2, none⟩) HBX.out.lt (lcell_of (HBX.out.then hbq).cell 2 rfl)
    have g0 := fun z : GrK (fun q => q < wr.heap.size) wq => z.cell (a := ⟨b1, off1 + j * 7, none⟩) HNB.out (HRC.out.then hbq HNB.out).c0
    have HQ := hide (HBX.out.then hbq)
    have HSQ := hide hbq.size
    have HBQ := hide hbq
    clear hbq
    refine wpG_stageK ?_
    repeat (go_big_quiet_step (fail))
    refine wpQuiet_nil ?_
    clear x0 x1 x2 g0 inh
    go_wp2_with fail
    refine (pending_any HQ.out.led HFIT.out (Ldg.abs_right HRO.out) nm).mono ?_
    rintro e w5 ⟨pv, rfl, ho, hbz⟩
    rw [Ldg.abs_pend HRO.out, HPA.out] at ho
    obtain ⟨ava, cava, rfl, hcapava, _, hu⟩ := ho.sl
    obtain ⟨la, hla⟩ : ∃ x, (pa).length = x := ⟨_, rfl⟩
    rw [hla] at hcapava ⊢
    have Hcava := hide hcapava
    clear hcapava
    have Hava := hide hu.up
    have Hla := hide hla
    have hkz : Kept (fun q => q < wr.heap.size) wq w5 := Kept.of_below hbz (fun q hq => Nat.lt_of_lt_of_le hq HSQ.out)
    have hbz := bl HBQ.out hbz
    have HB := hide (HB.out.trans (hbz.mono HB.out.size))
    have HBX := hide (HBX.out.then hbz)
    have HYM := hide (HYM.out.then hbz)
    have HRC := hide (HRC.out.then hbz HNB.out)
    have HRC2 := hide (HRC2.out.then hbz HNB2.out)
    have HNB := hide (Nat.lt_of_lt_of_le HNB.out hbz.size)
    have HNB2 := hide (Nat.lt_of_lt_of_le HNB2.out hbz.size)
    clear ho hu hla hbz
    go_wp2
    refine OnToK.mk hkz (Sub.refl _) ?_
    clear hkz HQ HSQ HBQ
    have inh : Nonempty (GrK (fun q => q < wr.heap.size) w5) := GrK.some _ w5
    refine wpG_lastK ?_
    repeat (go_big_quiet_step (fail))
    refine wpQuiet_nil ?_
    clear inh
    have hla7 : la ≤ 10000000 := by rw [← Hla.out]; exact HPL.out
    go_wp2
    go_loopw [13, 14] (fun v13 v14 wr' => ∃ (q c : Nat), v14 = .int .i64 (q : Int) ∧ v13 = .int .u64 (c : Int) ∧ Hid (Ldg.cnt T (pa.take q) = c) ∧ q ≤ la ∧ wr' = w5) (fun _ v14 _ => la - (intOf v14).toNat)
    case atStart => exact ⟨0, 0, rfl, rfl, hide rfl, Nat.zero_le _, rfl⟩
    case round =>
      obtain ⟨q, c, rfl, rfl, HC, hq, hww⟩ := hrel
      rw [hww]
      clear hww
      by_cases hql : q < la
      · have hql2 : q < pa.length := by rw [Hla.out]; exact hql
        obtain ⟨b3, off3, rfl, hbl3, _, hcs⟩ := Hava.out q hql2
        have g1 := hcs q hql2
        obtain ⟨v, hv⟩ : ∃ v, pa[q] = v := ⟨_, rfl⟩
        rw [hv] at g1
        have hstep : Ldg.cnt T (pa.take (q + 1)) = c + (if v < T then 1 else 0) := by
          rw [← hv]; rw [List.take_succ_eq_append_getElem hql2, Ldg.cnt_app, HC.out]
          unfold Ldg.cnt
          by_cases h : pa[q] < T <;> simp [h]
        have HV := hide hv
        have hc7 : c ≤ la := by rw [← HC.out, ← Hla.out]; exact Nat.le_trans (Ldg.cnt_le _ _) (by rw [List.length_take]; exact Nat.min_le_right _ _)
        clear hv hcs
        by_cases hvt : v < T
        · rw [if_pos hvt] at hstep
          have HST := hide hstep
          have k1 : IntKind.u64.wrap (((c : Nat) : Int) + 1) = ((c + 1 : Nat) : Int) := by rw [IntKind.wrap_u64]; omega
          clear hstep
          go_wp2
          go_roundw
          case rel => exact ⟨q + 1, c + 1, by go_num, by go_num, hide HST.out, by omega, by first | exact rfl | trivial⟩
          case measure => simp [intOf]; omega
        · rw [if_neg hvt] at hstep
          have HST := hide hstep
          clear hstep
          go_wp2
          go_roundw
          case rel => exact ⟨q + 1, c, by go_num, rfl, hide HST.out, by omega, by first | exact rfl | trivial⟩
          case measure => simp [intOf]; omega
      · have hqe : q = la := by omega
        have hce : c = gn := by rw [← HC.out, ← HGN.out, hqe, ← Hla.out, List.take_length]
        subst hqe
        subst hce
        have hcl : c ≤ q := by rw [← Hla.out]; exact HGL.out
        have q1 : ((ev : Nat) : Int) + (c : Int) = (ev2 : Int) := by have := HCV.out; omega
        have q2 : IntKind.u64.wrap ((ev2 : Nat) : Int) = (ev2 : Int) := by rw [IntKind.wrap_u64]; have := HLE2.out; omega
        have q3 : T ≤ f1 → c = 0 := HCZ.out
        obtain ⟨rs, hrs, hus⟩ := from_nums (Hava.out) Hla.out.symm Hcava.out hcl
        have HUS := hide hus
        obtain ⟨ld, hld⟩ : ∃ x, q - c = x := ⟨_, rfl⟩
        rw [hld] at hrs
        have HLD := hide hld
        have hdl : (pa.drop c).length = ld := by rw [List.length_drop, Hla.out, hld]
        have HDL := hide hdl
        clear hus hld hdl
        by_cases hTf : T ≤ f1
        · have hc0 : decide (0 < c) = false := decide_eq_false (by have := q3 hTf; omega)
          clear q3
          go_wp2_with fail
          refine wp_region_growK (fun q => q < w5.heap.size) [([0, 1, 2, 3, 4, 5, 6, 7, 8, 9, 10, 11, 12, 13, 14, 15, 16, 17, 18, 19, 20, 21, 22, 23, 24, 25, 26, 27, 28, 29, 30, 31, 33, 34, 35], 32), ([], 36)] [37, 38] [] (by kernel_rfl) (by kernel_rfl) (by kernel_rfl) (by kernel_rfl) ?_
          intro wq hbq
          simp only [stagesOfK, getLK, pickLK]
          have inh : Nonempty (GrK (fun q => q < w5.heap.size) wq) := GrK.some _ wq
          have x0 := fun z : GrK (fun q => q < w5.heap.size) wq => z.cell (a := ⟨YM, 0, none⟩) HYM.out.lt (lcell_of (HYM.out.then hbq).cell 0 rfl)
          have x1 := fun z : GrK (fun q => q < w5.heap.size) wq => z.cell (a := ⟨YM, 1, none⟩) HYM.out.lt (lcell_of (HYM.out.then hbq).cell 1 rfl)
          have x2 := fun z : GrK (fun q => q < w5.heap.size) wq => z.cell (a := ⟨YM, 2, none⟩) HYM.out.lt (lcell_of (HYM.out.then hbq).cell 2 rfl)
          have y2 := fun z : GrK (fun q => q < w5.heap.size) wq => z.cell (a := ⟨X, 2, none⟩) HBX.out.lt (lcell_of (HBX.out.then hbq).cell 2 rfl)
          have p5 := fun z : GrK (fun q => q < w5.heap.size) wq => z.cell (a := ⟨b2, off2 + j * 7 + 5, none⟩) HNB2.out (HRC2.out.then hbq HNB2.out).c5
          have g0 := fun z : GrK (fun q => q < w5.heap.size) wq => z.cell (a := ⟨b1, off1 + j * 7, none⟩) HNB.out (HRC.out.then hbq HNB.out).c0
          have g5 := fun z : GrK (fun q => q < w5.heap.size) wq => z.cell (a := ⟨b1, off1 + j * 7 + 5, none⟩) HNB.out (HRC.out.then hbq HNB.out).c5
          have HYM := hide (HYM.out.then hbq)
          have HBX := hide (HBX.out.then hbq)
          have HB := hide (HB.out.trans (hbq.mono HB.out.size))
          have HUS := hide (HUS.out.later hbq)
          have HSQ := hide hbq.size
          clear hbq
          refine wpG_stageK ?_
          repeat (go_big_quiet_step (fail))
          refine wpQuiet_nil ?_
          clear x0 x1 x2 y2 p5 g0 g5 inh
          go_wp2_with fail
          refine (pending_any HYM.out.led HFM.out (Ldg.abs_right HMO.out) nm).mono ?_
          rintro e w6 ⟨pv, rfl, ho, hb6⟩
          rw [Ldg.abs_pend HMO.out, HCP.out] at ho
          obtain ⟨ab, cab, rfl, _, _, hu⟩ := ho.sl
          have HAB := hide hu.up
          rw [HDL.out]
          have hk6 : Kept (fun q => q < w5.heap.size) wq w6 := Kept.of_below hb6 (fun q hq => Nat.lt_of_lt_of_le hq HSQ.out)
          have HYM := hide (HYM.out.then hb6)
          have HBX := hide (HBX.out.then hb6)
          have HB := hide (HB.out.trans (hb6.mono HB.out.size))
          have HUS := hide (HUS.out.later hb6)
          have HSQ := hide (Nat.le_trans HSQ.out hb6.size)
          clear hb6 ho hu
          go_wp2
          refine OnToK.mk hk6 (Sub.refl _) ?_
          clear hk6
          refine wpG_stageK (wpQuiet_nil ?_)
          go_wp2_with fail
          refine (usame_yes HAB.out HUS.out (by rw [HDL.out]; have := HLD.out; omega) HDL.out.symm).mono ?_
          rintro e w7 ⟨rfl, hb7⟩
          have hk7 : Kept (fun q => q < w5.heap.size) w6 w7 := Kept.of_below hb7 (fun q hq => Nat.lt_of_lt_of_le hq HSQ.out)
          have HYM := hide (HYM.out.then hb7)
          have HBX := hide (HBX.out.then hb7)
          have HB := hide (HB.out.trans (hb7.mono HB.out.size))
          clear hb7
          go_wp2
          refine OnToK.mk hk7 (Sub.refl _) ?_
          clear hk7
          have inh : Nonempty (GrK (fun q => q < w5.heap.size) w7) := GrK.some _ w7
          refine wpG_lastK ?_
          repeat (go_big_quiet_step (fail))
          refine wpQuiet_nil ?_
          clear inh
          go_wp2
          go_roundw
          case rel => exact ⟨j + 1, by go_num, by omega, HBX, HYM, HB⟩
          case measure => simp [intOf]; omega
        · clear q3
          go_wp2_with fail
          refine wp_region_growK (fun q => q < w5.heap.size) [([0, 1, 2, 3, 4, 5, 6, 7, 8, 9, 10, 11, 12, 13, 14, 15, 16, 17, 18, 19, 20, 21, 22, 23, 24, 25, 26, 27, 28, 29, 30, 31, 33, 34, 35], 32), ([], 36)] [37, 38] [] (by kernel_rfl) (by kernel_rfl) (by kernel_rfl) (by kernel_rfl) ?_
          intro wq hbq
          simp only [stagesOfK, getLK, pickLK]
          have inh : Nonempty (GrK (fun q => q < w5.heap.size) wq) := GrK.some _ wq
          have x0 := fun z : GrK (fun q => q < w5.heap.size) wq => z.cell (a := ⟨YM, 0, none⟩) HYM.out.lt (lcell_of (HYM.out.then hbq).cell 0 rfl)
          have x1 := fun z : GrK (fun q => q < w5.heap.size) wq => z.cell (a := ⟨YM, 1, none⟩) HYM.out.lt (lcell_of (HYM.out.then hbq).cell 1 rfl)
          have x2 := fun z : GrK (fun q => q < w5.heap.size) wq => z.cell (a := ⟨YM, 2, none⟩) HYM.out.lt (lcell_of (HYM.out.then hbq).cell 2 rfl)
          have y2 := fun z : GrK (fun q => q < w5.heap.size) wq => z.cell (a := ⟨X, 2, none⟩) HBX.out.lt (lcell_of (HBX.out.then hbq).cell 2 rfl)
          have p5 := fun z : GrK (fun q => q < w5.heap.size) wq => z.cell (a := ⟨b2, off2 + j * 7 + 5, none⟩) HNB2.out (HRC2.out.then hbq HNB2.out).c5
          have g0 := fun z : GrK (fun q => q < w5.heap.size) wq => z.cell (a := ⟨b1, off1 + j * 7, none⟩) HNB.out (HRC.out.then hbq HNB.out).c0
          have g5 := fun z : GrK (fun q => q < w5.heap.size) wq => z.cell (a := ⟨b1, off1 + j * 7 + 5, none⟩) HNB.out (HRC.out.then hbq HNB.out).c5
          have HYM := hide (HYM.out.then hbq)
          have HBX := hide (HBX.out.then hbq)
          have HB := hide (HB.out.trans (hbq.mono HB.out.size))
          have HUS := hide (HUS.out.later hbq)
          have HSQ := hide hbq.size
          clear hbq
          refine wpG_stageK ?_
          repeat (go_big_quiet_step (fail))
          refine wpQuiet_nil ?_
          clear x0 x1 x2 y2 p5 g0 g5 inh
          go_wp2_with fail
          refine (pending_any HYM.out.led HFM.out (Ldg.abs_right HMO.out) nm).mono ?_
          rintro e w6 ⟨pv, rfl, ho, hb6⟩
          rw [Ldg.abs_pend HMO.out, HCP.out] at ho
          obtain ⟨ab, cab, rfl, _, _, hu⟩ := ho.sl
          have HAB := hide hu.up
          rw [HDL.out]
          have hk6 : Kept (fun q => q < w5.heap.size) wq w6 := Kept.of_below hb6 (fun q hq => Nat.lt_of_lt_of_le hq HSQ.out)
          have HYM := hide (HYM.out.then hb6)
          have HBX := hide (HBX.out.then hb6)
          have HB := hide (HB.out.trans (hb6.mono HB.out.size))
          have HUS := hide (HUS.out.later hb6)
          have HSQ := hide (Nat.le_trans HSQ.out hb6.size)
          clear hb6 ho hu
          go_wp2
          refine OnToK.mk hk6 (Sub.refl _) ?_
          clear hk6
          refine wpG_stageK (wpQuiet_nil ?_)
          go_wp2_with fail
          refine (usame_yes HAB.out HUS.out (by rw [HDL.out]; have := HLD.out; omega) HDL.out.symm).mono ?_
          rintro e w7 ⟨rfl, hb7⟩
          have hk7 : Kept (fun q => q < w5.heap.size) w6 w7 := Kept.of_below hb7 (fun q hq => Nat.lt_of_lt_of_le hq HSQ.out)
          have HYM := hide (HYM.out.then hb7)
          have HBX := hide (HBX.out.then hb7)
          have HB := hide (HB.out.trans (hb7.mono HB.out.size))
          clear hb7
          go_wp2
          refine OnToK.mk hk7 (Sub.refl _) ?_
          clear hk7
          have inh : Nonempty (GrK (fun q => q < w5.heap.size) w7) := GrK.some _ w7
          refine wpG_lastK ?_
          repeat (go_big_quiet_step (fail))
          refine wpQuiet_nil ?_
          clear inh
          go_wp2
          go_roundw
          case rel => exact ⟨j + 1, by go_num, by omega, HBX, HYM, HB⟩
          case measure => simp [intOf]; omega
end Go.Proofs.Ytcegdmdnpepliaa
