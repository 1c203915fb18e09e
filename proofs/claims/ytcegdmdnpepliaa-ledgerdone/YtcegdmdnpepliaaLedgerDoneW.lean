/-
  The walk of LedgerDone.
-/
import Derived.Test.YtcegdmdnpepliaaLdgRowCW
import Derived.Test.YtcegdmdnpepliaaLdgDoneW
import Derived.Test.YtcegdmdnpepliaaLdgReadW
import Derived.Test.YtcegdmdnpepliaaLdgRead3W
import Derived.Test.YtcegdmdnpepliaaGrowP
import Derived.Deep.DeepCutAuto
namespace Go.Proofs.Ytcegdmdnpepliaa
open Go.RowKit
open Ldg (De Le Rd Rl actL runL aN)

set_option linter.unusedVariables false in
set_option maxRecDepth 100000 in
set_option maxHeartbeats 600000 in
theorem walkLedgerDone (a0 : Option Addr) (cap0 : Nat) (l : List La) (a1 a2 : Int) (b3 : Bool) (w : World) (ha : LasAt w a0 l) (hl : l.length ≤ 9223372036854775807) (hcap : l.length ≤ cap0) (hok : ∀ p ∈ l, LaOk p) (hno : a0 = none → cap0 = 0) (h1 : -9223372036854775808 ≤ a1 ∧ a1 ≤ 9223372036854775807) (h2 : -9223372036854775808 ≤ a2 ∧ a2 ≤ 9223372036854775807) :
    Calls Try.prog 5 #[.slice a0 l.length cap0, .int .i64 a1, .int .i64 a2, .bool b3] w fun e w' => e = .returned (.bool true) ∧ Below w.heap.size w w' := by
  have HA := hide ha
  have HOK := hide hok
  clear ha hok
  by_cases hlen : l.length ≤ 100
  case neg =>
    go_enter Try.func5, Try.ntmps5
    go_wp2_with fail
    refine (lshown_any _).mono ?_
    rintro e w1 ⟨rfl, hb1⟩
    go_wp2
    go_ret
    exact ⟨rfl, hb1⟩
  obtain ⟨p, hp⟩ : ∃ p, (runL l).pend (nameAt (pk a1 6)) = p := ⟨_, rfl⟩
  obtain ⟨hRok, hRn⟩ := Ldg.run_ok (l := l) (by omega)
  obtain ⟨R, hR⟩ : ∃ R, runL l = R := ⟨_, rfl⟩
  rw [hR] at hRok hRn
  have HR := hide hR
  have HRO := hide hRok
  have HRN := hide hRn
  have HFIT := hide (Ldg.abs_fit hRok)
  obtain ⟨n, hn⟩ : ∃ n, nameAt (pk a1 6) = n := ⟨_, rfl⟩
  have HN := hide hn
  clear hn
  clear hR hRok hRn
  rw [HR.out, HN.out] at hp
  have HP := hide hp
  obtain ⟨lp, hlp⟩ : ∃ x, p.length = x := ⟨_, rfl⟩
  have hlp2 : lp ≤ 10000000 := by rw [← hlp, ← hp]; exact Ldg.pend_len HRO.out n
  obtain ⟨i, hi⟩ : ∃ x, pk a2 lp = x := ⟨_, rfl⟩
  have HI := hide hi
  have HLP := hide hlp
  clear hp hlp hi
  go_enter Try.func5, Try.ntmps5
  go_wp2_with fail
  refine (lshown_any _).mono ?_
  rintro e w1 ⟨rfl, hb1⟩
  have HB := hide hb1
  clear hb1
  go_wp2_with fail
  refine (run_any cap0 (HA.out.below HB.out) HOK.out (by omega)).mono ?_
  rintro e w2 ⟨ar, mr, cr, rfl, hled, hb2⟩
  rw [HR.out] at hled ⊢
  have HBW := hide (bl HB.out hb2)
  have HB := HBW
  have hbx := LBox.new hled
  obtain ⟨F, hF⟩ : ∃ x, R.first = x := ⟨_, rfl⟩
  obtain ⟨N, hN⟩ : ∃ x, R.next = x := ⟨_, rfl⟩
  have HF := hide hF
  have HNX := hide hN
  obtain ⟨X, hX⟩ : ∃ x, w2.heap.size = x := ⟨_, rfl⟩
  rw [hF, hN] at hbx ⊢
  rw [hX] at hbx
  have HBX := hide hbx
  have HX := hide hX
  clear hled hb2 hbx hF hN
  go_wp2_with fail
  try rw [hX]
  clear hX
  refine (lname_any a1 _ h1.1 h1.2).mono ?_
  rintro e w3 ⟨rfl, hb3⟩
  rw [HN.out]
  have HBX := hide (HBX.out.then hb3)
  have HB := hide (bl (bl HB.out (bnew w2 (.cells #[.int .u64 (F : Int), .int .u64 (N : Int), .slice ar mr cr] 27))) hb3)
  have HXW := hide (show w.heap.size ≤ X ∧ X < w3.heap.size from ⟨by have := HBW.out.size; have := HX.out; omega, HBX.out.lt⟩)
  clear hb3
  have x0 := lcell_of HBX.out.cell 0 rfl
  have x1 := lcell_of HBX.out.cell 1 rfl
  have x2 := lcell_of HBX.out.cell 2 rfl
  go_wp2_with fail
  clear x0 x1 x2
  refine (pending_any HBX.out.led HFIT.out (Ldg.abs_right HRO.out) n).mono ?_
  rintro e w4 ⟨pv, rfl, ho, hb4⟩
  rw [Ldg.abs_pend HRO.out, HP.out] at ho
  obtain ⟨ap, cp, rfl, _, _, hu⟩ := ho.sl
  have HU := hide hu.up
  have HBX := hide (HBX.out.then hb4)
  have HB := hide (HB.out.trans (hb4.mono HB.out.size))
  rw [HLP.out]
  clear hb4 ho hu
  by_cases hlp3 : lp = 0
  · have hlz : ((lp : Nat) : Int) = 0 := by omega
    go_wp2
    go_ret
    exact ⟨rfl, HB.out⟩
  have hil2 : i < lp := by rw [← HI.out]; exact pk_lt a2 (by omega)
  have hil : i < p.length := by rw [HLP.out]; exact hil2
  obtain ⟨s, hs⟩ : ∃ s, p[i] = s := ⟨_, rfl⟩
  have HSP : Hid (s ∈ R.pend n) := hide (by rw [HP.out, ← hs]; exact List.getElem_mem hil)
  obtain ⟨b, off, rfl, hbl, _, hcs⟩ := HU.out i hil
  have g1 := hcs i hil
  rw [hs] at g1
  clear hcs hs
  go_wp2_with fail
  refine (pick_any a2 lp _ h2.1 h2.2 (by omega) (by omega)).mono ?_
  rintro e w5 ⟨rfl, hw⟩
  rw [hw, HI.out]
  clear hw
  go_upto_if 49 with fail
  clear g1
  go_cut [14] (fun v14 wc => ∃ k : Nat, v14 = .int .u8 (k : Int) ∧ Hid (k = 97 ∨ k = 114) ∧ wc = w4)
  case first =>
    cases b3 <;> go_wp2
    all_goals (go_meet; case rel => exact ⟨_, rfl, hide (by decide), rfl⟩)
  case rest =>
  obtain ⟨k, rfl, HK, hwc⟩ := hcut
  rw [hwc]
  clear hwc
  obtain ⟨d, hl0, hsd, hpe⟩ := Ldg.pend_in_look HSP.out
  have hd1 := Ldg.done_is hl0 HK.out hsd
  have hM := Ldg.put_ok HRO.out hl0 HK.out hsd
  obtain ⟨hag, hw1, hw2⟩ := Ldg.again_is hl0 HK.out hsd
  have hat := fun j (hj : j < R.dests.length) => Ldg.put_at HRO.out hl0 HK.out hsd hj
  have hf1 : (R.put n (d.put s k)).first = R.first := rfl
  have hf2 : (R.put n (d.put s k)).next = R.next := rfl
  have hlm : (R.put n (d.put s k)).dests.length = R.dests.length := by show (R.dests.set _ _).length = _; rw [List.length_set]
  obtain ⟨M, hMe⟩ : ∃ M, R.put n (d.put s k) = M := ⟨_, rfl⟩
  rw [hMe] at hd1 hM hag hw1 hf1 hf2 hlm
  have HAT : Hid (∀ j (hj : j < R.dests.length), ∃ hi' : j < M.dests.length, M.dests[j].name = R.dests[j].name ∧ (R.dests[j].name ≠ n → M.pend R.dests[j].name = R.pend R.dests[j].name) ∧ (R.dests[j].name = n → (M.pend R.dests[j].name).length + 1 = (R.pend R.dests[j].name).length ∧ M.dests[j].all.count 97 + M.dests[j].all.count 114 = R.dests[j].all.count 97 + R.dests[j].all.count 114 + 1 ∧ M.dests[j].all.count 101 = R.dests[j].all.count 101)) := by
    subst hMe
    exact hide hat
  have HD1 := hide (show R.abs.done n s k = (M.abs, 0) by rw [Ldg.done_abs HRO.out, hd1])
  have HD2 := hide (show M.abs.done n s k = (Ldg.Rl.none.abs, 13) by rw [Ldg.done_abs hM, hag])
  have HW1 := hide (show M.abs.waits n s = false by rw [Ldg.abs_waits hM, hw1])
  have HW2 := hide (show R.abs.waits n s = true by rw [Ldg.abs_waits HRO.out, hw2])
  have HMO := hide hM
  have HFM := hide (Ldg.abs_fit hM)
  have HLM := hide hlm
  have HF1 := hide (show M.abs.first = F from hf1.trans HF.out)
  have HF2 := hide (show M.abs.next = N from hf2.trans HNX.out)
  clear hl0 hsd hpe hd1 hM hag hw1 hw2 hat hf1 hf2 hlm hMe
  have x0 := lcell_of HBX.out.cell 0 rfl
  have x1 := lcell_of HBX.out.cell 1 rfl
  have x2 := lcell_of HBX.out.cell 2 rfl
  go_wp2_with fail
  clear x0 x1 x2
  refine (ldone_any HBX.out.led HFIT.out n s k).mono ?_
  rintro e wz ⟨rv, rfl, hl, hbz⟩
  rw [HD1.out] at hl ⊢
  obtain ⟨aYM, mYM, cYM, rfl, hmm, hl⟩ := hl.view
  clear hmm
  obtain ⟨fm, hfm⟩ : ∃ x, (M.abs).first = x := ⟨_, rfl⟩
  obtain ⟨nm, hnm⟩ : ∃ x, (M.abs).next = x := ⟨_, rfl⟩
  have e1 : fm = F := by rw [← hfm]; exact HF1.out
  have e2 : nm = N := by rw [← hnm]; exact HF2.out
  rw [hfm, hnm, e1, e2] at hl ⊢
  clear hfm hnm e1 e2
  have hbx := LBox.new hl
  have hbn := bl hbz (bnew wz (.cells #[.int .u64 (F : Int), .int .u64 (N : Int), .slice aYM mYM cYM] 27))
  obtain ⟨w6, hwB⟩ : ∃ W, wz.alloc (.cells #[.int .u64 (F : Int), .int .u64 (N : Int), .slice aYM mYM cYM] 27) = W := ⟨_, rfl⟩
  obtain ⟨YM, hY⟩ : ∃ y, wz.heap.size = y := ⟨_, rfl⟩
  rw [hwB, hY] at hbx
  rw [hwB] at hbn
  have HYM := hide hbx
  have HWB := hide hwB
  have HYB := hide hY
  have HB := hide (HB.out.trans (hbn.mono HB.out.size))
  have HBX := hide (HBX.out.then hbn)
  clear hl hbz hbx hbn hwB hY
  go_upto_region 14 with fail
  try rw [HWB.out]
  try rw [HYB.out]
  clear HWB HYB
  obtain ⟨Fz, hFz⟩ : ∃ x, (Ldg.Rl.none.abs).first = x := ⟨_, rfl⟩
  obtain ⟨Nz, hNz⟩ : ∃ x, (Ldg.Rl.none.abs).next = x := ⟨_, rfl⟩
  have FzE := hide hFz
  have NzE := hide hNz
  clear hFz hNz
  have x0 := lcell_of HYM.out.cell 0 rfl
  have x1 := lcell_of HYM.out.cell 1 rfl
  have x2 := lcell_of HYM.out.cell 2 rfl
  go_wp2_with fail
  clear x0 x1 x2
  refine (ldone_any HYM.out.led HFM.out n s k).mono ?_
  rintro e wz ⟨rv, rfl, hl, hbz⟩
  rw [HD2.out] at hl ⊢
  obtain ⟨aYZ, mYZ, cYZ, rfl, hmm, hl⟩ := hl.view
  clear hmm
  obtain ⟨fm, hfm⟩ : ∃ x, (Ldg.Rl.none.abs).first = x := ⟨_, rfl⟩
  obtain ⟨nm, hnm⟩ : ∃ x, (Ldg.Rl.none.abs).next = x := ⟨_, rfl⟩
  have e1 : fm = Fz := by rw [← hfm]; exact FzE.out
  have e2 : nm = Nz := by rw [← hnm]; exact NzE.out
  rw [hfm, hnm, e1, e2] at hl ⊢
  clear hfm hnm e1 e2
  have hbx := LBox.new hl
  have hbn := bl hbz (bnew wz (.cells #[.int .u64 (Fz : Int), .int .u64 (Nz : Int), .slice aYZ mYZ cYZ] 27))
  obtain ⟨w7, hwB⟩ : ∃ W, wz.alloc (.cells #[.int .u64 (Fz : Int), .int .u64 (Nz : Int), .slice aYZ mYZ cYZ] 27) = W := ⟨_, rfl⟩
  obtain ⟨YZ, hY⟩ : ∃ y, wz.heap.size = y := ⟨_, rfl⟩
  rw [hwB, hY] at hbx
  rw [hwB] at hbn
  have HYZ := hide hbx
  have HWB := hide hwB
  have HYB := hide hY
  have HB := hide (HB.out.trans (hbn.mono HB.out.size))
  have HBX := hide (HBX.out.then hbn)
  have HYM := hide (HYM.out.then hbn)
  clear hl hbz hbx hbn hwB hY
  go_upto_region 15 with fail
  try rw [HWB.out]
  try rw [HYB.out]
  clear HWB HYB
  have x0 := lcell_of HYM.out.cell 0 rfl
  have x1 := lcell_of HYM.out.cell 1 rfl
  have x2 := lcell_of HYM.out.cell 2 rfl
  have y0 := lcell_of HBX.out.cell 0 rfl
  have y1 := lcell_of HBX.out.cell 1 rfl
  have y2 := lcell_of HBX.out.cell 2 rfl
  go_wp2_with fail
  clear x0 x1 x2 y0 y1 y2
  refine (waits_any HYM.out.led HFM.out n s).mono ?_
  rintro e w8 ⟨rfl, hb8⟩
  rw [HW1.out]
  have HBX := hide (HBX.out.then hb8)
  have HYM := hide (HYM.out.then hb8)
  have HB := hide (HB.out.trans (hb8.mono HB.out.size))
  clear hb8
  have y0 := lcell_of HBX.out.cell 0 rfl
  have y1 := lcell_of HBX.out.cell 1 rfl
  have y2 := lcell_of HBX.out.cell 2 rfl
  go_wp2_with fail
  clear y0 y1 y2
  refine (waits_any HBX.out.led HFIT.out n s).mono ?_
  rintro e w9 ⟨rfl, hb9⟩
  rw [HW2.out]
  have HBX := hide (HBX.out.then hb9)
  have HYM := hide (HYM.out.then hb9)
  have HB := hide (HB.out.trans (hb9.mono HB.out.size))
  clear hb9
  have x0 := lcell_of HYM.out.cell 0 rfl
  have x1 := lcell_of HYM.out.cell 1 rfl
  have x2 := lcell_of HYM.out.cell 2 rfl
  have y0 := lcell_of HBX.out.cell 0 rfl
  have y1 := lcell_of HBX.out.cell 1 rfl
  have y2 := lcell_of HBX.out.cell 2 rfl
  go_wp2
  clear x0 x1 x2 y0 y1 y2
  have hmr := HBX.out.m4 HRO.out
  have hmy := HYM.out.m4 HMO.out
  have HMR := hide (show mYM = mr by have := HLM.out; omega)
  obtain ⟨hmr1, hmr2⟩ := hmr
  clear hmy hmr1
  go_loopw [19] (fun v19 wr => ∃ j : Nat, v19 = .int .i64 (j : Int) ∧ j ≤ mr ∧ Hid (LBox wr X R.abs F N ar mr cr) ∧ Hid (LBox wr YM M.abs F N aYM mYM cYM) ∧ Hid (Below w.heap.size w wr)) (fun v19 _ => mr - (intOf v19).toNat)
  case atStart => exact ⟨0, rfl, Nat.zero_le _, HBX, HYM, HB⟩
  case round =>
    clear HBX HYM HB HU
    obtain ⟨j, rfl, hj, HBX, HYM, HB⟩ := hrel
    by_cases hlt : j < mr
    case neg =>
      have e : ((j : Nat) : Int) = (mr : Int) := by omega
      have x0 := lcell_of HBX.out.cell 0 rfl
      have x1 := lcell_of HBX.out.cell 1 rfl
      have x2 := lcell_of HBX.out.cell 2 rfl
      go_wp2
      go_ret
      exact ⟨rfl, HB.out⟩
    have hm4 := HBX.out.m4 HRO.out
    obtain ⟨b1, off1, sv1, nm, ds, lo, ak, ev, rj, hk1, rfl, hbl1, hrc, hrl, _⟩ := HBX.out.rc hlt
    have hltM : j < mYM := by rw [HMR.out]; exact hlt
    obtain ⟨b2, off2, sv2, nm2, ds2, lo2, ak2, ev2, rj2, hk2, rfl, hbl2, hrc2, hrl2, _⟩ := HYM.out.rc hltM
    obtain ⟨_, hnn, hne, heq⟩ := HAT.out j hk1
    have hle := hrl.le HRO.out (List.getElem_mem hk1)
    have hle2 := hrl2.le HMO.out (List.getElem_mem hk2)
    obtain ⟨pa, hpa⟩ : ∃ x, R.pend nm = x := ⟨_, rfl⟩
    obtain ⟨pb, hpb⟩ : ∃ x, M.pend nm = x := ⟨_, rfl⟩
    have hpl := Ldg.pend_len HRO.out nm
    rw [← hrl.nm] at hne heq
    rw [hpa] at hne heq hpl
    rw [hpb] at hne heq
    rw [← hrl.ak, ← hrl.rj, ← hrl.ev, ← hrl2.ak, ← hrl2.rj, ← hrl2.ev] at heq
    have HPA := hide hpa
    have HPB := hide hpb
    have HNE := hide hne
    have HEQ := hide heq
    have HLE := hide hle
    have HLE2 := hide hle2
    have HPL := hide hpl
    have HRC := hide hrc
    have HRC2 := hide hrc2
    have HNB := hide hbl1
    have HNB2 := hide hbl2
    have hjM := HMR.out
    have HJM := hide hltM
    clear hrc hrl hrc2 hrl2 hnn hne heq hle hle2 hpa hpb hpl hbl1 hbl2 hm4 hjM
    have x0 := lcell_of HBX.out.cell 0 rfl
    have x1 := lcell_of HBX.out.cell 1 rfl
    have x2 := lcell_of HBX.out.cell 2 rfl
    have g0 := HRC.out.c0
    go_wp2_with fail
    clear x0 x1 x2 g0
    refine wp_region_growK (fun q => q < wr.heap.size) [([0, 1, 2, 3, 4, 5, 6], 7)] [8] [] (by kernel_rfl) (by kernel_rfl) (by kernel_rfl) (by kernel_rfl) ?_
    intro wq hbq
    simp only [stagesOfK, getLK, pickLK]
    have inh : Nonempty (GrK (fun q => q < wr.heap.size) wq) := GrK.some _ wq
    have x0 := fun z : GrK (fun q => q < wr.heap.size) wq => z.cell (a := ⟨X, 0, none⟩) HBX.out.lt (lcell_of (HBX.out.then hbq).cell 0 rfl)
    have x1 := fun z : GrK (fun q => q < wr.heap.size) wq => z.cell (a := ⟨X, 1, none⟩) HBX.out.lt (lcell_of (HBX.out.then hbq).cell 1 rfl)
    have x2 := fun z : GrK (fun q => q < wr.heap.size) wq => z.cell (a := ⟨X, 2, none⟩) HBX.out.lt (lcell_of (HBX.out.then hbq).cell 2 rfl)
    have g0 := fun z : GrK (fun q => q < wr.heap.size) wq => z.cell (a := ⟨b1, off1 + j * 7, none⟩) HNB.out (HRC.out.then hbq HNB.out).c0
    have HQ := hide (HBX.out.then hbq)
    have HSQ := hide hbq.size
    have HBQ := hide hbq
    clear hbq
    refine wpG_stageK ?_
    repeat (go_big_quiet_step (fail))
    refine wpQuiet_nil ?_
    clear x0 x1 x2 g0 inh
    go_wp2_with fail
    refine (pending_any HQ.out.led HFIT.out (Ldg.abs_right HRO.out) nm).mono ?_
    rintro e w5 ⟨pv, rfl, ho, hbz⟩
    rw [Ldg.abs_pend HRO.out, HPA.out] at ho
    obtain ⟨ava, cava, rfl, _, _, hu⟩ := ho.sl
    obtain ⟨la, hla⟩ : ∃ x, (pa).length = x := ⟨_, rfl⟩
    rw [hla]
    have Hava := hide hu.up
    have Hla := hide hla
    have hkz : Kept (fun q => q < wr.heap.size) wq w5 := Kept.of_below hbz (fun q hq => Nat.lt_of_lt_of_le hq HSQ.out)
    have hbz := bl HBQ.out hbz
    have HB := hide (HB.out.trans (hbz.mono HB.out.size))
    have HBX := hide (HBX.out.then hbz)
    have HYM := hide (HYM.out.then hbz)
    have HRC := hide (HRC.out.then hbz HNB.out)
    have HRC2 := hide (HRC2.out.then hbz HNB2.out)
    have HNB := hide (Nat.lt_of_lt_of_le HNB.out hbz.size)
    have HNB2 := hide (Nat.lt_of_lt_of_le HNB2.out hbz.size)
    clear ho hu hla hbz
    go_wp2
    refine OnToK.mk hkz (Sub.refl _) ?_
    clear hkz HQ HSQ HBQ
    have inh : Nonempty (GrK (fun q => q < wr.heap.size) w5) := GrK.some _ w5
    refine wpG_lastK ?_
    repeat (go_big_quiet_step (fail))
    refine wpQuiet_nil ?_
    clear inh
    have x0 := lcell_of HYM.out.cell 0 rfl
    have x1 := lcell_of HYM.out.cell 1 rfl
    have x2 := lcell_of HYM.out.cell 2 rfl
    have y0 := lcell_of HBX.out.cell 0 rfl
    have y1 := lcell_of HBX.out.cell 1 rfl
    have y2 := lcell_of HBX.out.cell 2 rfl
    have g0 := HRC.out.c0
    go_wp2_with fail
    clear x0 x1 x2 y0 y1 y2 g0
    refine wp_region_growK (fun q => q < w5.heap.size) [([0, 1, 2, 3, 4, 5, 6], 7)] [8] [] (by kernel_rfl) (by kernel_rfl) (by kernel_rfl) (by kernel_rfl) ?_
    intro wq hbq
    simp only [stagesOfK, getLK, pickLK]
    have inh : Nonempty (GrK (fun q => q < w5.heap.size) wq) := GrK.some _ wq
    have x0 := fun z : GrK (fun q => q < w5.heap.size) wq => z.cell (a := ⟨YM, 0, none⟩) HYM.out.lt (lcell_of (HYM.out.then hbq).cell 0 rfl)
    have x1 := fun z : GrK (fun q => q < w5.heap.size) wq => z.cell (a := ⟨YM, 1, none⟩) HYM.out.lt (lcell_of (HYM.out.then hbq).cell 1 rfl)
    have x2 := fun z : GrK (fun q => q < w5.heap.size) wq => z.cell (a := ⟨YM, 2, none⟩) HYM.out.lt (lcell_of (HYM.out.then hbq).cell 2 rfl)
    have y0 := fun z : GrK (fun q => q < w5.heap.size) wq => z.cell (a := ⟨X, 0, none⟩) HBX.out.lt (lcell_of (HBX.out.then hbq).cell 0 rfl)
    have y1 := fun z : GrK (fun q => q < w5.heap.size) wq => z.cell (a := ⟨X, 1, none⟩) HBX.out.lt (lcell_of (HBX.out.then hbq).cell 1 rfl)
    have y2 := fun z : GrK (fun q => q < w5.heap.size) wq => z.cell (a := ⟨X, 2, none⟩) HBX.out.lt (lcell_of (HBX.out.then hbq).cell 2 rfl)
    have g0 := fun z : GrK (fun q => q < w5.heap.size) wq => z.cell (a := ⟨b1, off1 + j * 7, none⟩) HNB.out (HRC.out.then hbq HNB.out).c0
    have HQ := hide (HYM.out.then hbq)
    have HSQ := hide hbq.size
    have HBQ := hide hbq
    clear hbq
    refine wpG_stageK ?_
    repeat (go_big_quiet_step (fail))
    refine wpQuiet_nil ?_
    clear x0 x1 x2 y0 y1 y2 g0 inh
    go_wp2_with fail
    refine (pending_any HQ.out.led HFM.out (Ldg.abs_right HMO.out) nm).mono ?_
    rintro e w6 ⟨pv, rfl, ho, hbz⟩
    rw [Ldg.abs_pend HMO.out, HPB.out] at ho
    obtain ⟨avb, cavb, rfl, _, _, hu⟩ := ho.sl
    obtain ⟨lb, hlb⟩ : ∃ x, (pb).length = x := ⟨_, rfl⟩
    rw [hlb]
    have Havb := hide hu.up
    have Hlb := hide hlb
    have hkz : Kept (fun q => q < w5.heap.size) wq w6 := Kept.of_below hbz (fun q hq => Nat.lt_of_lt_of_le hq HSQ.out)
    have hbz := bl HBQ.out hbz
    have HB := hide (HB.out.trans (hbz.mono HB.out.size))
    have HBX := hide (HBX.out.then hbz)
    have HYM := hide (HYM.out.then hbz)
    have HRC := hide (HRC.out.then hbz HNB.out)
    have HRC2 := hide (HRC2.out.then hbz HNB2.out)
    have HNB := hide (Nat.lt_of_lt_of_le HNB.out hbz.size)
    have HNB2 := hide (Nat.lt_of_lt_of_le HNB2.out hbz.size)
    have HBW6 := hide hbz
    clear ho hu hlb hbz
    go_wp2
    refine OnToK.mk hkz (Sub.refl _) ?_
    clear hkz HQ HSQ HBQ
    have inh : Nonempty (GrK (fun q => q < w5.heap.size) w6) := GrK.some _ w6
    refine wpG_lastK ?_
    repeat (go_big_quiet_step (fail))
    refine wpQuiet_nil ?_
    clear inh
    have y0 := lcell_of HBX.out.cell 0 rfl
    have y1 := lcell_of HBX.out.cell 1 rfl
    have y2 := lcell_of HBX.out.cell 2 rfl
    have g0 := HRC.out.c0
    by_cases hnq : nm = n
    · have hb := nm_eq hnq
      have HEQ := hide (HEQ.out hnq)
      clear hnq
      have hll : ((la : Nat) : Int) - 1 = (lb : Int) := by have := HEQ.out.1; have := Hla.out; have := Hlb.out; omega
      obtain ⟨sm, hsm⟩ : ∃ x, ak2 + rj2 = x := ⟨_, rfl⟩
      obtain ⟨s0, hs0⟩ : ∃ x, ak + rj = x := ⟨_, rfl⟩
      have hlm : la ≤ 10000000 := by rw [← Hla.out]; exact HPL.out
      have q1 : ((ak2 : Nat) : Int) + (rj2 : Int) = (sm : Int) := by omega
      have q2 : ((ak : Nat) : Int) + (rj : Int) = (s0 : Int) := by omega
      have q3 : ((s0 : Nat) : Int) + 1 = (sm : Int) := by have := HEQ.out.2.1; omega
      have q4 : ev2 = ev := HEQ.out.2.2
      have v1 : IntKind.u64.wrap ((sm : Nat) : Int) = (sm : Int) := by rw [IntKind.wrap_u64]; have := HLE2.out; omega
      have v2 : IntKind.u64.wrap ((s0 : Nat) : Int) = (s0 : Int) := by rw [IntKind.wrap_u64]; have := HLE.out; omega
      have v3 : IntKind.i64.wrap ((lb : Nat) : Int) = (lb : Int) := by rw [IntKind.wrap_i64]; omega
      clear hsm hs0
      go_wp2_with fail
      clear g0 y0 y1 y2
      refine wp_region_growK (fun q => q < w6.heap.size) [] [0, 1, 2, 3, 4, 5, 6, 7, 8, 9, 10, 11, 12, 13] [] (by kernel_rfl) (by kernel_rfl) (by kernel_rfl) (by kernel_rfl) ?_
      intro w7 hbq
      simp only [stagesOfK, getLK, pickLK]
      have inh : Nonempty (GrK (fun q => q < w6.heap.size) w7) := GrK.some _ w7
      have x2 := fun z : GrK (fun q => q < w6.heap.size) w7 => z.cell (a := ⟨YM, 2, none⟩) HYM.out.lt (lcell_of (HYM.out.then hbq).cell 2 rfl)
      have p4 := fun z : GrK (fun q => q < w6.heap.size) w7 => z.cell (a := ⟨b2, off2 + j * 7 + 4, none⟩) HNB2.out (HRC2.out.then hbq HNB2.out).c4
      have p6 := fun z : GrK (fun q => q < w6.heap.size) w7 => z.cell (a := ⟨b2, off2 + j * 7 + 6, none⟩) HNB2.out (HRC2.out.then hbq HNB2.out).c6
      have HB := hide (HB.out.trans (hbq.mono HB.out.size))
      refine wpG_lastK ?_
      repeat (go_big_quiet_step (fail))
      refine wpQuiet_nil ?_
      have HBX := hide (HBX.out.then hbq)
      have HYM := hide (HYM.out.then hbq)
      have HRC := hide (HRC.out.then hbq HNB.out)
      have HRC2 := hide (HRC2.out.then hbq HNB2.out)
      have HNB := hide (Nat.lt_of_lt_of_le HNB.out hbq.size)
      have HNB2 := hide (Nat.lt_of_lt_of_le HNB2.out hbq.size)
      clear x2 p4 p6 inh hbq
      go_wp2_with fail
      refine wp_region_growK (fun q => q < w7.heap.size) [] [0, 1, 2, 3, 4, 5, 6, 7, 8, 9, 10, 11, 12, 13, 14, 15, 16, 17, 18, 19, 20, 21, 22, 23, 24, 25, 26, 27, 28, 29, 30, 31, 32, 33, 34, 35, 36, 37, 38] [] (by kernel_rfl) (by kernel_rfl) (by kernel_rfl) (by kernel_rfl) ?_
      intro w8 hbq
      simp only [stagesOfK, getLK, pickLK]
      have inh : Nonempty (GrK (fun q => q < w7.heap.size) w8) := GrK.some _ w8
      have x2 := fun z : GrK (fun q => q < w7.heap.size) w8 => z.cell (a := ⟨YM, 2, none⟩) HYM.out.lt (lcell_of (HYM.out.then hbq).cell 2 rfl)
      have y2 := fun z : GrK (fun q => q < w7.heap.size) w8 => z.cell (a := ⟨X, 2, none⟩) HBX.out.lt (lcell_of (HBX.out.then hbq).cell 2 rfl)
      have p5 := fun z : GrK (fun q => q < w7.heap.size) w8 => z.cell (a := ⟨b2, off2 + j * 7 + 5, none⟩) HNB2.out (HRC2.out.then hbq HNB2.out).c5
      have q4 := fun z : GrK (fun q => q < w7.heap.size) w8 => z.cell (a := ⟨b1, off1 + j * 7 + 4, none⟩) HNB.out (HRC.out.then hbq HNB.out).c4
      have q5 := fun z : GrK (fun q => q < w7.heap.size) w8 => z.cell (a := ⟨b1, off1 + j * 7 + 5, none⟩) HNB.out (HRC.out.then hbq HNB.out).c5
      have q6 := fun z : GrK (fun q => q < w7.heap.size) w8 => z.cell (a := ⟨b1, off1 + j * 7 + 6, none⟩) HNB.out (HRC.out.then hbq HNB.out).c6
      have HB := hide (HB.out.trans (hbq.mono HB.out.size))
      refine wpG_lastK ?_
      repeat (go_big_quiet_step (fail))
      refine wpQuiet_nil ?_
      have HBX := hide (HBX.out.then hbq)
      have HYM := hide (HYM.out.then hbq)
      have HRC := hide (HRC.out.then hbq HNB.out)
      have HRC2 := hide (HRC2.out.then hbq HNB2.out)
      have HNB := hide (Nat.lt_of_lt_of_le HNB.out hbq.size)
      have HNB2 := hide (Nat.lt_of_lt_of_le HNB2.out hbq.size)
      clear x2 y2 p5 q4 q5 q6 inh hbq
      go_wp2
      go_roundw
      case rel => exact ⟨j + 1, by go_num, by omega, HBX, HYM, HB⟩
      case measure => simp [intOf]; omega
    · have hb := nm_ne hnq
      have hpq : pb = pa := HNE.out hnq
      have hlq : lb = la := by rw [← Hla.out, ← Hlb.out, hpq]
      rw [hpq] at Havb
      clear hnq hpq
      rw [hlq]
      clear hlq
      go_wp2_with fail
      clear g0 y0 y1 y2
      refine (usame_yes (Hava.out.later HBW6.out) Havb.out (by rw [Hla.out]; have := HPL.out; have := Hla.out; omega) Hla.out.symm).mono ?_
      rintro e w7 ⟨rfl, hb7⟩
      have HBX := hide (HBX.out.then hb7)
      have HYM := hide (HYM.out.then hb7)
      have HB := hide (HB.out.trans (hb7.mono HB.out.size))
      clear hb7
      go_wp2
      go_roundw
      case rel => exact ⟨j + 1, by go_num, by omega, HBX, HYM, HB⟩
      case measure => simp [intOf]; omega
end Go.Proofs.Ytcegdmdnpepliaa
