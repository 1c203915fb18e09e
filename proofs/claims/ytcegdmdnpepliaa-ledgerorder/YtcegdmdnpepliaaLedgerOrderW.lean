/-
  The walk of LedgerOrder.
-/
import Derived.Test.YtcegdmdnpepliaaLdgShownW
import Derived.Test.YtcegdmdnpepliaaPlain
import Derived.Test.YtcegdmdnpepliaaLdgDoneW
import Derived.Test.YtcegdmdnpepliaaGrowP
import Derived.Deep.DeepCutAuto
namespace Go.Proofs.Ytcegdmdnpepliaa
open Go.RowKit
open Ldg (De Le Rd Rl actL runL aN)

set_option linter.unusedVariables false in
set_option maxRecDepth 100000 in
set_option maxHeartbeats 600000 in
theorem walkLedgerOrder (a0 : Option Addr) (cap0 : Nat) (l : List La) (a1 a2 a3 : Int) (b4 b5 : Bool) (w : World) (ha : LasAt w a0 l) (hl : l.length ≤ 9223372036854775807) (hcap : l.length ≤ cap0) (hok : ∀ p ∈ l, LaOk p) (hno : a0 = none → cap0 = 0) (h1 : -9223372036854775808 ≤ a1 ∧ a1 ≤ 9223372036854775807) (h2 : -9223372036854775808 ≤ a2 ∧ a2 ≤ 9223372036854775807) (h3 : -9223372036854775808 ≤ a3 ∧ a3 ≤ 9223372036854775807) :
    Calls Try.prog 6 #[.slice a0 l.length cap0, .int .i64 a1, .int .i64 a2, .int .i64 a3, .bool b4, .bool b5] w fun e w' => e = .returned (.bool true) ∧ Below w.heap.size w w' := by
  have HA := hide ha
  have HOK := hide hok
  clear ha hok
  by_cases hlen : l.length ≤ 100
  case neg =>
    go_enter Try.func6, Try.ntmps6
    go_wp2_with fail
    refine (lshown_any _).mono ?_
    rintro e w1 ⟨rfl, hb1⟩
    go_wp2
    go_ret
    exact ⟨rfl, hb1⟩
  obtain ⟨p, hp⟩ : ∃ p, (runL l).pend (nameAt (pk a1 6)) = p := ⟨_, rfl⟩
  obtain ⟨hRok, hRn⟩ := Ldg.run_ok (l := l) (by omega)
  obtain ⟨R, hR⟩ : ∃ R, runL l = R := ⟨_, rfl⟩
  rw [hR] at hRok hRn
  have HR := hide hR
  have HRO := hide hRok
  have HRN := hide hRn
  have HFIT := hide (Ldg.abs_fit hRok)
  obtain ⟨n, hn⟩ : ∃ n, nameAt (pk a1 6) = n := ⟨_, rfl⟩
  have HN := hide hn
  clear hn
  clear hR hRok hRn
  rw [HR.out, HN.out] at hp
  have HP := hide hp
  obtain ⟨lp, hlp⟩ : ∃ x, p.length = x := ⟨_, rfl⟩
  have hlp2 : lp ≤ 10000000 := by rw [← hlp, ← hp]; exact Ldg.pend_len HRO.out n
  obtain ⟨i, hi⟩ : ∃ x, pk a2 lp = x := ⟨_, rfl⟩
  obtain ⟨k, hk⟩ : ∃ x, pk a3 lp = x := ⟨_, rfl⟩
  have HI := hide hi
  have HK := hide hk
  have HLP := hide hlp
  clear hp hlp hi hk
  go_enter Try.func6, Try.ntmps6
  go_wp2_with fail
  refine (lshown_any _).mono ?_
  rintro e w1 ⟨rfl, hb1⟩
  have HB := hide hb1
  clear hb1
  go_wp2_with fail
  refine (run_any cap0 (HA.out.below HB.out) HOK.out (by omega)).mono ?_
  rintro e w2 ⟨ar, mr, cr, rfl, hled, hb2⟩
  rw [HR.out] at hled ⊢
  have HBW := hide (bl HB.out hb2)
  have HB := HBW
  have hbx := LBox.new hled
  obtain ⟨F, hF⟩ : ∃ x, R.first = x := ⟨_, rfl⟩
  obtain ⟨N, hN⟩ : ∃ x, R.next = x := ⟨_, rfl⟩
  have HF := hide hF
  have HNX := hide hN
  obtain ⟨X, hX⟩ : ∃ x, w2.heap.size = x := ⟨_, rfl⟩
  rw [hF, hN] at hbx ⊢
  rw [hX] at hbx
  have HBX := hide hbx
  have HX := hide hX
  clear hled hb2 hbx hF hN
  go_wp2_with fail
  try rw [hX]
  clear hX
  refine (lname_any a1 _ h1.1 h1.2).mono ?_
  rintro e w3 ⟨rfl, hb3⟩
  rw [HN.out]
  have HBX := hide (HBX.out.then hb3)
  have HB := hide (bl (bl HB.out (bnew w2 (.cells #[.int .u64 (F : Int), .int .u64 (N : Int), .slice ar mr cr] 27))) hb3)
  have HXW := hide (show w.heap.size ≤ X ∧ X < w3.heap.size from ⟨by have := HBW.out.size; have := HX.out; omega, HBX.out.lt⟩)
  clear hb3
  have x0 := lcell_of HBX.out.cell 0 rfl
  have x1 := lcell_of HBX.out.cell 1 rfl
  have x2 := lcell_of HBX.out.cell 2 rfl
  go_wp2_with fail
  clear x0 x1 x2
  refine (pending_any HBX.out.led HFIT.out (Ldg.abs_right HRO.out) n).mono ?_
  rintro e w4 ⟨pv, rfl, ho, hb4⟩
  rw [Ldg.abs_pend HRO.out, HP.out] at ho
  obtain ⟨ap, cp, rfl, _, _, hu⟩ := ho.sl
  have HU := hide hu.up
  have HBX := hide (HBX.out.then hb4)
  have HB := hide (HB.out.trans (hb4.mono HB.out.size))
  rw [HLP.out]
  clear hb4 ho hu
  by_cases hlp3 : lp < 2
  · go_wp2
    go_ret
    exact ⟨rfl, HB.out⟩
  go_wp2_with fail
  refine (pick_any a2 lp _ h2.1 h2.2 (by omega) (by omega)).mono ?_
  rintro e w5 ⟨rfl, hw⟩
  rw [hw, HI.out]
  clear hw
  go_wp2_with fail
  refine (pick_any a3 lp _ h3.1 h3.2 (by omega) (by omega)).mono ?_
  rintro e w5 ⟨rfl, hw⟩
  rw [hw, HK.out]
  clear hw
  by_cases hik : i = k
  · go_wp2
    go_ret
    exact ⟨rfl, HB.out⟩
  have hil2 : i < lp := by rw [← HI.out]; exact pk_lt a2 (by omega)
  have hkl2 : k < lp := by rw [← HK.out]; exact pk_lt a3 (by omega)
  have hil : i < p.length := by rw [HLP.out, ← HI.out]; exact pk_lt a2 (by omega)
  have hkl : k < p.length := by rw [HLP.out, ← HK.out]; exact pk_lt a3 (by omega)
  obtain ⟨s, hs⟩ : ∃ s, p[i] = s := ⟨_, rfl⟩
  obtain ⟨t, ht⟩ : ∃ t, p[k] = t := ⟨_, rfl⟩
  have HST : Hid (s ≠ t) := hide <| by
    rw [← hs, ← ht]
    have hr := Ldg.rise_pend HRO.out n
    rw [HP.out] at hr
    have hr2 := List.pairwise_iff_getElem.1 hr
    rcases Nat.lt_or_gt_of_ne hik with h | h
    · have := hr2 i k hil hkl h; omega
    · have := hr2 k i hkl hil h; omega
  have HSP : Hid (s ∈ R.pend n) := hide (by rw [HP.out, ← hs]; exact List.getElem_mem hil)
  have HTP : Hid (t ∈ R.pend n) := hide (by rw [HP.out, ← ht]; exact List.getElem_mem hkl)
  obtain ⟨b, off, rfl, hbl, _, hcs⟩ := HU.out i hil
  have g1 := hcs i hil
  have g2 := hcs k hkl
  rw [hs] at g1
  rw [ht] at g2
  have HBL := hide hbl
  have HS := hide g1
  have HT := hide g2
  clear hcs g1 g2 hs ht
  go_upto_if 63 with fail
  go_cut [19] (fun v19 wc => ∃ x : Nat, v19 = .int .u8 (x : Int) ∧ Hid (x = 97 ∨ x = 114) ∧ wc = w4)
  case first =>
    cases b4 <;> go_wp2
    all_goals (go_meet; case rel => exact ⟨_, rfl, hide (by decide), rfl⟩)
  case rest =>
    obtain ⟨x, rfl, HXK, hwc⟩ := hcut
    rw [hwc]
    clear hwc
    go_upto_if 64 with fail
    go_cut [20] (fun v20 wc => ∃ y : Nat, v20 = .int .u8 (y : Int) ∧ Hid (y = 97 ∨ y = 114) ∧ wc = w4)
    case first =>
      cases b5 <;> go_wp2
      all_goals (go_meet; case rel => exact ⟨_, rfl, hide (by decide), rfl⟩)
    case rest =>
    obtain ⟨y, rfl, HYK, hwc⟩ := hcut
    rw [hwc]
    clear hwc
    obtain ⟨d, hl0, hsd, hpe⟩ := Ldg.pend_in_look HSP.out
    have htd : t ∈ d.pend := by rw [← hpe]; exact HTP.out
    obtain ⟨ho1, ho2⟩ := Ldg.order_is hl0 HXK.out HYK.out hsd htd HST.out
    have hd1 := Ldg.done_is hl0 HXK.out hsd
    have hd2 := Ldg.done_is hl0 HYK.out htd
    have hM := Ldg.put_ok HRO.out hl0 HXK.out hsd
    have hO := Ldg.put_ok HRO.out hl0 HYK.out htd
    have hU := Ldg.done_ok (n := n) (s := t) (k := y) hM (by rw [ho1])
    rw [ho1] at hU
    have hul : ∃ q, (R.put n ((d.put s x).put t y)).look n = some q := Ldg.put_has hl0 _ rfl
    obtain ⟨M, hMe⟩ : ∃ M, R.put n (d.put s x) = M := ⟨_, rfl⟩
    obtain ⟨O, hOe⟩ : ∃ M, R.put n (d.put t y) = M := ⟨_, rfl⟩
    obtain ⟨U, hUe⟩ : ∃ M, R.put n ((d.put s x).put t y) = M := ⟨_, rfl⟩
    rw [hMe] at ho1 hd1 hM
    rw [hOe] at ho2 hd2 hO
    rw [hUe] at ho1 ho2 hU hul
    obtain ⟨q, hq⟩ := hul
    have HD1 := hide (show R.abs.done n s x = (M.abs, 0) by rw [Ldg.done_abs HRO.out, hd1])
    have HD2 := hide (show M.abs.done n t y = (U.abs, 0) by rw [Ldg.done_abs hM, ho1])
    have HD3 := hide (show R.abs.done n t y = (O.abs, 0) by rw [Ldg.done_abs HRO.out, hd2])
    have HD4 := hide (show O.abs.done n s x = (U.abs, 0) by rw [Ldg.done_abs hO, ho2])
    have HMO := hide hM
    have HOO := hide hO
    have HUO := hide hU
    have HQL := hide hq
    have HFM := hide (Ldg.abs_fit hM)
    have HFO := hide (Ldg.abs_fit hO)
    have HFU := hide (Ldg.abs_fit hU)
    obtain ⟨FM, hFM⟩ : ∃ x, M.abs.first = x := ⟨_, rfl⟩
    obtain ⟨NM, hNM⟩ : ∃ x, M.abs.next = x := ⟨_, rfl⟩
    have FME := hide hFM
    have NME := hide hNM
    clear hFM hNM
    obtain ⟨FO, hFO⟩ : ∃ x, O.abs.first = x := ⟨_, rfl⟩
    obtain ⟨NO, hNO⟩ : ∃ x, O.abs.next = x := ⟨_, rfl⟩
    have FOE := hide hFO
    have NOE := hide hNO
    clear hFO hNO
    obtain ⟨FU, hFU⟩ : ∃ x, U.abs.first = x := ⟨_, rfl⟩
    obtain ⟨NU, hNU⟩ : ∃ x, U.abs.next = x := ⟨_, rfl⟩
    have FUE := hide hFU
    have NUE := hide hNU
    clear hFU hNU
    clear hl0 hsd hpe htd ho1 ho2 hd1 hd2 hM hO hU hq hMe hOe hUe
    go_upto_region 18 with fail
    go_cut [21, 22] (fun vp ve wc => ∃ (Y : Nat) (a : Option Addr) (m c : Nat), vp = .pointer (some ⟨Y, 0, none⟩) ∧ ve = .int .i64 0 ∧ Hid (LBox wc Y M.abs FM NM a m c) ∧ Hid (Below w4.heap.size w4 wc))
    case first =>
      have x0 := lcell_of HBX.out.cell 0 rfl
      have x1 := lcell_of HBX.out.cell 1 rfl
      have x2 := lcell_of HBX.out.cell 2 rfl
      have g1' := HS.out
      go_wp2_with fail
      clear x0 x1 x2 g1'
      refine wp_region_growP (fun b => b < w4.heap.size) [0, 1, 2, 3, 4, 5, 6] 7 11 _ _ [([8, 9, 10], 11), ([], 12)] [([], 7), ([8, 9, 10], 12)] [13] [] rfl rfl (by kernel_rfl) (by kernel_rfl) (by kernel_rfl) (by kernel_rfl) ?_
      intro wq hbq
      simp only [stagesOfK, getLK, pickLK]
      have HQ := hide (HBX.out.then hbq)
      have HBQ := hide hbq
      have inh : Nonempty (GrK (fun b => b < w4.heap.size) wq) := GrK.some _ wq
      have x0 := fun z : GrK (fun b => b < w4.heap.size) wq => z.cell (a := ⟨X, 0, none⟩) HBX.out.lt (lcell_of HQ.out.cell 0 rfl)
      have x1 := fun z : GrK (fun b => b < w4.heap.size) wq => z.cell (a := ⟨X, 1, none⟩) HBX.out.lt (lcell_of HQ.out.cell 1 rfl)
      have x2 := fun z : GrK (fun b => b < w4.heap.size) wq => z.cell (a := ⟨X, 2, none⟩) HBX.out.lt (lcell_of HQ.out.cell 2 rfl)
      have g1 := fun z : GrK (fun b => b < w4.heap.size) wq => z.cell (a := ⟨b, off + i, none⟩) HBL.out ((hbq.cell (p := ⟨b, off + i, none⟩) HBL.out).trans HS.out)
      clear hbq
      refine wpP_start ?_
      repeat (go_big_quiet_step (fail))
      refine wpQuiet_nil ?_
      clear x0 x1 x2 g1 inh
      refine ⟨?_, ?_⟩
      · go_wp2_with fail
        refine (ldone_any HQ.out.led HFIT.out n s x).mono ?_
        rintro e wz ⟨rv, rfl, hl, hbz⟩
        rw [HD1.out] at hl ⊢
        obtain ⟨am, mm, cm, rfl, hmm, hl⟩ := hl.view
        clear hmm
        obtain ⟨fm, hfm⟩ : ∃ x, M.abs.first = x := ⟨_, rfl⟩
        obtain ⟨nm, hnm⟩ : ∃ x, M.abs.next = x := ⟨_, rfl⟩
        have e1 : fm = FM := by rw [← hfm]; exact FME.out
        have e2 : nm = NM := by rw [← hnm]; exact NME.out
        rw [hfm, hnm, e1, e2] at hl ⊢
        have hkz : Kept (fun b => b < w4.heap.size) wq wz := Kept.of_below hbz (fun b hb => Nat.lt_of_lt_of_le hb HBQ.out.size)
        clear hfm hnm e1 e2
        go_wp2
        refine OnToK.mk hkz (Sub.refl _) ?_
        clear hkz
        have hza := alloc_new wz (.cells #[.int .u64 0, .int .u64 0, .slice none 0 0] 27)
        have hl2 := hl.below (bnew wz (.cells #[.int .u64 0, .int .u64 0, .slice none 0 0] 27))
        have hba := bnew wz (.cells #[.int .u64 0, .int .u64 0, .slice none 0 0] 27)
        have hka : Kept (fun b => b < w4.heap.size) wz (wz.alloc (.cells #[.int .u64 0, .int .u64 0, .slice none 0 0] 27)) := Kept.of_below hba (fun b hb => Nat.lt_of_lt_of_le hb (Nat.le_trans HBQ.out.size hbz.size))
        have HYX := hide (show w4.heap.size ≤ wz.heap.size from Nat.le_trans HBQ.out.size hbz.size)
        have HWA := hide (bl (bl HBQ.out hbz) hba)
        have inh : Nonempty (GrK (fun b => b < w4.heap.size) wz) := GrK.some _ wz
        clear hl hbz hba
        refine wpG_stageK ?_
        repeat (go_big_quiet_step (fail))
        refine wpQuiet_nil ?_
        clear inh
        go_wp2
        refine OnToK.mk hka (Sub.refl _) ?_
        clear hka
        obtain ⟨Yx, hYx⟩ : ∃ y, wz.heap.size = y := ⟨_, rfl⟩
        obtain ⟨wa, hwa⟩ : ∃ W, wz.alloc (.cells #[.int .u64 0, .int .u64 0, .slice none 0 0] 27) = W := ⟨_, rfl⟩
        rw [hYx] at hza HYX ⊢
        rw [hwa] at hza hl2 HWA ⊢
        clear hYx hwa
        have z0 := lcell_of hza 0 rfl
        have z1 := lcell_of hza 1 rfl
        have z2 := lcell_of hza 2 rfl
        have zf := lfrozen_of hza
        have hfill := LBox.fill hza hl2 (above_pos HMO.out)
        have hks := kept3 wa Yx (.int .u64 (FM : Int)) (.int .u64 (NM : Int)) (.slice am mm cm)
        obtain ⟨ws, hws⟩ : ∃ W, ((wa.setCell ⟨Yx, 0, none⟩ (.int .u64 (FM : Int))).setCell ⟨Yx, 1, none⟩ (.int .u64 (NM : Int))).setCell ⟨Yx, 2, none⟩ (.slice am mm cm) = W := ⟨_, rfl⟩
        rw [hws] at hfill hks
        have hbs : Below w4.heap.size w4 ws := HWA.out.trans (hks.bel (fun b hb => by have := HYX.out; omega))
        have HFILL := hide hfill
        have HBS := hide hbs
        clear hfill hbs hza hl2
        refine wpG_stageK (wpQuiet_nil ?_)
        go_wp2
        try rw [hws]
        refine OnToK.mk (hks.mono (fun b hb => by have := HYX.out; omega)) (Sub.refl _) ?_
        have inh : Nonempty (GrK (fun b => b < w4.heap.size) ws) := GrK.some _ ws
        refine wpG_lastK ?_
        repeat (go_big_quiet_step (fail))
        refine wpQuiet_nil ?_
        clear z0 z1 z2 zf hws
        go_wp2
        go_meet
        case rel => exact ⟨Yx, am, mm, cm, rfl, rfl, HFILL, HBS⟩
      · go_wp2
        have hka : Kept (fun b => b < w4.heap.size) wq (wq.alloc (.cells #[.int .u64 0, .int .u64 0, .slice none 0 0] 27)) := Kept.of_below (bnew wq (.cells #[.int .u64 0, .int .u64 0, .slice none 0 0] 27)) (fun b hb => Nat.lt_of_lt_of_le hb HBQ.out.size)
        refine OnToK.mk hka (Sub.refl _) ?_
        clear hka
        have hza := alloc_new wq (.cells #[.int .u64 0, .int .u64 0, .slice none 0 0] 27)
        have HQ2 := hide (HQ.out.then (bnew wq (.cells #[.int .u64 0, .int .u64 0, .slice none 0 0] 27)))
        have HYX := hide (show w4.heap.size ≤ wq.heap.size from HBQ.out.size)
        have HWA0 := hide (bl HBQ.out (bnew wq (.cells #[.int .u64 0, .int .u64 0, .slice none 0 0] 27)))
        have hyl : wq.heap.size < (wq.alloc (.cells #[.int .u64 0, .int .u64 0, .slice none 0 0] 27)).heap.size := by simp
        obtain ⟨Yx, hYx⟩ : ∃ y, wq.heap.size = y := ⟨_, rfl⟩
        obtain ⟨wa0, hwa⟩ : ∃ W, wq.alloc (.cells #[.int .u64 0, .int .u64 0, .slice none 0 0] 27) = W := ⟨_, rfl⟩
        rw [hYx] at hza HYX hyl ⊢
        rw [hwa] at hza HQ2 HWA0 hyl ⊢
        clear hYx hwa
        refine wpG_stageK (wpQuiet_nil ?_)
        go_wp2_with fail
        refine (ldone_any HQ2.out.led HFIT.out n s x).mono ?_
        rintro e wa ⟨rv, rfl, hl, hbz⟩
        rw [HD1.out] at hl ⊢
        obtain ⟨am, mm, cm, rfl, hmm, hl2⟩ := hl.view
        clear hmm
        obtain ⟨fm, hfm⟩ : ∃ x, M.abs.first = x := ⟨_, rfl⟩
        obtain ⟨nm, hnm⟩ : ∃ x, M.abs.next = x := ⟨_, rfl⟩
        have e1 : fm = FM := by rw [← hfm]; exact FME.out
        have e2 : nm = NM := by rw [← hnm]; exact NME.out
        rw [hfm, hnm, e1, e2] at hl2 ⊢
        clear hl
        replace hza := (hbz.block Yx hyl).trans hza
        have hkz : Kept (fun b => b < w4.heap.size) wa0 wa := Kept.of_below hbz (fun b hb => Nat.lt_of_lt_of_le hb HWA0.out.size)
        have HWA := hide (bl HWA0.out hbz)
        clear hfm hnm e1 e2 hbz hyl
        have z0 := lcell_of hza 0 rfl
        have z1 := lcell_of hza 1 rfl
        have z2 := lcell_of hza 2 rfl
        have zf := lfrozen_of hza
        have hfill := LBox.fill hza hl2 (above_pos HMO.out)
        have hks := kept3 wa Yx (.int .u64 (FM : Int)) (.int .u64 (NM : Int)) (.slice am mm cm)
        obtain ⟨ws, hws⟩ : ∃ W, ((wa.setCell ⟨Yx, 0, none⟩ (.int .u64 (FM : Int))).setCell ⟨Yx, 1, none⟩ (.int .u64 (NM : Int))).setCell ⟨Yx, 2, none⟩ (.slice am mm cm) = W := ⟨_, rfl⟩
        rw [hws] at hfill hks
        have hbs : Below w4.heap.size w4 ws := HWA.out.trans (hks.bel (fun b hb => by have := HYX.out; omega))
        have HFILL := hide hfill
        have HBS := hide hbs
        clear hfill hbs hza hl2
        go_wp2
        refine OnToK.mk hkz (Sub.refl _) ?_
        clear hkz
        have inh : Nonempty (GrK (fun b => b < w4.heap.size) wa) := GrK.some _ wa
        refine wpG_stageK ?_
        repeat (go_big_quiet_step (fail))
        refine wpQuiet_nil ?_
        clear inh
        go_wp2
        try rw [hws]
        refine OnToK.mk (hks.mono (fun b hb => by have := HYX.out; omega)) (Sub.refl _) ?_
        have inh : Nonempty (GrK (fun b => b < w4.heap.size) ws) := GrK.some _ ws
        refine wpG_lastK ?_
        repeat (go_big_quiet_step (fail))
        refine wpQuiet_nil ?_
        clear z0 z1 z2 zf hws
        go_wp2
        go_meet
        case rel => exact ⟨Yx, am, mm, cm, rfl, rfl, HFILL, HBS⟩
    case rest =>
      obtain ⟨YM, aYM, mYM, cYM, rfl, rfl, HYM, HBC⟩ := hcut
      obtain ⟨w5, hwn⟩ : ∃ W, wc = W := ⟨_, rfl⟩
      rw [hwn] at HBC HYM ⊢
      clear hwn
      have HB := hide (HB.out.trans (HBC.out.mono HB.out.size))
      have HS := hide ((HBC.out.cell (p := ⟨b, off + i, none⟩) HBL.out).trans HS.out)
      have HT := hide ((HBC.out.cell (p := ⟨b, off + k, none⟩) HBL.out).trans HT.out)
      have HBL := hide (Nat.lt_of_lt_of_le HBL.out HBC.out.size)
      have HBX := hide (HBX.out.then HBC.out)
      go_upto_region 19 with fail
      go_cut [23, 24] (fun vp ve wc => ∃ (Y : Nat) (a : Option Addr) (m c : Nat), vp = .pointer (some ⟨Y, 0, none⟩) ∧ ve = .int .i64 0 ∧ Hid (LBox wc Y U.abs FU NU a m c) ∧ Hid (Below w5.heap.size w5 wc))
      case first =>
        have x0 := lcell_of HYM.out.cell 0 rfl
        have x1 := lcell_of HYM.out.cell 1 rfl
        have x2 := lcell_of HYM.out.cell 2 rfl
        have g1' := HT.out
        go_wp2_with fail
        clear x0 x1 x2 g1'
        refine wp_region_growP (fun b => b < w5.heap.size) [0, 1, 2, 3, 4, 5, 6] 7 11 _ _ [([8, 9, 10], 11), ([], 12)] [([], 7), ([8, 9, 10], 12)] [13] [] rfl rfl (by kernel_rfl) (by kernel_rfl) (by kernel_rfl) (by kernel_rfl) ?_
        intro wq hbq
        simp only [stagesOfK, getLK, pickLK]
        have HQ := hide (HYM.out.then hbq)
        have HBQ := hide hbq
        have inh : Nonempty (GrK (fun b => b < w5.heap.size) wq) := GrK.some _ wq
        have x0 := fun z : GrK (fun b => b < w5.heap.size) wq => z.cell (a := ⟨YM, 0, none⟩) HYM.out.lt (lcell_of HQ.out.cell 0 rfl)
        have x1 := fun z : GrK (fun b => b < w5.heap.size) wq => z.cell (a := ⟨YM, 1, none⟩) HYM.out.lt (lcell_of HQ.out.cell 1 rfl)
        have x2 := fun z : GrK (fun b => b < w5.heap.size) wq => z.cell (a := ⟨YM, 2, none⟩) HYM.out.lt (lcell_of HQ.out.cell 2 rfl)
        have g1 := fun z : GrK (fun b => b < w5.heap.size) wq => z.cell (a := ⟨b, off + k, none⟩) HBL.out ((hbq.cell (p := ⟨b, off + k, none⟩) HBL.out).trans HT.out)
        clear hbq
        refine wpP_start ?_
        repeat (go_big_quiet_step (fail))
        refine wpQuiet_nil ?_
        clear x0 x1 x2 g1 inh
        refine ⟨?_, ?_⟩
        · go_wp2_with fail
          refine (ldone_any HQ.out.led HFM.out n t y).mono ?_
          rintro e wz ⟨rv, rfl, hl, hbz⟩
          rw [HD2.out] at hl ⊢
          obtain ⟨am, mm, cm, rfl, hmm, hl⟩ := hl.view
          clear hmm
          obtain ⟨fm, hfm⟩ : ∃ x, U.abs.first = x := ⟨_, rfl⟩
          obtain ⟨nm, hnm⟩ : ∃ x, U.abs.next = x := ⟨_, rfl⟩
          have e1 : fm = FU := by rw [← hfm]; exact FUE.out
          have e2 : nm = NU := by rw [← hnm]; exact NUE.out
          rw [hfm, hnm, e1, e2] at hl ⊢
          have hkz : Kept (fun b => b < w5.heap.size) wq wz := Kept.of_below hbz (fun b hb => Nat.lt_of_lt_of_le hb HBQ.out.size)
          clear hfm hnm e1 e2
          go_wp2
          refine OnToK.mk hkz (Sub.refl _) ?_
          clear hkz
          have hza := alloc_new wz (.cells #[.int .u64 0, .int .u64 0, .slice none 0 0] 27)
          have hl2 := hl.below (bnew wz (.cells #[.int .u64 0, .int .u64 0, .slice none 0 0] 27))
          have hba := bnew wz (.cells #[.int .u64 0, .int .u64 0, .slice none 0 0] 27)
          have hka : Kept (fun b => b < w5.heap.size) wz (wz.alloc (.cells #[.int .u64 0, .int .u64 0, .slice none 0 0] 27)) := Kept.of_below hba (fun b hb => Nat.lt_of_lt_of_le hb (Nat.le_trans HBQ.out.size hbz.size))
          have HYX := hide (show w5.heap.size ≤ wz.heap.size from Nat.le_trans HBQ.out.size hbz.size)
          have HWA := hide (bl (bl HBQ.out hbz) hba)
          have inh : Nonempty (GrK (fun b => b < w5.heap.size) wz) := GrK.some _ wz
          clear hl hbz hba
          refine wpG_stageK ?_
          repeat (go_big_quiet_step (fail))
          refine wpQuiet_nil ?_
          clear inh
          go_wp2
          refine OnToK.mk hka (Sub.refl _) ?_
          clear hka
          obtain ⟨Yx, hYx⟩ : ∃ y, wz.heap.size = y := ⟨_, rfl⟩
          obtain ⟨wa, hwa⟩ : ∃ W, wz.alloc (.cells #[.int .u64 0, .int .u64 0, .slice none 0 0] 27) = W := ⟨_, rfl⟩
          rw [hYx] at hza HYX ⊢
          rw [hwa] at hza hl2 HWA ⊢
          clear hYx hwa
          have z0 := lcell_of hza 0 rfl
          have z1 := lcell_of hza 1 rfl
          have z2 := lcell_of hza 2 rfl
          have zf := lfrozen_of hza
          have hfill := LBox.fill hza hl2 (above_pos HUO.out)
          have hks := kept3 wa Yx (.int .u64 (FU : Int)) (.int .u64 (NU : Int)) (.slice am mm cm)
          obtain ⟨ws, hws⟩ : ∃ W, ((wa.setCell ⟨Yx, 0, none⟩ (.int .u64 (FU : Int))).setCell ⟨Yx, 1, none⟩ (.int .u64 (NU : Int))).setCell ⟨Yx, 2, none⟩ (.slice am mm cm) = W := ⟨_, rfl⟩
          rw [hws] at hfill hks
          have hbs : Below w5.heap.size w5 ws := HWA.out.trans (hks.bel (fun b hb => by have := HYX.out; omega))
          have HFILL := hide hfill
          have HBS := hide hbs
          clear hfill hbs hza hl2
          refine wpG_stageK (wpQuiet_nil ?_)
          go_wp2
          try rw [hws]
          refine OnToK.mk (hks.mono (fun b hb => by have := HYX.out; omega)) (Sub.refl _) ?_
          have inh : Nonempty (GrK (fun b => b < w5.heap.size) ws) := GrK.some _ ws
          refine wpG_lastK ?_
          repeat (go_big_quiet_step (fail))
          refine wpQuiet_nil ?_
          clear z0 z1 z2 zf hws
          go_wp2
          go_meet
          case rel => exact ⟨Yx, am, mm, cm, rfl, rfl, HFILL, HBS⟩
        · go_wp2
          have hka : Kept (fun b => b < w5.heap.size) wq (wq.alloc (.cells #[.int .u64 0, .int .u64 0, .slice none 0 0] 27)) := Kept.of_below (bnew wq (.cells #[.int .u64 0, .int .u64 0, .slice none 0 0] 27)) (fun b hb => Nat.lt_of_lt_of_le hb HBQ.out.size)
          refine OnToK.mk hka (Sub.refl _) ?_
          clear hka
          have hza := alloc_new wq (.cells #[.int .u64 0, .int .u64 0, .slice none 0 0] 27)
          have HQ2 := hide (HQ.out.then (bnew wq (.cells #[.int .u64 0, .int .u64 0, .slice none 0 0] 27)))
          have HYX := hide (show w5.heap.size ≤ wq.heap.size from HBQ.out.size)
          have HWA0 := hide (bl HBQ.out (bnew wq (.cells #[.int .u64 0, .int .u64 0, .slice none 0 0] 27)))
          have hyl : wq.heap.size < (wq.alloc (.cells #[.int .u64 0, .int .u64 0, .slice none 0 0] 27)).heap.size := by simp
          obtain ⟨Yx, hYx⟩ : ∃ y, wq.heap.size = y := ⟨_, rfl⟩
          obtain ⟨wa0, hwa⟩ : ∃ W, wq.alloc (.cells #[.int .u64 0, .int .u64 0, .slice none 0 0] 27) = W := ⟨_, rfl⟩
          rw [hYx] at hza HYX hyl ⊢
          rw [hwa] at hza HQ2 HWA0 hyl ⊢
          clear hYx hwa
          refine wpG_stageK (wpQuiet_nil ?_)
          go_wp2_with fail
          refine (ldone_any HQ2.out.led HFM.out n t y).mono ?_
          rintro e wa ⟨rv, rfl, hl, hbz⟩
          rw [HD2.out] at hl ⊢
          obtain ⟨am, mm, cm, rfl, hmm, hl2⟩ := hl.view
          clear hmm
          obtain ⟨fm, hfm⟩ : ∃ x, U.abs.first = x := ⟨_, rfl⟩
          obtain ⟨nm, hnm⟩ : ∃ x, U.abs.next = x := ⟨_, rfl⟩
          have e1 : fm = FU := by rw [← hfm]; exact FUE.out
          have e2 : nm = NU := by rw [← hnm]; exact NUE.out
          rw [hfm, hnm, e1, e2] at hl2 ⊢
          clear hl
          replace hza := (hbz.block Yx hyl).trans hza
          have hkz : Kept (fun b => b < w5.heap.size) wa0 wa := Kept.of_below hbz (fun b hb => Nat.lt_of_lt_of_le hb HWA0.out.size)
          have HWA := hide (bl HWA0.out hbz)
          clear hfm hnm e1 e2 hbz hyl
          have z0 := lcell_of hza 0 rfl
          have z1 := lcell_of hza 1 rfl
          have z2 := lcell_of hza 2 rfl
          have zf := lfrozen_of hza
          have hfill := LBox.fill hza hl2 (above_pos HUO.out)
          have hks := kept3 wa Yx (.int .u64 (FU : Int)) (.int .u64 (NU : Int)) (.slice am mm cm)
          obtain ⟨ws, hws⟩ : ∃ W, ((wa.setCell ⟨Yx, 0, none⟩ (.int .u64 (FU : Int))).setCell ⟨Yx, 1, none⟩ (.int .u64 (NU : Int))).setCell ⟨Yx, 2, none⟩ (.slice am mm cm) = W := ⟨_, rfl⟩
          rw [hws] at hfill hks
          have hbs : Below w5.heap.size w5 ws := HWA.out.trans (hks.bel (fun b hb => by have := HYX.out; omega))
          have HFILL := hide hfill
          have HBS := hide hbs
          clear hfill hbs hza hl2
          go_wp2
          refine OnToK.mk hkz (Sub.refl _) ?_
          clear hkz
          have inh : Nonempty (GrK (fun b => b < w5.heap.size) wa) := GrK.some _ wa
          refine wpG_stageK ?_
          repeat (go_big_quiet_step (fail))
          refine wpQuiet_nil ?_
          clear inh
          go_wp2
          try rw [hws]
          refine OnToK.mk (hks.mono (fun b hb => by have := HYX.out; omega)) (Sub.refl _) ?_
          have inh : Nonempty (GrK (fun b => b < w5.heap.size) ws) := GrK.some _ ws
          refine wpG_lastK ?_
          repeat (go_big_quiet_step (fail))
          refine wpQuiet_nil ?_
          clear z0 z1 z2 zf hws
          go_wp2
          go_meet
          case rel => exact ⟨Yx, am, mm, cm, rfl, rfl, HFILL, HBS⟩
      case rest =>
        obtain ⟨YU, aYU, mYU, cYU, rfl, rfl, HYU, HBC⟩ := hcut
        obtain ⟨w6, hwn⟩ : ∃ W, wc = W := ⟨_, rfl⟩
        rw [hwn] at HBC HYU ⊢
        clear hwn
        have HB := hide (HB.out.trans (HBC.out.mono HB.out.size))
        have HS := hide ((HBC.out.cell (p := ⟨b, off + i, none⟩) HBL.out).trans HS.out)
        have HT := hide ((HBC.out.cell (p := ⟨b, off + k, none⟩) HBL.out).trans HT.out)
        have HBL := hide (Nat.lt_of_lt_of_le HBL.out HBC.out.size)
        have HBX := hide (HBX.out.then HBC.out)
        go_upto_region 20 with fail
        go_cut [25, 26] (fun vp ve wc => ∃ (Y : Nat) (a : Option Addr) (m c : Nat), vp = .pointer (some ⟨Y, 0, none⟩) ∧ ve = .int .i64 0 ∧ Hid (LBox wc Y O.abs FO NO a m c) ∧ Hid (Below w6.heap.size w6 wc))
        case first =>
          have x0 := lcell_of HBX.out.cell 0 rfl
          have x1 := lcell_of HBX.out.cell 1 rfl
          have x2 := lcell_of HBX.out.cell 2 rfl
          have g1' := HT.out
          go_wp2_with fail
          clear x0 x1 x2 g1'
          refine wp_region_growP (fun b => b < w6.heap.size) [0, 1, 2, 3, 4, 5, 6] 7 11 _ _ [([8, 9, 10], 11), ([], 12)] [([], 7), ([8, 9, 10], 12)] [13] [] rfl rfl (by kernel_rfl) (by kernel_rfl) (by kernel_rfl) (by kernel_rfl) ?_
          intro wq hbq
          simp only [stagesOfK, getLK, pickLK]
          have HQ := hide (HBX.out.then hbq)
          have HBQ := hide hbq
          have inh : Nonempty (GrK (fun b => b < w6.heap.size) wq) := GrK.some _ wq
          have x0 := fun z : GrK (fun b => b < w6.heap.size) wq => z.cell (a := ⟨X, 0, none⟩) HBX.out.lt (lcell_of HQ.out.cell 0 rfl)
          have x1 := fun z : GrK (fun b => b < w6.heap.size) wq => z.cell (a := ⟨X, 1, none⟩) HBX.out.lt (lcell_of HQ.out.cell 1 rfl)
          have x2 := fun z : GrK (fun b => b < w6.heap.size) wq => z.cell (a := ⟨X, 2, none⟩) HBX.out.lt (lcell_of HQ.out.cell 2 rfl)
          have g1 := fun z : GrK (fun b => b < w6.heap.size) wq => z.cell (a := ⟨b, off + k, none⟩) HBL.out ((hbq.cell (p := ⟨b, off + k, none⟩) HBL.out).trans HT.out)
          clear hbq
          refine wpP_start ?_
          repeat (go_big_quiet_step (fail))
          refine wpQuiet_nil ?_
          clear x0 x1 x2 g1 inh
          refine ⟨?_, ?_⟩
          · go_wp2_with fail
            refine (ldone_any HQ.out.led HFIT.out n t y).mono ?_
            rintro e wz ⟨rv, rfl, hl, hbz⟩
            rw [HD3.out] at hl ⊢
            obtain ⟨am, mm, cm, rfl, hmm, hl⟩ := hl.view
            clear hmm
            obtain ⟨fm, hfm⟩ : ∃ x, O.abs.first = x := ⟨_, rfl⟩
            obtain ⟨nm, hnm⟩ : ∃ x, O.abs.next = x := ⟨_, rfl⟩
            have e1 : fm = FO := by rw [← hfm]; exact FOE.out
            have e2 : nm = NO := by rw [← hnm]; exact NOE.out
            rw [hfm, hnm, e1, e2] at hl ⊢
            have hkz : Kept (fun b => b < w6.heap.size) wq wz := Kept.of_below hbz (fun b hb => Nat.lt_of_lt_of_le hb HBQ.out.size)
            clear hfm hnm e1 e2
            go_wp2
            refine OnToK.mk hkz (Sub.refl _) ?_
            clear hkz
            have hza := alloc_new wz (.cells #[.int .u64 0, .int .u64 0, .slice none 0 0] 27)
            have hl2 := hl.below (bnew wz (.cells #[.int .u64 0, .int .u64 0, .slice none 0 0] 27))
            have hba := bnew wz (.cells #[.int .u64 0, .int .u64 0, .slice none 0 0] 27)
            have hka : Kept (fun b => b < w6.heap.size) wz (wz.alloc (.cells #[.int .u64 0, .int .u64 0, .slice none 0 0] 27)) := Kept.of_below hba (fun b hb => Nat.lt_of_lt_of_le hb (Nat.le_trans HBQ.out.size hbz.size))
            have HYX := hide (show w6.heap.size ≤ wz.heap.size from Nat.le_trans HBQ.out.size hbz.size)
            have HWA := hide (bl (bl HBQ.out hbz) hba)
            have inh : Nonempty (GrK (fun b => b < w6.heap.size) wz) := GrK.some _ wz
            clear hl hbz hba
            refine wpG_stageK ?_
            repeat (go_big_quiet_step (fail))
            refine wpQuiet_nil ?_
            clear inh
            go_wp2
            refine OnToK.mk hka (Sub.refl _) ?_
            clear hka
            obtain ⟨Yx, hYx⟩ : ∃ y, wz.heap.size = y := ⟨_, rfl⟩
            obtain ⟨wa, hwa⟩ : ∃ W, wz.alloc (.cells #[.int .u64 0, .int .u64 0, .slice none 0 0] 27) = W := ⟨_, rfl⟩
            rw [hYx] at hza HYX ⊢
            rw [hwa] at hza hl2 HWA ⊢
            clear hYx hwa
            have z0 := lcell_of hza 0 rfl
            have z1 := lcell_of hza 1 rfl
            have z2 := lcell_of hza 2 rfl
            have zf := lfrozen_of hza
            have hfill := LBox.fill hza hl2 (above_pos HOO.out)
            have hks := kept3 wa Yx (.int .u64 (FO : Int)) (.int .u64 (NO : Int)) (.slice am mm cm)
            obtain ⟨ws, hws⟩ : ∃ W, ((wa.setCell ⟨Yx, 0, none⟩ (.int .u64 (FO : Int))).setCell ⟨Yx, 1, none⟩ (.int .u64 (NO : Int))).setCell ⟨Yx, 2, none⟩ (.slice am mm cm) = W := ⟨_, rfl⟩
            rw [hws] at hfill hks
            have hbs : Below w6.heap.size w6 ws := HWA.out.trans (hks.bel (fun b hb => by have := HYX.out; omega))
            have HFILL := hide hfill
            have HBS := hide hbs
            clear hfill hbs hza hl2
            refine wpG_stageK (wpQuiet_nil ?_)
            go_wp2
            try rw [hws]
            refine OnToK.mk (hks.mono (fun b hb => by have := HYX.out; omega)) (Sub.refl _) ?_
            have inh : Nonempty (GrK (fun b => b < w6.heap.size) ws) := GrK.some _ ws
            refine wpG_lastK ?_
            repeat (go_big_quiet_step (fail))
            refine wpQuiet_nil ?_
            clear z0 z1 z2 zf hws
            go_wp2
            go_meet
            case rel => exact ⟨Yx, am, mm, cm, rfl, rfl, HFILL, HBS⟩
          · go_wp2
            have hka : Kept (fun b => b < w6.heap.size) wq (wq.alloc (.cells #[.int .u64 0, .int .u64 0, .slice none 0 0] 27)) := Kept.of_below (bnew wq (.cells #[.int .u64 0, .int .u64 0, .slice none 0 0] 27)) (fun b hb => Nat.lt_of_lt_of_le hb HBQ.out.size)
            refine OnToK.mk hka (Sub.refl _) ?_
            clear hka
            have hza := alloc_new wq (.cells #[.int .u64 0, .int .u64 0, .slice none 0 0] 27)
            have HQ2 := hide (HQ.out.then (bnew wq (.cells #[.int .u64 0, .int .u64 0, .slice none 0 0] 27)))
            have HYX := hide (show w6.heap.size ≤ wq.heap.size from HBQ.out.size)
            have HWA0 := hide (bl HBQ.out (bnew wq (.cells #[.int .u64 0, .int .u64 0, .slice none 0 0] 27)))
            have hyl : wq.heap.size < (wq.alloc (.cells #[.int .u64 0, .int .u64 0, .slice none 0 0] 27)).heap.size := by simp
            obtain ⟨Yx, hYx⟩ : ∃ y, wq.heap.size = y := ⟨_, rfl⟩
            obtain ⟨wa0, hwa⟩ : ∃ W, wq.alloc (.cells #[.int .u64 0, .int .u64 0, .slice none 0 0] 27) = W := ⟨_, rfl⟩
            rw [hYx] at hza HYX hyl ⊢
            rw [hwa] at hza HQ2 HWA0 hyl ⊢
            clear hYx hwa
            refine wpG_stageK (wpQuiet_nil ?_)
            go_wp2_with fail
            refine (ldone_any HQ2.out.led HFIT.out n t y).mono ?_
            rintro e wa ⟨rv, rfl, hl, hbz⟩
            rw [HD3.out] at hl ⊢
            obtain ⟨am, mm, cm, rfl, hmm, hl2⟩ := hl.view
            clear hmm
            obtain ⟨fm, hfm⟩ : ∃ x, O.abs.first = x := ⟨_, rfl⟩
            obtain ⟨nm, hnm⟩ : ∃ x, O.abs.next = x := ⟨_, rfl⟩
            have e1 : fm = FO := by rw [← hfm]; exact FOE.out
            have e2 : nm = NO := by rw [← hnm]; exact NOE.out
            rw [hfm, hnm, e1, e2] at hl2 ⊢
            clear hl
            replace hza := (hbz.block Yx hyl).trans hza
            have hkz : Kept (fun b => b < w6.heap.size) wa0 wa := Kept.of_below hbz (fun b hb => Nat.lt_of_lt_of_le hb HWA0.out.size)
            have HWA := hide (bl HWA0.out hbz)
            clear hfm hnm e1 e2 hbz hyl
            have z0 := lcell_of hza 0 rfl
            have z1 := lcell_of hza 1 rfl
            have z2 := lcell_of hza 2 rfl
            have zf := lfrozen_of hza
            have hfill := LBox.fill hza hl2 (above_pos HOO.out)
            have hks := kept3 wa Yx (.int .u64 (FO : Int)) (.int .u64 (NO : Int)) (.slice am mm cm)
            obtain ⟨ws, hws⟩ : ∃ W, ((wa.setCell ⟨Yx, 0, none⟩ (.int .u64 (FO : Int))).setCell ⟨Yx, 1, none⟩ (.int .u64 (NO : Int))).setCell ⟨Yx, 2, none⟩ (.slice am mm cm) = W := ⟨_, rfl⟩
            rw [hws] at hfill hks
            have hbs : Below w6.heap.size w6 ws := HWA.out.trans (hks.bel (fun b hb => by have := HYX.out; omega))
            have HFILL := hide hfill
            have HBS := hide hbs
            clear hfill hbs hza hl2
            go_wp2
            refine OnToK.mk hkz (Sub.refl _) ?_
            clear hkz
            have inh : Nonempty (GrK (fun b => b < w6.heap.size) wa) := GrK.some _ wa
            refine wpG_stageK ?_
            repeat (go_big_quiet_step (fail))
            refine wpQuiet_nil ?_
            clear inh
            go_wp2
            try rw [hws]
            refine OnToK.mk (hks.mono (fun b hb => by have := HYX.out; omega)) (Sub.refl _) ?_
            have inh : Nonempty (GrK (fun b => b < w6.heap.size) ws) := GrK.some _ ws
            refine wpG_lastK ?_
            repeat (go_big_quiet_step (fail))
            refine wpQuiet_nil ?_
            clear z0 z1 z2 zf hws
            go_wp2
            go_meet
            case rel => exact ⟨Yx, am, mm, cm, rfl, rfl, HFILL, HBS⟩
        case rest =>
          obtain ⟨YO, aYO, mYO, cYO, rfl, rfl, HYO, HBC⟩ := hcut
          obtain ⟨w7, hwn⟩ : ∃ W, wc = W := ⟨_, rfl⟩
          rw [hwn] at HBC HYO ⊢
          clear hwn
          have HB := hide (HB.out.trans (HBC.out.mono HB.out.size))
          have HS := hide ((HBC.out.cell (p := ⟨b, off + i, none⟩) HBL.out).trans HS.out)
          have HT := hide ((HBC.out.cell (p := ⟨b, off + k, none⟩) HBL.out).trans HT.out)
          have HBL := hide (Nat.lt_of_lt_of_le HBL.out HBC.out.size)
          have HYU := hide (HYU.out.then HBC.out)
          go_upto_region 21 with fail
          go_cut [27, 28] (fun vp ve wc => ∃ (Y : Nat) (a : Option Addr) (m c : Nat), vp = .pointer (some ⟨Y, 0, none⟩) ∧ ve = .int .i64 0 ∧ Hid (LBox wc Y U.abs FU NU a m c) ∧ Hid (Below w7.heap.size w7 wc))
          case first =>
            have x0 := lcell_of HYO.out.cell 0 rfl
            have x1 := lcell_of HYO.out.cell 1 rfl
            have x2 := lcell_of HYO.out.cell 2 rfl
            have g1' := HS.out
            go_wp2_with fail
            clear x0 x1 x2 g1'
            refine wp_region_growP (fun b => b < w7.heap.size) [0, 1, 2, 3, 4, 5, 6] 7 11 _ _ [([8, 9, 10], 11), ([], 12)] [([], 7), ([8, 9, 10], 12)] [13] [] rfl rfl (by kernel_rfl) (by kernel_rfl) (by kernel_rfl) (by kernel_rfl) ?_
            intro wq hbq
            simp only [stagesOfK, getLK, pickLK]
            have HQ := hide (HYO.out.then hbq)
            have HBQ := hide hbq
            have inh : Nonempty (GrK (fun b => b < w7.heap.size) wq) := GrK.some _ wq
            have x0 := fun z : GrK (fun b => b < w7.heap.size) wq => z.cell (a := ⟨YO, 0, none⟩) HYO.out.lt (lcell_of HQ.out.cell 0 rfl)
            have x1 := fun z : GrK (fun b => b < w7.heap.size) wq => z.cell (a := ⟨YO, 1, none⟩) HYO.out.lt (lcell_of HQ.out.cell 1 rfl)
            have x2 := fun z : GrK (fun b => b < w7.heap.size) wq => z.cell (a := ⟨YO, 2, none⟩) HYO.out.lt (lcell_of HQ.out.cell 2 rfl)
            have g1 := fun z : GrK (fun b => b < w7.heap.size) wq => z.cell (a := ⟨b, off + i, none⟩) HBL.out ((hbq.cell (p := ⟨b, off + i, none⟩) HBL.out).trans HS.out)
            clear hbq
            refine wpP_start ?_
            repeat (go_big_quiet_step (fail))
            refine wpQuiet_nil ?_
            clear x0 x1 x2 g1 inh
            refine ⟨?_, ?_⟩
            · go_wp2_with fail
              refine (ldone_any HQ.out.led HFO.out n s x).mono ?_
              rintro e wz ⟨rv, rfl, hl, hbz⟩
              rw [HD4.out] at hl ⊢
              obtain ⟨am, mm, cm, rfl, hmm, hl⟩ := hl.view
              clear hmm
              obtain ⟨fm, hfm⟩ : ∃ x, U.abs.first = x := ⟨_, rfl⟩
              obtain ⟨nm, hnm⟩ : ∃ x, U.abs.next = x := ⟨_, rfl⟩
              have e1 : fm = FU := by rw [← hfm]; exact FUE.out
              have e2 : nm = NU := by rw [← hnm]; exact NUE.out
              rw [hfm, hnm, e1, e2] at hl ⊢
              have hkz : Kept (fun b => b < w7.heap.size) wq wz := Kept.of_below hbz (fun b hb => Nat.lt_of_lt_of_le hb HBQ.out.size)
              clear hfm hnm e1 e2
              go_wp2
              refine OnToK.mk hkz (Sub.refl _) ?_
              clear hkz
              have hza := alloc_new wz (.cells #[.int .u64 0, .int .u64 0, .slice none 0 0] 27)
              have hl2 := hl.below (bnew wz (.cells #[.int .u64 0, .int .u64 0, .slice none 0 0] 27))
              have hba := bnew wz (.cells #[.int .u64 0, .int .u64 0, .slice none 0 0] 27)
              have hka : Kept (fun b => b < w7.heap.size) wz (wz.alloc (.cells #[.int .u64 0, .int .u64 0, .slice none 0 0] 27)) := Kept.of_below hba (fun b hb => Nat.lt_of_lt_of_le hb (Nat.le_trans HBQ.out.size hbz.size))
              have HYX := hide (show w7.heap.size ≤ wz.heap.size from Nat.le_trans HBQ.out.size hbz.size)
              have HWA := hide (bl (bl HBQ.out hbz) hba)
              have inh : Nonempty (GrK (fun b => b < w7.heap.size) wz) := GrK.some _ wz
              clear hl hbz hba
              refine wpG_stageK ?_
              repeat (go_big_quiet_step (fail))
              refine wpQuiet_nil ?_
              clear inh
              go_wp2
              refine OnToK.mk hka (Sub.refl _) ?_
              clear hka
              obtain ⟨Yx, hYx⟩ : ∃ y, wz.heap.size = y := ⟨_, rfl⟩
              obtain ⟨wa, hwa⟩ : ∃ W, wz.alloc (.cells #[.int .u64 0, .int .u64 0, .slice none 0 0] 27) = W := ⟨_, rfl⟩
              rw [hYx] at hza HYX ⊢
              rw [hwa] at hza hl2 HWA ⊢
              clear hYx hwa
              have z0 := lcell_of hza 0 rfl
              have z1 := lcell_of hza 1 rfl
              have z2 := lcell_of hza 2 rfl
              have zf := lfrozen_of hza
              have hfill := LBox.fill hza hl2 (above_pos HUO.out)
              have hks := kept3 wa Yx (.int .u64 (FU : Int)) (.int .u64 (NU : Int)) (.slice am mm cm)
              obtain ⟨ws, hws⟩ : ∃ W, ((wa.setCell ⟨Yx, 0, none⟩ (.int .u64 (FU : Int))).setCell ⟨Yx, 1, none⟩ (.int .u64 (NU : Int))).setCell ⟨Yx, 2, none⟩ (.slice am mm cm) = W := ⟨_, rfl⟩
              rw [hws] at hfill hks
              have hbs : Below w7.heap.size w7 ws := HWA.out.trans (hks.bel (fun b hb => by have := HYX.out; omega))
              have HFILL := hide hfill
              have HBS := hide hbs
              clear hfill hbs hza hl2
              refine wpG_stageK (wpQuiet_nil ?_)
              go_wp2
              try rw [hws]
              refine OnToK.mk (hks.mono (fun b hb => by have := HYX.out; omega)) (Sub.refl _) ?_
              have inh : Nonempty (GrK (fun b => b < w7.heap.size) ws) := GrK.some _ ws
              refine wpG_lastK ?_
              repeat (go_big_quiet_step (fail))
              refine wpQuiet_nil ?_
              clear z0 z1 z2 zf hws
              go_wp2
              go_meet
              case rel => exact ⟨Yx, am, mm, cm, rfl, rfl, HFILL, HBS⟩
            · go_wp2
              have hka : Kept (fun b => b < w7.heap.size) wq (wq.alloc (.cells #[.int .u64 0, .int .u64 0, .slice none 0 0] 27)) := Kept.of_below (bnew wq (.cells #[.int .u64 0, .int .u64 0, .slice none 0 0] 27)) (fun b hb => Nat.lt_of_lt_of_le hb HBQ.out.size)
              refine OnToK.mk hka (Sub.refl _) ?_
              clear hka
              have hza := alloc_new wq (.cells #[.int .u64 0, .int .u64 0, .slice none 0 0] 27)
              have HQ2 := hide (HQ.out.then (bnew wq (.cells #[.int .u64 0, .int .u64 0, .slice none 0 0] 27)))
              have HYX := hide (show w7.heap.size ≤ wq.heap.size from HBQ.out.size)
              have HWA0 := hide (bl HBQ.out (bnew wq (.cells #[.int .u64 0, .int .u64 0, .slice none 0 0] 27)))
              have hyl : wq.heap.size < (wq.alloc (.cells #[.int .u64 0, .int .u64 0, .slice none 0 0] 27)).heap.size := by simp
              obtain ⟨Yx, hYx⟩ : ∃ y, wq.heap.size = y := ⟨_, rfl⟩
              obtain ⟨wa0, hwa⟩ : ∃ W, wq.alloc (.cells #[.int .u64 0, .int .u64 0, .slice none 0 0] 27) = W := ⟨_, rfl⟩
              rw [hYx] at hza HYX hyl ⊢
              rw [hwa] at hza HQ2 HWA0 hyl ⊢
              clear hYx hwa
              refine wpG_stageK (wpQuiet_nil ?_)
              go_wp2_with fail
              refine (ldone_any HQ2.out.led HFO.out n s x).mono ?_
              rintro e wa ⟨rv, rfl, hl, hbz⟩
              rw [HD4.out] at hl ⊢
              obtain ⟨am, mm, cm, rfl, hmm, hl2⟩ := hl.view
              clear hmm
              obtain ⟨fm, hfm⟩ : ∃ x, U.abs.first = x := ⟨_, rfl⟩
              obtain ⟨nm, hnm⟩ : ∃ x, U.abs.next = x := ⟨_, rfl⟩
              have e1 : fm = FU := by rw [← hfm]; exact FUE.out
              have e2 : nm = NU := by rw [← hnm]; exact NUE.out
              rw [hfm, hnm, e1, e2] at hl2 ⊢
              clear hl
              replace hza := (hbz.block Yx hyl).trans hza
              have hkz : Kept (fun b => b < w7.heap.size) wa0 wa := Kept.of_below hbz (fun b hb => Nat.lt_of_lt_of_le hb HWA0.out.size)
              have HWA := hide (bl HWA0.out hbz)
              clear hfm hnm e1 e2 hbz hyl
              have z0 := lcell_of hza 0 rfl
              have z1 := lcell_of hza 1 rfl
              have z2 := lcell_of hza 2 rfl
              have zf := lfrozen_of hza
              have hfill := LBox.fill hza hl2 (above_pos HUO.out)
              have hks := kept3 wa Yx (.int .u64 (FU : Int)) (.int .u64 (NU : Int)) (.slice am mm cm)
              obtain ⟨ws, hws⟩ : ∃ W, ((wa.setCell ⟨Yx, 0, none⟩ (.int .u64 (FU : Int))).setCell ⟨Yx, 1, none⟩ (.int .u64 (NU : Int))).setCell ⟨Yx, 2, none⟩ (.slice am mm cm) = W := ⟨_, rfl⟩
              rw [hws] at hfill hks
              have hbs : Below w7.heap.size w7 ws := HWA.out.trans (hks.bel (fun b hb => by have := HYX.out; omega))
              have HFILL := hide hfill
              have HBS := hide hbs
              clear hfill hbs hza hl2
              go_wp2
              refine OnToK.mk hkz (Sub.refl _) ?_
              clear hkz
              have inh : Nonempty (GrK (fun b => b < w7.heap.size) wa) := GrK.some _ wa
              refine wpG_stageK ?_
              repeat (go_big_quiet_step (fail))
              refine wpQuiet_nil ?_
              clear inh
              go_wp2
              try rw [hws]
              refine OnToK.mk (hks.mono (fun b hb => by have := HYX.out; omega)) (Sub.refl _) ?_
              have inh : Nonempty (GrK (fun b => b < w7.heap.size) ws) := GrK.some _ ws
              refine wpG_lastK ?_
              repeat (go_big_quiet_step (fail))
              refine wpQuiet_nil ?_
              clear z0 z1 z2 zf hws
              go_wp2
              go_meet
              case rel => exact ⟨Yx, am, mm, cm, rfl, rfl, HFILL, HBS⟩
          case rest =>
            obtain ⟨YV, aYV, mYV, cYV, rfl, rfl, HYV, HBC⟩ := hcut
            obtain ⟨w8, hwn⟩ : ∃ W, wc = W := ⟨_, rfl⟩
            rw [hwn] at HBC HYV ⊢
            clear hwn
            have HB := hide (HB.out.trans (HBC.out.mono HB.out.size))
            have HS := hide ((HBC.out.cell (p := ⟨b, off + i, none⟩) HBL.out).trans HS.out)
            have HT := hide ((HBC.out.cell (p := ⟨b, off + k, none⟩) HBL.out).trans HT.out)
            have HBL := hide (Nat.lt_of_lt_of_le HBL.out HBC.out.size)
            have HYU := hide (HYU.out.then HBC.out)
            have x0 := lcell_of HYU.out.cell 0 rfl
            have x1 := lcell_of HYU.out.cell 1 rfl
            have x2 := lcell_of HYU.out.cell 2 rfl
            go_wp2_with fail
            clear x0 x1 x2
            refine (find_any HYU.out.led HFU.out n).mono ?_
            rintro e w9 ⟨hb9, hfd⟩
            rw [Ldg.abs_look, HQL.out] at hfd
            rcases hfd with ⟨h0, _⟩ | ⟨d1, sv1, hd1, rfl, hsl1⟩
            · cases h0
            have hd1' : q.abs = d1 := Option.some.inj hd1
            obtain ⟨qn, qs, ql, qa, qk, qe, qr⟩ := d1
            have HQA := hide hd1'
            obtain ⟨av1, cv1, rfl, _, _, hu1⟩ := hsl1
            obtain ⟨la, hla⟩ : ∃ x, qa.length = x := ⟨_, rfl⟩
            simp only
            rw [hla]
            have HU1 := hide hu1.up
            have HLA := hide hla
            have HLN := hide (show la ≤ 1000000000 by
              have hh := (HFU.out.each q.abs (List.mem_map_of_mem (Ldg.look_mem HQL.out))).len
              rw [HQA.out] at hh
              have hh2 : qa.length ≤ 100000000 := hh
              omega)
            have bD := bnew w9 (.cells #[.string qn, .int .u64 (qs : Int), .int .u64 (ql : Int), .slice av1 la cv1, .int .u64 (qk : Int), .int .u64 (qe : Int), .int .u64 (qr : Int)] 41)
            have cD := alloc_new w9 (.cells #[.string qn, .int .u64 (qs : Int), .int .u64 (ql : Int), .slice av1 la cv1, .int .u64 (qk : Int), .int .u64 (qe : Int), .int .u64 (qr : Int)] 41)
            have HB := hide ((HB.out.trans (hb9.mono HB.out.size)).trans (bD.mono (Nat.le_trans HB.out.size hb9.size)))
            have HYU := hide ((HYU.out.then hb9).then bD)
            have HYV := hide ((HYV.out.then hb9).then bD)
            have HU1 := hide (HU1.out.later bD)
            have x0 := lcell_of HYV.out.cell 0 rfl
            have x1 := lcell_of HYV.out.cell 1 rfl
            have x2 := lcell_of HYV.out.cell 2 rfl
            obtain ⟨Y1, hY1⟩ : ∃ y, w9.heap.size = y := ⟨_, rfl⟩
            obtain ⟨w10, hw10⟩ : ∃ W, w9.alloc (.cells #[.string qn, .int .u64 (qs : Int), .int .u64 (ql : Int), .slice av1 la cv1, .int .u64 (qk : Int), .int .u64 (qe : Int), .int .u64 (qr : Int)] 41) = W := ⟨_, rfl⟩
            rw [hY1, hw10] at cD
            rw [hw10] at HB HYU HYV HU1
            have CD := hide cD
            have HW10 := hide hw10
            have HY1 := hide hY1
            clear hb9 hd1 hd1' hu1 hla bD cD hY1 hw10
            go_wp2_with fail
            rw [HW10.out, HY1.out]
            clear x0 x1 x2
            refine (find_any HYV.out.led HFU.out n).mono ?_
            rintro e w11 ⟨hb11, hfd⟩
            rw [Ldg.abs_look, HQL.out] at hfd
            rcases hfd with ⟨h0, _⟩ | ⟨d2, sv2, hd2, rfl, hsl2⟩
            · cases h0
            obtain rfl : ⟨qn, qs, ql, qa, qk, qe, qr⟩ = d2 := HQA.out.symm.trans (Option.some.inj hd2)
            obtain ⟨av2, cv2, rfl, _, _, hu2⟩ := hsl2
            simp only
            rw [HLA.out]
            have bD := bnew w11 (.cells #[.string qn, .int .u64 (qs : Int), .int .u64 (ql : Int), .slice av2 la cv2, .int .u64 (qk : Int), .int .u64 (qe : Int), .int .u64 (qr : Int)] 41)
            have cD := alloc_new w11 (.cells #[.string qn, .int .u64 (qs : Int), .int .u64 (ql : Int), .slice av2 la cv2, .int .u64 (qk : Int), .int .u64 (qe : Int), .int .u64 (qr : Int)] 41)
            have HB := hide ((HB.out.trans (hb11.mono HB.out.size)).trans (bD.mono (Nat.le_trans HB.out.size hb11.size)))
            have HYU := hide ((HYU.out.then hb11).then bD)
            have HYV := hide ((HYV.out.then hb11).then bD)
            have HU1 := hide ((HU1.out.later hb11).later bD)
            have HU2 := hide (hu2.up.later bD)
            have HY1L := hide (Nat.lt_of_lt_of_le (Nat.lt_of_lt_of_le (Array.getElem?_eq_some_iff.1 CD.out).1 hb11.size) bD.size)
            have CD := hide ((bD.block _ (Nat.lt_of_lt_of_le (Array.getElem?_eq_some_iff.1 CD.out).1 hb11.size)).trans ((hb11.block _ (Array.getElem?_eq_some_iff.1 CD.out).1).trans CD.out))
            have HY2L := hide (show w11.heap.size < (w11.alloc (.cells #[.string qn, .int .u64 (qs : Int), .int .u64 (ql : Int), .slice av2 la cv2, .int .u64 (qk : Int), .int .u64 (qe : Int), .int .u64 (qr : Int)] 41)).heap.size by simp)
            obtain ⟨Y2, hY2⟩ : ∃ y, w11.heap.size = y := ⟨_, rfl⟩
            obtain ⟨w12, hw12⟩ : ∃ W, w11.alloc (.cells #[.string qn, .int .u64 (qs : Int), .int .u64 (ql : Int), .slice av2 la cv2, .int .u64 (qk : Int), .int .u64 (qe : Int), .int .u64 (qr : Int)] 41) = W := ⟨_, rfl⟩
            rw [hY2] at HY2L
            rw [hY2, hw12] at cD
            rw [hw12] at HB HYU HYV HU1 HU2 HY1L HY2L CD
            have CD2 := hide cD
            have HW12 := hide hw12
            have HY2 := hide hY2
            clear hb11 hd2 hu2 bD cD hY2 hw12
            go_wp2_with fail
            rw [HW12.out, HY2.out]
            have HYLTu := hide HYU.out.lt
            have HYLTv := hide HYV.out.lt
            refine wp_region_growK (fun b => b < w12.heap.size) [([0, 1, 2, 3, 4, 5, 6, 7, 8, 9, 10, 11, 12, 13, 14, 15, 16, 17, 18, 19, 20, 21, 22, 23, 24, 25, 26, 27, 28, 29, 30, 31], 32), ([33, 34, 35, 36, 37, 38, 39, 40, 41, 42, 43, 44, 45, 46, 47, 48, 49, 51], 50), ([], 52)] [53, 54, 55] [] (by kernel_rfl) (by kernel_rfl) (by kernel_rfl) (by kernel_rfl) ?_
            intro wq hbq
            simp only [stagesOfK, getLK, pickLK]
            have hq1 := (hbq.block Y1 HY1L.out).trans CD.out
            have hq2 := (hbq.block Y2 HY2L.out).trans CD2.out
            have HQ1 := hide hq1
            have HQ2 := hide hq2
            have HYU := hide (HYU.out.then hbq)
            have HYV := hide (HYV.out.then hbq)
            have HU1 := hide (HU1.out.later hbq)
            have HU2 := hide (HU2.out.later hbq)
            have HB := hide (HB.out.trans (hbq.mono HB.out.size))
            have HSZ := hide hbq.size
            clear hbq hq1 hq2
            have inh : Nonempty (GrK (fun b => b < w12.heap.size) wq) := GrK.some _ wq
            have p2 := fun z : GrK (fun b => b < w12.heap.size) wq => z.cell (a := ⟨Y1, 2, none⟩) HY1L.out (lcell_of HQ1.out 2 rfl)
            have p3 := fun z : GrK (fun b => b < w12.heap.size) wq => z.cell (a := ⟨Y1, 3, none⟩) HY1L.out (lcell_of HQ1.out 3 rfl)
            have p4 := fun z : GrK (fun b => b < w12.heap.size) wq => z.cell (a := ⟨Y1, 4, none⟩) HY1L.out (lcell_of HQ1.out 4 rfl)
            have p6 := fun z : GrK (fun b => b < w12.heap.size) wq => z.cell (a := ⟨Y1, 6, none⟩) HY1L.out (lcell_of HQ1.out 6 rfl)
            have q2 := fun z : GrK (fun b => b < w12.heap.size) wq => z.cell (a := ⟨Y2, 2, none⟩) HY2L.out (lcell_of HQ2.out 2 rfl)
            have q3 := fun z : GrK (fun b => b < w12.heap.size) wq => z.cell (a := ⟨Y2, 3, none⟩) HY2L.out (lcell_of HQ2.out 3 rfl)
            have q4 := fun z : GrK (fun b => b < w12.heap.size) wq => z.cell (a := ⟨Y2, 4, none⟩) HY2L.out (lcell_of HQ2.out 4 rfl)
            have q6 := fun z : GrK (fun b => b < w12.heap.size) wq => z.cell (a := ⟨Y2, 6, none⟩) HY2L.out (lcell_of HQ2.out 6 rfl)
            refine wpG_stageK ?_
            repeat (go_big_quiet_step (fail))
            refine wpQuiet_nil ?_
            clear p2 p3 p4 p6 q2 q3 q4 q6 inh
            go_wp2_with fail
            refine (usame_yes HU1.out HU2.out (by rw [HLA.out]; exact HLN.out) HLA.out.symm).mono ?_
            rintro e w13 ⟨rfl, hb13⟩
            have hk13 : Kept (fun b => b < w12.heap.size) wq w13 := Kept.of_below hb13 (fun b hb => Nat.lt_of_lt_of_le hb HSZ.out)
            have HYU := hide (HYU.out.then hb13)
            have HYV := hide (HYV.out.then hb13)
            have HB := hide (HB.out.trans (hb13.mono HB.out.size))
            have HQ1 := hide ((hb13.block Y1 (Nat.lt_of_lt_of_le HY1L.out HSZ.out)).trans HQ1.out)
            have HQ2 := hide ((hb13.block Y2 (Nat.lt_of_lt_of_le HY2L.out HSZ.out)).trans HQ2.out)
            have HSZ := hide (Nat.le_trans HSZ.out hb13.size)
            clear hb13
            go_wp2
            refine OnToK.mk hk13 (Sub.refl _) ?_
            clear hk13
            have inh : Nonempty (GrK (fun b => b < w12.heap.size) w13) := GrK.some _ w13
            have u0 := fun z : GrK (fun b => b < w12.heap.size) w13 => z.cell (a := ⟨YU, 0, none⟩) HYLTu.out (lcell_of HYU.out.cell 0 rfl)
            have u1 := fun z : GrK (fun b => b < w12.heap.size) w13 => z.cell (a := ⟨YU, 1, none⟩) HYLTu.out (lcell_of HYU.out.cell 1 rfl)
            have u2 := fun z : GrK (fun b => b < w12.heap.size) w13 => z.cell (a := ⟨YU, 2, none⟩) HYLTu.out (lcell_of HYU.out.cell 2 rfl)
            have v0 := fun z : GrK (fun b => b < w12.heap.size) w13 => z.cell (a := ⟨YV, 0, none⟩) HYLTv.out (lcell_of HYV.out.cell 0 rfl)
            have v1 := fun z : GrK (fun b => b < w12.heap.size) w13 => z.cell (a := ⟨YV, 1, none⟩) HYLTv.out (lcell_of HYV.out.cell 1 rfl)
            have v2 := fun z : GrK (fun b => b < w12.heap.size) w13 => z.cell (a := ⟨YV, 2, none⟩) HYLTv.out (lcell_of HYV.out.cell 2 rfl)
            have p2 := fun z : GrK (fun b => b < w12.heap.size) w13 => z.cell (a := ⟨Y1, 2, none⟩) HY1L.out (lcell_of HQ1.out 2 rfl)
            have p3 := fun z : GrK (fun b => b < w12.heap.size) w13 => z.cell (a := ⟨Y1, 3, none⟩) HY1L.out (lcell_of HQ1.out 3 rfl)
            have p4 := fun z : GrK (fun b => b < w12.heap.size) w13 => z.cell (a := ⟨Y1, 4, none⟩) HY1L.out (lcell_of HQ1.out 4 rfl)
            have p6 := fun z : GrK (fun b => b < w12.heap.size) w13 => z.cell (a := ⟨Y1, 6, none⟩) HY1L.out (lcell_of HQ1.out 6 rfl)
            have q2 := fun z : GrK (fun b => b < w12.heap.size) w13 => z.cell (a := ⟨Y2, 2, none⟩) HY2L.out (lcell_of HQ2.out 2 rfl)
            have q3 := fun z : GrK (fun b => b < w12.heap.size) w13 => z.cell (a := ⟨Y2, 3, none⟩) HY2L.out (lcell_of HQ2.out 3 rfl)
            have q4 := fun z : GrK (fun b => b < w12.heap.size) w13 => z.cell (a := ⟨Y2, 4, none⟩) HY2L.out (lcell_of HQ2.out 4 rfl)
            have q6 := fun z : GrK (fun b => b < w12.heap.size) w13 => z.cell (a := ⟨Y2, 6, none⟩) HY2L.out (lcell_of HQ2.out 6 rfl)
            refine wpG_stageK ?_
            repeat (go_big_quiet_step (fail))
            refine wpQuiet_nil ?_
            clear p2 p3 p4 p6 q2 q3 q4 q6 u0 u1 u2 v0 v1 v2 inh
            go_wp2_with fail
            refine (free_any HYU.out.led HFU.out).mono ?_
            rintro e w14 ⟨rfl, hb14⟩
            have hk14 : Kept (fun b => b < w12.heap.size) w13 w14 := Kept.of_below hb14 (fun b hb => Nat.lt_of_lt_of_le hb HSZ.out)
            have HYV := hide (HYV.out.then hb14)
            have HB := hide (HB.out.trans (hb14.mono HB.out.size))
            have HSZ := hide (Nat.le_trans HSZ.out hb14.size)
            clear hb14
            go_wp2
            refine OnToK.mk hk14 (Sub.refl _) ?_
            clear hk14
            refine wpG_stageK (wpQuiet_nil ?_)
            go_wp2_with fail
            refine (free_any HYV.out.led HFU.out).mono ?_
            rintro e w15 ⟨rfl, hb15⟩
            have hk15 : Kept (fun b => b < w12.heap.size) w14 w15 := Kept.of_below hb15 (fun b hb => Nat.lt_of_lt_of_le hb HSZ.out)
            have HB := hide (HB.out.trans (hb15.mono HB.out.size))
            clear hb15
            go_wp2
            refine OnToK.mk hk15 (Sub.refl _) ?_
            clear hk15
            have inh : Nonempty (GrK (fun b => b < w12.heap.size) w15) := GrK.some _ w15
            refine wpG_lastK ?_
            repeat (go_big_quiet_step (fail))
            refine wpQuiet_nil ?_
            clear inh
            go_wp2
            go_ret
            exact ⟨rfl, HB.out⟩
end Go.Proofs.Ytcegdmdnpepliaa
