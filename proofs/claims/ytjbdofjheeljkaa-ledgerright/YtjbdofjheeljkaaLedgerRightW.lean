/-
  The walk of LedgerRight.
-/
import Derived.Test.YtjbdofjheeljkaaLdgRowCW
import Derived.Test.YtjbdofjheeljkaaLdgAddW
import Derived.Test.YtjbdofjheeljkaaLdgRead2W
import Derived.Test.YtjbdofjheeljkaaLdgFromW
import Derived.Test.YtjbdofjheeljkaaPlain
import Derived.Test.YtjbdofjheeljkaaLdgDupW
import Derived.Test.YtjbdofjheeljkaaLdgDupAW
import Derived.Test.YtjbdofjheeljkaaGrowT
import Derived.Deep.DeepCutAuto
namespace Go.Proofs.Ytjbdofjheeljkaa
open Go.RowKit
open Ldg (De Le Rd Rl actL runL aN)

set_option linter.unusedVariables false in
set_option maxRecDepth 100000 in
set_option maxHeartbeats 600000 in
theorem walkLedgerRight (a0 : Option Addr) (cap0 : Nat) (l : List La) (a1 a2 : Int) (w : World) (ha : LasAt w a0 l) (hl : l.length ≤ 9223372036854775807) (hcap : l.length ≤ cap0) (hok : ∀ p ∈ l, LaOk p) (hno : a0 = none → cap0 = 0) (h1 : -9223372036854775808 ≤ a1 ∧ a1 ≤ 9223372036854775807) (h2 : -9223372036854775808 ≤ a2 ∧ a2 ≤ 9223372036854775807) :
    Calls Try.prog 9 #[.slice a0 l.length cap0, .int .i64 a1, .int .i64 a2] w fun e w' => e = .returned (.bool true) ∧ Below w.heap.size w w' := by
  have HA := hide ha
  have HOK := hide hok
  clear ha hok
  by_cases hlen : l.length ≤ 100
  case neg =>
    go_enter Try.func9, Try.ntmps9
    go_wp2_with fail
    refine (lshown_any _).mono ?_
    rintro e w1 ⟨rfl, hb1⟩
    go_wp2
    go_ret
    exact ⟨rfl, hb1⟩
  obtain ⟨hRok, hRn⟩ := Ldg.run_ok (l := l) (by omega)
  obtain ⟨R, hR⟩ : ∃ R, runL l = R := ⟨_, rfl⟩
  rw [hR] at hRok hRn
  have HR := hide hR
  have HRO := hide hRok
  have HRN := hide hRn
  have HFIT := hide (Ldg.abs_fit hRok)
  clear hR hRok hRn
  go_enter Try.func9, Try.ntmps9
  go_wp2_with fail
  refine (lshown_any _).mono ?_
  rintro e w1 ⟨rfl, hb1⟩
  have HB := hide hb1
  clear hb1
  go_wp2_with fail
  refine (run_any cap0 (HA.out.below HB.out) HOK.out (by omega)).mono ?_
  rintro e w2 ⟨ar, mr, cr, rfl, hled, hb2⟩
  rw [HR.out] at hled ⊢
  have HBW := hide (bl HB.out hb2)
  have HB := HBW
  have hbx := LBox.new hled
  obtain ⟨F, hF⟩ : ∃ x, R.first = x := ⟨_, rfl⟩
  obtain ⟨N, hN⟩ : ∃ x, R.next = x := ⟨_, rfl⟩
  have HF := hide hF
  have HNX := hide hN
  obtain ⟨X, hX⟩ : ∃ x, w2.heap.size = x := ⟨_, rfl⟩
  rw [hF, hN] at hbx ⊢
  rw [hX] at hbx
  have HBX := hide hbx
  have HX := hide hX
  clear hled hb2 hbx hF hN
  have hbn := bnew w2 (.cells #[.int .u64 (F : Int), .int .u64 (N : Int), .slice ar mr cr] 27)
  obtain ⟨w3, hw3⟩ : ∃ W, w2.alloc (.cells #[.int .u64 (F : Int), .int .u64 (N : Int), .slice ar mr cr] 27) = W := ⟨_, rfl⟩
  have hbx := HBX.out
  rw [hw3] at hbx hbn
  have HBX := hide hbx
  have HB := hide (HB.out.trans (hbn.mono HB.out.size))
  clear hbx hbn
  go_upto_region 5 with fail
  try rw [hw3]
  try rw [hX]
  clear hw3 hX
  have hmr := HBX.out.m4 HRO.out
  obtain ⟨hmr1, hmr2⟩ := hmr
  have HMR := hide hmr1
  clear hmr1
  have x0 := lcell_of HBX.out.cell 0 rfl
  have x1 := lcell_of HBX.out.cell 1 rfl
  have x2 := lcell_of HBX.out.cell 2 rfl
  by_cases hz : mr = 0
  · have hzi : (((mr : Nat) : Int) == 0) = true := by subst hz; rfl
    clear hz
    go_wp2_with fail
    clear x0 x1 x2
    refine (right_any HBX.out.led (by have := HFIT.out.many; omega) (fun d hd => (HFIT.out.each d hd).small)).mono ?_
    rintro e w4 ⟨rfl, hb4⟩
    rw [Ldg.abs_right HRO.out]
    have HB := hide (HB.out.trans (hb4.mono HB.out.size))
    clear hb4
    go_wp2
    go_ret
    exact ⟨rfl, HB.out⟩
  have hzi : (((mr : Nat) : Int) == 0) = false := beq_eq_false_iff_ne.2 (by omega)
  have HZ := hide hz
  clear hz
  go_wp2_with fail
  clear x0 x1 x2
  refine (right_any HBX.out.led (by have := HFIT.out.many; omega) (fun d hd => (HFIT.out.each d hd).small)).mono ?_
  rintro e w4 ⟨rfl, hb4⟩
  rw [Ldg.abs_right HRO.out]
  have HB := hide (HB.out.trans (hb4.mono HB.out.size))
  have HBX := hide (HBX.out.then hb4)
  clear hb4 hzi
  have x0 := lcell_of HBX.out.cell 0 rfl
  have x1 := lcell_of HBX.out.cell 1 rfl
  have x2 := lcell_of HBX.out.cell 2 rfl
  obtain ⟨k, hk⟩ : ∃ k, pk a1 mr = k := ⟨_, rfl⟩
  have hkl : k < mr := by rw [← hk]; exact pk_lt a1 (by have := HZ.out; omega)
  have HK := hide hk
  clear hk
  go_wp2_with fail
  clear x0 x1 x2
  refine (pick_any a1 mr _ h1.1 h1.2 (by have := HZ.out; omega) (by omega)).mono ?_
  rintro e w5 ⟨rfl, hw⟩
  rw [hw, HK.out]
  clear hw
  go_upto_region 8 with fail
  have x0 := lcell_of HBX.out.cell 0 rfl
  have x1 := lcell_of HBX.out.cell 1 rfl
  have x2 := lcell_of HBX.out.cell 2 rfl
  go_wp2_with fail
  clear x0 x1 x2
  refine (add_any HBX.out.led HFIT.out).mono ?_
  rintro e w6 ⟨rv, rfl, hl, hb6⟩
  rw [← Ldg.add_abs] at hl
  have HB := hide (HB.out.trans (hb6.mono HB.out.size))
  have hn7 : N ≤ 10000000 := by have h2 := HNX.out; have h3 := HRO.out.nb; omega
  have hn1 : R.next + 1 ≤ 10000000 := by have := HRN.out; omega
  have hAO := Ldg.add_ok HRO.out hn1
  obtain ⟨A, hA⟩ : ∃ A, R.add = A := ⟨_, rfl⟩
  have hAf : A.first = F := by rw [← hA]; exact HF.out
  obtain ⟨N1, hN1⟩ : ∃ N1, N + 1 = N1 := ⟨_, rfl⟩
  have hAn : A.next = N1 := by rw [← hA, ← hN1, ← HNX.out]; rfl
  have hAl : A.dests.length = mr := by rw [← hA, HMR.out]; exact List.length_map _
  rw [hA] at hl hAO
  obtain ⟨am, mm, cm, rfl, hmm, hl⟩ := hl.view
  rw [Ldg.abs_many, hAl] at hmm
  subst hmm
  obtain ⟨fm, hfm⟩ : ∃ x, A.abs.first = x := ⟨_, rfl⟩
  obtain ⟨nm, hnm⟩ : ∃ x, A.abs.next = x := ⟨_, rfl⟩
  have e1 : fm = F := by rw [← hfm]; exact hAf
  have e2 : nm = N1 := by rw [← hnm]; exact hAn
  rw [hfm, hnm, e1, e2] at hl ⊢
  have HAO := hide hAO
  have HAF := hide hAf
  have HAN := hide hAn
  have HFA := hide (Ldg.abs_fit hAO)
  have HN1 := hide hN1
  have HAL := hide hAl
  clear hfm hnm e1 e2 hA hAO hAf hAn hAl hN1 hb6
  have hbx := LBox.new hl
  have hbn := bnew w6 (.cells #[.int .u64 (F : Int), .int .u64 (N1 : Int), .slice am mm cm] 27)
  obtain ⟨w7, hw7⟩ : ∃ W, w6.alloc (.cells #[.int .u64 (F : Int), .int .u64 (N1 : Int), .slice am mm cm] 27) = W := ⟨_, rfl⟩
  obtain ⟨Y, hY⟩ : ∃ y, w6.heap.size = y := ⟨_, rfl⟩
  rw [hw7, hY] at hbx
  rw [hw7] at hbn
  have HBY := hide hbx
  have HB := hide (HB.out.trans (hbn.mono HB.out.size))
  have HW7 := hide hw7
  have HY := hide hY
  clear hl hbx hbn hw7 hY HBX
  go_upto_region 9 with fail
  try rw [HW7.out]
  try rw [HY.out]
  clear HW7 HY
  have y0 := lcell_of HBY.out.cell 0 rfl
  have y1 := lcell_of HBY.out.cell 1 rfl
  have y2 := lcell_of HBY.out.cell 2 rfl
  have hza := alloc_new w7 (.cells #[.int .u64 (F : Int), .int .u64 (N1 : Int), .slice am mm cm] 27)
  have hbn := bnew w7 (.cells #[.int .u64 (F : Int), .int .u64 (N1 : Int), .slice am mm cm] 27)
  obtain ⟨w8, hw8⟩ : ∃ W, w7.alloc (.cells #[.int .u64 (F : Int), .int .u64 (N1 : Int), .slice am mm cm] 27) = W := ⟨_, rfl⟩
  obtain ⟨Z, hZ⟩ : ∃ y, w7.heap.size = y := ⟨_, rfl⟩
  have hZw : w.heap.size ≤ Z := by rw [← hZ]; exact HB.out.size
  have hs8 : w8.heap.size = Z + 1 := by rw [← hw8, ← hZ]; simp
  rw [hZ, hw8] at hza hbn
  have HY7 := hide (show Y < Z from by rw [← hZ]; exact HBY.out.lt)
  have HZ8 := hide hza
  have HB8 := hide hbn
  have HWZ := hide hw8
  have HZZ := hide hZ
  have HZW := hide hZw
  have HS8 := hide hs8
  have hyb := HBY.out
  obtain ⟨am2, cm2, ps, e0, hcm, hps, hds⟩ := hyb.led
  simp only [Value.agg.injEq, Array.mk.injEq, List.cons.injEq, Value.int.injEq, true_and, and_true, Value.slice.injEq] at e0
  obtain ⟨q1, q2, q3, q4, q5⟩ := e0
  subst q3 q5
  have hzn : am = none → cm = 0 := by
    intro e
    subst e
    obtain ⟨b, off, hh, _⟩ := hds.cells 0 (by omega)
    cases hh
  have HPS := hide hps
  have HDS := hide hds
  have HQ4 := hide q4
  have HZN := hide hzn
  have hsm : ∀ d ∈ ps.map Prod.fst, De.Small d := by rw [← hps]; exact fun d hd => (HFA.out.each d hd).small
  have HSM := hide hsm
  clear q1 q2 hza hbn hw8 hZ hZw hs8 hyb hps hds q4 hzn hsm hcm
  go_upto_region 10 with fail
  clear y0 y1 y2
  try rw [HWZ.out]
  try rw [HZZ.out]
  have hown0 := OwnP.nil (w := w8.alloc (.cells #[] 41)) (g := w8.heap.size) (B := Z) (alloc_new _ _) (by have := HS8.out; omega)
  have hb9 := bnew w8 (.cells #[] 41)
  have hb79 : Below Z w7 (w8.alloc (.cells #[] 41)) := HB8.out.trans (hb9.mono (by have := HS8.out; omega))
  obtain ⟨v10, w10, hr10, hown, hg10, hob10⟩ := hown0.copy (n := mm) (ty := 25) (by have := HS8.out; simp; omega) (HDS.out.below (by rw [HZZ.out]; exact hb79)) (fun p hp => ((HDS.out.sls p hp).mono (Y := fun b => b < Z) (fun b hb _ => by have := HZZ.out; omega)).keep hb79.size (fun b _ hx => hb79.block b hx)) HZN.out HQ4.out (by have := HQ4.out; omega) (fun g hg => by have := Option.some.inj (show some w8.heap.size = some g from hg); have := HS8.out; omega)
  have y2 := lcell_of ((hb79.block Y HY7.out).trans HBY.out.cell) 2 rfl
  have hp1 : 0 < ps.length := by have := HQ4.out; omega
  obtain ⟨G, CG, hv10, hBG0⟩ := hown.at hp1
  rw [hv10] at hob10
  have hBG : Z < G := by
    have h8 := HS8.out
    rcases hob10 with e | e
    · have := Option.some.inj (show some G = some w8.heap.size from e)
      omega
    · have := Option.some.inj (show some G = some (w8.alloc (.cells #[] 41)).heap.size from e)
      simp at this
      omega
  have hb10 : Below Z w7 w10 := hb79.trans (below_grown hg10 (fun g hg => by have := Option.some.inj (show some w8.heap.size = some g from hg); have := HS8.out; omega) (by have := HS8.out; have := hb79.size; simp; omega))
  have hz10 : w10.heap[Z]? = some (.cells #[.int .u64 (F : Int), .int .u64 (N1 : Int), .slice am mm cm] 27 (0, 0)) := (hg10.block Z (by have := HS8.out; simp; omega) (fun e => by have := Option.some.inj (show some Z = some w8.heap.size from e); have := HS8.out; omega)).trans ((Below.heap_alloc _ _ _ (by have := HS8.out; omega)).trans HZ8.out)
  rw [hv10] at hr10 hown
  rw [← HQ4.out] at hr10 hown hp1
  have zf := lfrozen_of hz10
  have z2 := lcell_of hz10 2 rfl
  have hdup := DupI.made hz10 hown hBG HQ4.out
  have hks := Below.refl Z w7
  obtain ⟨w11, hw11⟩ : ∃ W, w10.setCell ⟨Z, 2, none⟩ (.slice (some ⟨G, 0, none⟩) mm CG) = W := ⟨_, rfl⟩
  have hb11 : Below Z w7 w11 := by rw [← hw11]; exact hb10.setCell (p := ⟨Z, 2, none⟩) (Nat.le_refl _) _
  rw [hw11] at hdup
  have HDU := hide hdup
  have HB11 := hide hb11
  have HW11 := hide hw11
  clear hown0 hb9 hb79 hown hg10 hv10 hb10 hz10 hdup hb11 hw11 hks hBG hBG0 hp1
  have HR10 := hide hr10
  clear hr10 hob10
  go_wp2_with (at_builtin; refine Ldg.wpList_app_run rfl _ _ _ _ rfl rfl rfl HR10.out ?_)
  go_upto_region 11 with fail
  clear y2 zf z2 HR10
  try rw [HW11.out]
  obtain ⟨j, hj⟩ : ∃ j, pk a2 8 = j := ⟨_, rfl⟩
  have hj8 : j < 8 := by rw [← hj]; exact pk_lt a2 (by omega)
  have HJ := hide hj
  clear hj
  refine (pick_any a2 8 _ h2.1 h2.2 (by omega) (by omega)).mono ?_
  rintro e w12 ⟨rfl, hw⟩
  rw [hw, HJ.out]
  clear hw
  have hkp : k < ps.length := by have := HQ4.out; omega
  have HKP := hide hkp
  have hmem : ps[k].1 ∈ A.abs.dests := by rw [HPS.out]; exact List.mem_map_of_mem (List.getElem_mem hkp)
  have hrt0 := Ldg.right_each (Ldg.abs_right HAO.out) _ hmem
  rw [show A.abs.first = F from HAF.out, show A.abs.next = N1 from HAN.out] at hrt0
  have hak0 := abs_ak HAO.out hmem
  have hsk0 := (HFA.out.each _ hmem).small
  have hcl0 := HDU.out.cells hkp
  have hsl0 := (HDU.out.own.sls _ (List.getElem_mem hkp))
  obtain ⟨q, hq, hrt, hak, hsk, hcl, hsl⟩ : ∃ q : DV, ps[k] = q ∧ q.1.right F N1 = true ∧ q.1.ak ≤ 10000000 ∧ De.Small q.1 ∧ (∀ (i : Nat) (u : Value), (drow q)[i]? = some u → w11.cell? ⟨G, k * 7 + i, none⟩ = some u) ∧ SlIn (fun b => b < Z) w11 q.2 q.1.above := ⟨_, rfl, hrt0, hak0, hsk0, hcl0, hsl0⟩
  have HQ := hide (show ∃ h : k < ps.length, ps[k] = q from ⟨hkp, hq⟩)
  have HRT := hide hrt
  have HAK := hide hak
  have HSK := hide hsk
  have HCL := hide hcl
  have HSL := hide hsl
  clear hrt hak hsk hcl hq hsl hrt0 hak0 hsk0 hcl0 hsl0 hmem hkp
  obtain ⟨⟨nm, s, lo, ab, ak, ev, rj⟩, sv⟩ := q
  have hl1000 : ps.length ≤ 1000 := by have := HQ4.out; omega
  have y1 := lcell_of ((HB11.out.block Y HY7.out).trans HBY.out.cell) 1 rfl
  have z0 := lcell_of HDU.out.cell 0 rfl
  have z1 := lcell_of HDU.out.cell 1 rfl
  have z2 := lcell_of HDU.out.cell 2 rfl
  have zf := lfrozen_of HDU.out.cell
  have g0 : w11.cell? ⟨G, k * 7, none⟩ = some (.string nm) := HCL.out 0 _ rfl
  have g1 := HCL.out 1 _ rfl
  have g2 := HCL.out 2 _ rfl
  have g3 := HCL.out 3 _ rfl
  have g4 := HCL.out 4 _ rfl
  have g5 := HCL.out 5 _ rfl
  have g6 := HCL.out 6 _ rfl
  have gf := HDU.out.frozen
  have hzg := HDU.out.zg
  have hks : 1 ≤ s := by
    have h := HRT.out
    unfold De.right at h
    simp only [Bool.and_eq_true, decide_eq_true_eq] at h
    omega
  rcases (show j = 0 ∨ j = 1 ∨ j = 2 ∨ j = 3 ∨ j = 4 ∨ j = 5 ∨ j = 6 ∨ j = 7 by omega) with rfl | rfl | rfl | rfl | rfl | rfl | rfl | rfl
  · obtain ⟨ak1, hak1⟩ : ∃ x, ak + 1 = x := ⟨_, rfl⟩
    have q1 : ((ak : Nat) : Int) + 1 = (ak1 : Int) := by omega
    have q2 : IntKind.u64.wrap ((ak1 : Nat) : Int) = (ak1 : Int) := by rw [IntKind.wrap_u64]; have h : ak ≤ 10000000 := HAK.out; omega
    go_upto_region 27 with fail
    clear y1 z0 z1 z2 zf g0 g1 g2 g3 g4 g5 g6 gf q1 q2
    obtain ⟨hkq, hqq⟩ := HQ.out
    have hd := HDU.out.one hkq (i := 4) (by omega) (.int .u64 (ak1 : Int)) ((⟨nm, s, lo, ab, ak1, ev, rj⟩), sv) (by rw [hqq]; rfl) HSL.out
    obtain ⟨wc, hwc⟩ : ∃ W, w11.setCell ⟨G, k * 7 + 4, none⟩ (.int .u64 (ak1 : Int)) = W := ⟨_, rfl⟩
    have HBC := hide (show Below Z w7 wc by rw [← hwc]; exact HB11.out.setCell (p := ⟨G, k * 7 + 4, none⟩) (by show Z ≤ G; omega) _)
    rw [hwc] at hd
    have HBAD := hide (hd.badAt hkq (by rw [← hak1]; exact Ldg.bad_ak HRT.out) hl1000 HSM.out ({ HSK.out with ak := by have := HAK.out; rw [← hak1]; show ak + 1 ≤ 1000000000; have h : ak ≤ 10000000 := this; omega }))
    try rw [hwc]
    clear hd hwc
    have y0 := lcell_of (HBC.out.block Y HY7.out |>.trans HBY.out.cell) 0 rfl
    have y1 := lcell_of (HBC.out.block Y HY7.out |>.trans HBY.out.cell) 1 rfl
    have y2 := lcell_of (HBC.out.block Y HY7.out |>.trans HBY.out.cell) 2 rfl
    go_wp2_with fail
    clear y0 y1 y2
    refine (right_any (HBY.out.led.below (by rw [HZZ.out]; exact HBC.out)) (by have := HFA.out.many; omega) (fun d hd => (HFA.out.each d hd).small)).mono ?_
    rintro e w14 ⟨rfl, hb14⟩
    rw [Ldg.abs_right HAO.out]
    obtain ⟨F2, a9, n9, c9, L9, hc9, hl9, hr9, hm9, hs9⟩ := HBAD.out.out
    have hc14 := (hb14.block Z (Array.getElem?_eq_some_iff.1 hc9).1).trans hc9
    have z0 := lcell_of hc14 0 rfl
    have z1 := lcell_of hc14 1 rfl
    have z2 := lcell_of hc14 2 rfl
    have HB14 := hide (HBC.out.trans (hb14.mono (by rw [← HZZ.out]; exact HBC.out.size)))
    have HL14 := hide (hl9.below hb14)
    have HS9 := hide hs9
    clear hb14 hc9 hl9 hc14 hs9
    go_wp2_with fail
    clear z0 z1 z2
    refine (right_any HL14.out hm9 HS9.out).mono ?_
    rintro e w15 ⟨rfl, hb15⟩
    rw [hr9]
    have HB15 := hide (HB14.out.trans (hb15.mono (by rw [← HZZ.out]; exact HB14.out.size)))
    clear hb15
    go_wp2
    go_ret
    exact ⟨rfl, HB.out.trans (HB15.out.mono HZW.out)⟩
  · obtain ⟨lo1, hlo1⟩ : ∃ x, s - 1 = x := ⟨_, rfl⟩
    have q1 : ((s : Nat) : Int) - 1 = (lo1 : Int) := by omega
    have q2 : IntKind.u64.wrap ((lo1 : Nat) : Int) = (lo1 : Int) := by rw [IntKind.wrap_u64]; have h := HSK.out.since; have h : s ≤ 1000000000 := h; omega
    go_wp2_with fail
    have hzl : Z < w11.heap.size := (Array.getElem?_eq_some_iff.1 HDU.out.cell).1
    have hgl : G < w11.heap.size := (lown_lt HDU.out.own.row rfl).1
    refine wp_region_growK (fun b => b < w11.heap.size) [] [0, 1, 2, 3, 4, 5, 6, 7, 8, 9, 10, 11] [12] (by kernel_rfl) (by kernel_rfl) (by kernel_rfl) (by kernel_rfl) ?_
    intro wq hbq
    simp only [stagesOfK, getLK, pickLK]
    have inh : Nonempty (GrK (fun b => b < w11.heap.size) wq) := GrK.some _ wq
    have z2 := fun z : GrK (fun b => b < w11.heap.size) wq => z.cell (a := ⟨Z, 2, none⟩) hzl ((hbq.cell (p := ⟨Z, 2, none⟩) hzl).trans z2)
    have g1 := fun z : GrK (fun b => b < w11.heap.size) wq => z.cell (a := ⟨G, k * 7 + 1, none⟩) hgl ((hbq.cell (p := ⟨G, k * 7 + 1, none⟩) hgl).trans g1)
    have g2 := fun z : GrK (fun b => b < w11.heap.size) wq => z.cell (a := ⟨G, k * 7 + 2, none⟩) hgl ((hbq.cell (p := ⟨G, k * 7 + 2, none⟩) hgl).trans g2)
    refine wpG_lastK ?_
    repeat (go_big_quiet_step (fail))
    refine wpQuiet_nil ?_
    have hdu := HDU.out.then hbq rfl
    clear z2 g1 g2 inh
    obtain ⟨hkq, hqq⟩ := HQ.out
    have g2 := hdu.cells hkq 2 (.int .u64 (lo : Int)) (by rw [hqq]; rfl)
    have gf := hdu.frozen
    have hd := hdu.one hkq (i := 2) (by omega) (.int .u64 (lo1 : Int)) ((⟨nm, s, lo1, ab, ak, ev, rj⟩, sv)) (by rw [hqq]; rfl) (HSL.out.keep hbq.size (fun b hb _ => hbq.block b hb))
    obtain ⟨wc, hwc⟩ : ∃ W, wq.setCell ⟨G, k * 7 + 2, none⟩ (.int .u64 (lo1 : Int)) = W := ⟨_, rfl⟩
    have HBC := hide (show Below Z w7 wc by rw [← hwc]; exact (HB11.out.trans (hbq.mono (by omega))).setCell (p := ⟨G, k * 7 + 2, none⟩) (by show Z ≤ G; omega) _)
    rw [hwc] at hd
    have HBAD := hide (hd.badAt hkq (by rw [← hlo1]; exact Ldg.bad_low HRT.out) hl1000 HSM.out ({ HSK.out with low := by show lo1 ≤ 1000000000; have h : s ≤ 1000000000 := HSK.out.since; omega }))
    clear hd hdu hbq
    go_upto_region 27 with fail
    clear y1 z0 z1 zf g0 g2 g3 g4 g5 g6 gf q1 q2
    try rw [hwc]
    clear hwc
    have y0 := lcell_of (HBC.out.block Y HY7.out |>.trans HBY.out.cell) 0 rfl
    have y1 := lcell_of (HBC.out.block Y HY7.out |>.trans HBY.out.cell) 1 rfl
    have y2 := lcell_of (HBC.out.block Y HY7.out |>.trans HBY.out.cell) 2 rfl
    go_wp2_with fail
    clear y0 y1 y2
    refine (right_any (HBY.out.led.below (by rw [HZZ.out]; exact HBC.out)) (by have := HFA.out.many; omega) (fun d hd => (HFA.out.each d hd).small)).mono ?_
    rintro e w14 ⟨rfl, hb14⟩
    rw [Ldg.abs_right HAO.out]
    obtain ⟨F2, a9, n9, c9, L9, hc9, hl9, hr9, hm9, hs9⟩ := HBAD.out.out
    have hc14 := (hb14.block Z (Array.getElem?_eq_some_iff.1 hc9).1).trans hc9
    have z0 := lcell_of hc14 0 rfl
    have z1 := lcell_of hc14 1 rfl
    have z2 := lcell_of hc14 2 rfl
    have HB14 := hide (HBC.out.trans (hb14.mono (by rw [← HZZ.out]; exact HBC.out.size)))
    have HL14 := hide (hl9.below hb14)
    have HS9 := hide hs9
    clear hb14 hc9 hl9 hc14 hs9
    go_wp2_with fail
    clear z0 z1 z2
    refine (right_any HL14.out hm9 HS9.out).mono ?_
    rintro e w15 ⟨rfl, hb15⟩
    rw [hr9]
    have HB15 := hide (HB14.out.trans (hb15.mono (by rw [← HZZ.out]; exact HB14.out.size)))
    clear hb15
    go_wp2
    go_ret
    exact ⟨rfl, HB.out.trans (HB15.out.mono HZW.out)⟩
  · go_upto_region 27 with fail
    clear y1 z0 z1 z2 zf g0 g1 g2 g3 g4 g5 g6 gf 
    obtain ⟨hkq, hqq⟩ := HQ.out
    have hd := HDU.out.one hkq (i := 0) (by omega) (.string ⟨#[49]⟩) ((⟨⟨#[49]⟩, s, lo, ab, ak, ev, rj⟩), sv) (by rw [hqq]; rfl) HSL.out
    rw [Nat.add_zero] at hd
    obtain ⟨wc, hwc⟩ : ∃ W, w11.setCell ⟨G, k * 7, none⟩ (.string ⟨#[49]⟩) = W := ⟨_, rfl⟩
    have HBC := hide (show Below Z w7 wc by rw [← hwc]; exact HB11.out.setCell (p := ⟨G, k * 7, none⟩) (by show Z ≤ G; omega) _)
    rw [hwc] at hd
    have HBAD := hide (hd.badAt hkq (Ldg.bad_name (d := ⟨nm, s, lo, ab, ak, ev, rj⟩)) hl1000 HSM.out ({ HSK.out with name := by show (1 : Nat) ≤ 1000000000; omega }))
    try rw [hwc]
    clear hd hwc
    have y0 := lcell_of (HBC.out.block Y HY7.out |>.trans HBY.out.cell) 0 rfl
    have y1 := lcell_of (HBC.out.block Y HY7.out |>.trans HBY.out.cell) 1 rfl
    have y2 := lcell_of (HBC.out.block Y HY7.out |>.trans HBY.out.cell) 2 rfl
    go_wp2_with fail
    clear y0 y1 y2
    refine (right_any (HBY.out.led.below (by rw [HZZ.out]; exact HBC.out)) (by have := HFA.out.many; omega) (fun d hd => (HFA.out.each d hd).small)).mono ?_
    rintro e w14 ⟨rfl, hb14⟩
    rw [Ldg.abs_right HAO.out]
    obtain ⟨F2, a9, n9, c9, L9, hc9, hl9, hr9, hm9, hs9⟩ := HBAD.out.out
    have hc14 := (hb14.block Z (Array.getElem?_eq_some_iff.1 hc9).1).trans hc9
    have z0 := lcell_of hc14 0 rfl
    have z1 := lcell_of hc14 1 rfl
    have z2 := lcell_of hc14 2 rfl
    have HB14 := hide (HBC.out.trans (hb14.mono (by rw [← HZZ.out]; exact HBC.out.size)))
    have HL14 := hide (hl9.below hb14)
    have HS9 := hide hs9
    clear hb14 hc9 hl9 hc14 hs9
    go_wp2_with fail
    clear z0 z1 z2
    refine (right_any HL14.out hm9 HS9.out).mono ?_
    rintro e w15 ⟨rfl, hb15⟩
    rw [hr9]
    have HB15 := hide (HB14.out.trans (hb15.mono (by rw [← HZZ.out]; exact HB14.out.size)))
    clear hb15
    go_wp2
    go_ret
    exact ⟨rfl, HB.out.trans (HB15.out.mono HZW.out)⟩
  · obtain ⟨hkq, hqq⟩ := HQ.out
    have hbn := bnew w11 (.cells #[.int .u64 (N1 : Int)] 23)
    have hdu := HDU.out.then hbn rfl
    have h3 := hdu.cells hkq 3 sv (by rw [hqq]; rfl)
    have hf := hdu.frozen
    go_upto_region 27 with fail
    clear y1 z0 z1 z2 zf g0 g1 g2 g3 g4 g5 g6 gf h3 hf
    have hgl : G < w11.heap.size := (lown_lt HDU.out.own.row rfl).1
    have hla := hdu.above hkq (b := w11.heap.size) (x := N1) (alloc_new _ _) (by omega) ⟨nm, s, lo, [N1], ak, ev, rj⟩ (by rw [hqq])
    have hcz := (Below.heap_setCell (w11.alloc (.cells #[.int .u64 (N1 : Int)] 23)) ⟨G, k * 7 + 3, none⟩ (.slice (some ⟨w11.heap.size, 0, none⟩) 1 1) Z (by show Z ≠ G; omega)).trans hdu.cell
    have hbs := (HB11.out.trans (hbn.mono (by have h1 := HB11.out.size; have h2 := HZZ.out; omega))).setCell (p := ⟨G, k * 7 + 3, none⟩) (by show Z ≤ G; omega) (.slice (some ⟨w11.heap.size, 0, none⟩) 1 1)
    obtain ⟨wc, hwc⟩ : ∃ W, (w11.alloc (.cells #[.int .u64 (N1 : Int)] 23)).setCell ⟨G, k * 7 + 3, none⟩ (.slice (some ⟨w11.heap.size, 0, none⟩) 1 1) = W := ⟨_, rfl⟩
    rw [hwc] at hla hcz hbs
    have HBC := hide hbs
    have HBAD := hide (show BadI wc Z N1 from ⟨F, _, mm, CG, _, hcz, hla, Ldg.set_bad (by rw [List.length_map]; exact hkq) (Ldg.bad_above (d := ⟨nm, s, lo, ab, ak, ev, rj⟩)), by simp only [List.length_set, List.length_map]; omega, set_small HSM.out { HSK.out with len := by show 1 ≤ 1000000000; omega, nums := fun x hx => by have h1 := List.mem_singleton.1 hx; have h2 := HN1.out; omega }⟩)
    try rw [hwc]
    clear hla hcz hbs hbn hdu hwc
    have y0 := lcell_of (HBC.out.block Y HY7.out |>.trans HBY.out.cell) 0 rfl
    have y1 := lcell_of (HBC.out.block Y HY7.out |>.trans HBY.out.cell) 1 rfl
    have y2 := lcell_of (HBC.out.block Y HY7.out |>.trans HBY.out.cell) 2 rfl
    go_wp2_with fail
    clear y0 y1 y2
    refine (right_any (HBY.out.led.below (by rw [HZZ.out]; exact HBC.out)) (by have := HFA.out.many; omega) (fun d hd => (HFA.out.each d hd).small)).mono ?_
    rintro e w14 ⟨rfl, hb14⟩
    rw [Ldg.abs_right HAO.out]
    obtain ⟨F2, a9, n9, c9, L9, hc9, hl9, hr9, hm9, hs9⟩ := HBAD.out.out
    have hc14 := (hb14.block Z (Array.getElem?_eq_some_iff.1 hc9).1).trans hc9
    have z0 := lcell_of hc14 0 rfl
    have z1 := lcell_of hc14 1 rfl
    have z2 := lcell_of hc14 2 rfl
    have HB14 := hide (HBC.out.trans (hb14.mono (by rw [← HZZ.out]; exact HBC.out.size)))
    have HL14 := hide (hl9.below hb14)
    have HS9 := hide hs9
    clear hb14 hc9 hl9 hc14 hs9
    go_wp2_with fail
    clear z0 z1 z2
    refine (right_any HL14.out hm9 HS9.out).mono ?_
    rintro e w15 ⟨rfl, hb15⟩
    rw [hr9]
    have HB15 := hide (HB14.out.trans (hb15.mono (by rw [← HZZ.out]; exact HB14.out.size)))
    clear hb15
    go_wp2
    go_ret
    exact ⟨rfl, HB.out.trans (HB15.out.mono HZW.out)⟩
  · go_upto_region 27 with fail
    clear y1 z0 z1 z2 zf g0 g1 g2 g3 g4 g5 g6 gf 
    have hd := HDU.out.first (F' := 0) (v := .int .u64 0) (by rfl)
    obtain ⟨wc, hwc⟩ : ∃ W, w11.setCell ⟨Z, 0, none⟩ (.int .u64 0) = W := ⟨_, rfl⟩
    have HBC := hide (show Below Z w7 wc by rw [← hwc]; exact HB11.out.setCell (p := ⟨Z, 0, none⟩) (by show Z ≤ Z; omega) _)
    rw [hwc] at hd
    have HBAD := hide (hd.bad (Ldg.bad_zero) hl1000 HSM.out)
    try rw [hwc]
    clear hd hwc
    have y0 := lcell_of (HBC.out.block Y HY7.out |>.trans HBY.out.cell) 0 rfl
    have y1 := lcell_of (HBC.out.block Y HY7.out |>.trans HBY.out.cell) 1 rfl
    have y2 := lcell_of (HBC.out.block Y HY7.out |>.trans HBY.out.cell) 2 rfl
    go_wp2_with fail
    clear y0 y1 y2
    refine (right_any (HBY.out.led.below (by rw [HZZ.out]; exact HBC.out)) (by have := HFA.out.many; omega) (fun d hd => (HFA.out.each d hd).small)).mono ?_
    rintro e w14 ⟨rfl, hb14⟩
    rw [Ldg.abs_right HAO.out]
    obtain ⟨F2, a9, n9, c9, L9, hc9, hl9, hr9, hm9, hs9⟩ := HBAD.out.out
    have hc14 := (hb14.block Z (Array.getElem?_eq_some_iff.1 hc9).1).trans hc9
    have z0 := lcell_of hc14 0 rfl
    have z1 := lcell_of hc14 1 rfl
    have z2 := lcell_of hc14 2 rfl
    have HB14 := hide (HBC.out.trans (hb14.mono (by rw [← HZZ.out]; exact HBC.out.size)))
    have HL14 := hide (hl9.below hb14)
    have HS9 := hide hs9
    clear hb14 hc9 hl9 hc14 hs9
    go_wp2_with fail
    clear z0 z1 z2
    refine (right_any HL14.out hm9 HS9.out).mono ?_
    rintro e w15 ⟨rfl, hb15⟩
    rw [hr9]
    have HB15 := hide (HB14.out.trans (hb15.mono (by rw [← HZZ.out]; exact HB14.out.size)))
    clear hb15
    go_wp2
    go_ret
    exact ⟨rfl, HB.out.trans (HB15.out.mono HZW.out)⟩
  · obtain ⟨N2, hN2⟩ : ∃ x, N1 + 1 = x := ⟨_, rfl⟩
    have q1 : ((N1 : Nat) : Int) + 1 = (N2 : Int) := by omega
    have q2 : IntKind.u64.wrap ((N2 : Nat) : Int) = (N2 : Int) := by rw [IntKind.wrap_u64]; have h := HN1.out; omega
    go_upto_region 27 with fail
    clear y1 z0 z1 z2 zf g0 g1 g2 g3 g4 g5 g6 gf q1 q2
    have hd := HDU.out.first (F' := N2) (v := .int .u64 (N2 : Int)) (by rfl)
    obtain ⟨wc, hwc⟩ : ∃ W, w11.setCell ⟨Z, 0, none⟩ (.int .u64 (N2 : Int)) = W := ⟨_, rfl⟩
    have HBC := hide (show Below Z w7 wc by rw [← hwc]; exact HB11.out.setCell (p := ⟨Z, 0, none⟩) (by show Z ≤ Z; omega) _)
    rw [hwc] at hd
    have HBAD := hide (hd.bad (by rw [← hN2]; exact Ldg.bad_first) hl1000 HSM.out)
    try rw [hwc]
    clear hd hwc
    have y0 := lcell_of (HBC.out.block Y HY7.out |>.trans HBY.out.cell) 0 rfl
    have y1 := lcell_of (HBC.out.block Y HY7.out |>.trans HBY.out.cell) 1 rfl
    have y2 := lcell_of (HBC.out.block Y HY7.out |>.trans HBY.out.cell) 2 rfl
    go_wp2_with fail
    clear y0 y1 y2
    refine (right_any (HBY.out.led.below (by rw [HZZ.out]; exact HBC.out)) (by have := HFA.out.many; omega) (fun d hd => (HFA.out.each d hd).small)).mono ?_
    rintro e w14 ⟨rfl, hb14⟩
    rw [Ldg.abs_right HAO.out]
    obtain ⟨F2, a9, n9, c9, L9, hc9, hl9, hr9, hm9, hs9⟩ := HBAD.out.out
    have hc14 := (hb14.block Z (Array.getElem?_eq_some_iff.1 hc9).1).trans hc9
    have z0 := lcell_of hc14 0 rfl
    have z1 := lcell_of hc14 1 rfl
    have z2 := lcell_of hc14 2 rfl
    have HB14 := hide (HBC.out.trans (hb14.mono (by rw [← HZZ.out]; exact HBC.out.size)))
    have HL14 := hide (hl9.below hb14)
    have HS9 := hide hs9
    clear hb14 hc9 hl9 hc14 hs9
    go_wp2_with fail
    clear z0 z1 z2
    refine (right_any HL14.out hm9 HS9.out).mono ?_
    rintro e w15 ⟨rfl, hb15⟩
    rw [hr9]
    have HB15 := hide (HB14.out.trans (hb15.mono (by rw [← HZZ.out]; exact HB14.out.size)))
    clear hb15
    go_wp2
    go_ret
    exact ⟨rfl, HB.out.trans (HB15.out.mono HZW.out)⟩
  · go_wp2_with fail
    have hzl : Z < w11.heap.size := (Array.getElem?_eq_some_iff.1 HDU.out.cell).1
    have hgl : G < w11.heap.size := (lown_lt HDU.out.own.row rfl).1
    refine wp_region_growT (fun b => b < w11.heap.size) [([0, 1, 2, 3, 4, 5, 6], 7)] [8, 9, 10] [([], 8)] [9] [10] (by kernel_rfl) (by kernel_rfl) (by kernel_rfl) (by kernel_rfl) (by kernel_rfl) ?_
    intro wq hbq
    simp only [stagesOfK, getLK, pickLK]
    have inh : Nonempty (GrK (fun b => b < w11.heap.size) wq) := GrK.some _ wq
    have z2 := fun z : GrK (fun b => b < w11.heap.size) wq => z.cell (a := ⟨Z, 2, none⟩) hzl ((hbq.cell (p := ⟨Z, 2, none⟩) hzl).trans z2)
    have g0 := fun z : GrK (fun b => b < w11.heap.size) wq => z.cell (a := ⟨G, k * 7, none⟩) hgl ((hbq.cell (p := ⟨G, k * 7, none⟩) hgl).trans g0)
    have g1 := fun z : GrK (fun b => b < w11.heap.size) wq => z.cell (a := ⟨G, k * 7 + 1, none⟩) hgl ((hbq.cell (p := ⟨G, k * 7 + 1, none⟩) hgl).trans g1)
    have g2 := fun z : GrK (fun b => b < w11.heap.size) wq => z.cell (a := ⟨G, k * 7 + 2, none⟩) hgl ((hbq.cell (p := ⟨G, k * 7 + 2, none⟩) hgl).trans g2)
    have g3 := fun z : GrK (fun b => b < w11.heap.size) wq => z.cell (a := ⟨G, k * 7 + 3, none⟩) hgl ((hbq.cell (p := ⟨G, k * 7 + 3, none⟩) hgl).trans g3)
    have g4 := fun z : GrK (fun b => b < w11.heap.size) wq => z.cell (a := ⟨G, k * 7 + 4, none⟩) hgl ((hbq.cell (p := ⟨G, k * 7 + 4, none⟩) hgl).trans g4)
    have g5 := fun z : GrK (fun b => b < w11.heap.size) wq => z.cell (a := ⟨G, k * 7 + 5, none⟩) hgl ((hbq.cell (p := ⟨G, k * 7 + 5, none⟩) hgl).trans g5)
    have g6 := fun z : GrK (fun b => b < w11.heap.size) wq => z.cell (a := ⟨G, k * 7 + 6, none⟩) hgl ((hbq.cell (p := ⟨G, k * 7 + 6, none⟩) hgl).trans g6)
    refine wpT_stage ?_
    repeat (go_big_quiet_step (fail))
    refine wpQuiet_nil ?_
    clear z2 g0 g1 g2 g3 g4 g5 g6 inh
    have hdq := HDU.out.then hbq rfl
    obtain ⟨hkq, hqq⟩ := HQ.out
    have hsq : SlIn (fun b => b < Z) wq sv ab := HSL.out.keep hbq.size (fun b hb _ => hbq.block b hb)
    go_wp2_with fail
    have hka : Kept (fun b => b < w11.heap.size) wq (wq.alloc (.cells #[.string nm, .int .u64 (s : Int), .int .u64 (lo : Int), sv, .int .u64 (ak : Int), .int .u64 (ev : Int), .int .u64 (rj : Int)] 41)) := Kept.of_below (bnew wq (.cells #[.string nm, .int .u64 (s : Int), .int .u64 (lo : Int), sv, .int .u64 (ak : Int), .int .u64 (ev : Int), .int .u64 (rj : Int)] 41)) (fun b hb => Nat.lt_of_lt_of_le hb hbq.size)
    refine OnToT.mk hka (Sub.refl _) ?_
    clear hka
    have hbn := bnew wq (.cells #[.string nm, .int .u64 (s : Int), .int .u64 (lo : Int), sv, .int .u64 (ak : Int), .int .u64 (ev : Int), .int .u64 (rj : Int)] 41)
    have hda := hdq.then hbn rfl
    have hal := alloc_new wq (.cells #[.string nm, .int .u64 (s : Int), .int .u64 (lo : Int), sv, .int .u64 (ak : Int), .int .u64 (ev : Int), .int .u64 (rj : Int)] 41)
    have hsa : (wq.alloc (.cells #[.string nm, .int .u64 (s : Int), .int .u64 (lo : Int), sv, .int .u64 (ak : Int), .int .u64 (ev : Int), .int .u64 (rj : Int)] 41)).heap.size = wq.heap.size + 1 := by simp
    have hBC := HB11.out.trans ((hbq.trans (hbn.mono hbq.size)).mono (show Z ≤ w11.heap.size by omega))
    obtain ⟨wa, hwa⟩ : ∃ W, wq.alloc (.cells #[.string nm, .int .u64 (s : Int), .int .u64 (lo : Int), sv, .int .u64 (ak : Int), .int .u64 (ev : Int), .int .u64 (rj : Int)] 41) = W := ⟨_, rfl⟩
    obtain ⟨b1, hb1⟩ : ∃ b, wq.heap.size = b := ⟨_, rfl⟩
    have hb1z : G < b1 := by rw [← hb1]; exact Nat.lt_of_lt_of_le hgl hbq.size
    rw [hwa] at hda hal hsa hBC ⊢
    rw [hb1] at hal hsa ⊢
    have hsaq : SlIn (fun b => b < Z) wa sv ab := by rw [← hwa]; exact hsq.keep hbn.size (fun b hb _ => hbn.block b hb)
    have hln := hda.len
    obtain ⟨v13, w13, hr13, hown, hg13, hob⟩ := hda.own.app (by have h := hda.zg; omega) ((⟨nm, s, lo, ab, ak, ev, rj⟩, sv)) hsaq hal (by omega) 25 (fun g hg => by have h := Option.some.inj (show some G = some g from hg); omega)
    obtain ⟨G2, C2, hv13, hZG⟩ := hown.at (by simp)
    have hzg2 : Z < G2 := by
      rw [hv13] at hob
      rcases hob with e | e
      · have h := Option.some.inj (show some G2 = some G from e)
        omega
      · have h := Option.some.inj (show some G2 = some wa.heap.size from e)
        omega
    rw [hv13] at hown hr13
    have hl13 : mm + 1 = (ps ++ [((⟨nm, s, lo, ab, ak, ev, rj⟩, sv) : DV)]).length := by rw [List.length_append, ← hln]; rfl
    rw [← hl13] at hr13 hown
    have hcz := (hg13.block Z (by omega) (fun e => by have h := Option.some.inj (show some Z = some G from e); omega)).trans hda.cell
    have hBC := hBC.trans (below_grown (n := Z) hg13 (fun g hg => by have h := Option.some.inj (show some G = some g from hg); omega) (by omega))
    have hdup := DupI.made hcz hown hzg2 hl13
    have hBC := hBC.setCell (p := ⟨Z, 2, none⟩) (by show Z ≤ Z; omega) (.slice (some ⟨G2, 0, none⟩) (mm + 1) C2)
    have z2 := lcell_of hcz 2 rfl
    have zf := lfrozen_of hcz
    have hk13 : Kept (fun b => b < G) wa w13 := ⟨hg13.os, hg13.tape, hg13.output, hg13.size, fun i hi => hg13.block i (by omega) (fun e => by have h := Option.some.inj (show some i = some G from e); omega)⟩
    obtain ⟨wc, hwc⟩ : ∃ W, w13.setCell ⟨Z, 2, none⟩ (.slice (some ⟨G2, 0, none⟩) (mm + 1) C2) = W := ⟨_, rfl⟩
    rw [hwc] at hdup hBC
    have HBC := hide hBC
    have hmq : (⟨nm, s, lo, ab, ak, ev, rj⟩ : De) ∈ ps.map Prod.fst := by
      have h := List.mem_map_of_mem (f := Prod.fst) (List.getElem_mem hkq)
      rw [hqq] at h
      exact h
    have HBAD := hide (hdup.bad (by rw [List.map_append]; exact Ldg.bad_twice hmq) (by omega) (fun d hd => by
      rw [List.map_append] at hd
      rcases List.mem_append.1 hd with h | h
      · exact HSM.out d h
      · have h2 := List.mem_singleton.1 h
        rw [h2]
        exact HSK.out))
    clear hl13 hln
    refine wpT_end (fun b => b < G) ?_
    refine wpG_stageK (wpQuiet_nil ?_)
    refine Ldg.wpList_app_run rfl _ _ _ _ rfl rfl rfl hr13 ?_
    go_wp2
    refine OnToK.mk hk13 (Sub.refl _) ?_
    have inh : Nonempty (GrK (fun b => b < G) w13) := GrK.some _ w13
    refine wpG_lastK ?_
    repeat (go_big_quiet_step (fail))
    refine wpQuiet_nil ?_
    clear inh hk13 hr13 hown hcz hdup hBC hg13 hob hda hal hsa hsaq hbn hdq hsq hbq hwa hb1 hv13
    go_upto_region 27 with fail
    clear y1 z0 z1 zf gf z2
    try rw [hwc]
    clear hwc
    have y0 := lcell_of (HBC.out.block Y HY7.out |>.trans HBY.out.cell) 0 rfl
    have y1 := lcell_of (HBC.out.block Y HY7.out |>.trans HBY.out.cell) 1 rfl
    have y2 := lcell_of (HBC.out.block Y HY7.out |>.trans HBY.out.cell) 2 rfl
    go_wp2_with fail
    clear y0 y1 y2
    refine (right_any (HBY.out.led.below (by rw [HZZ.out]; exact HBC.out)) (by have := HFA.out.many; omega) (fun d hd => (HFA.out.each d hd).small)).mono ?_
    rintro e w14 ⟨rfl, hb14⟩
    rw [Ldg.abs_right HAO.out]
    obtain ⟨F2, a9, n9, c9, L9, hc9, hl9, hr9, hm9, hs9⟩ := HBAD.out.out
    have hc14 := (hb14.block Z (Array.getElem?_eq_some_iff.1 hc9).1).trans hc9
    have z0 := lcell_of hc14 0 rfl
    have z1 := lcell_of hc14 1 rfl
    have z2 := lcell_of hc14 2 rfl
    have HB14 := hide (HBC.out.trans (hb14.mono (by rw [← HZZ.out]; exact HBC.out.size)))
    have HL14 := hide (hl9.below hb14)
    have HS9 := hide hs9
    clear hb14 hc9 hl9 hc14 hs9
    go_wp2_with fail
    clear z0 z1 z2
    refine (right_any HL14.out hm9 HS9.out).mono ?_
    rintro e w15 ⟨rfl, hb15⟩
    rw [hr9]
    have HB15 := hide (HB14.out.trans (hb15.mono (by rw [← HZZ.out]; exact HB14.out.size)))
    clear hb15
    go_wp2
    go_ret
    exact ⟨rfl, HB.out.trans (HB15.out.mono HZW.out)⟩
  · go_upto_region 27 with fail
    clear y1 z0 z1 z2 zf g0 g1 g2 g3 g4 g5 g6 gf 
    obtain ⟨hkq, hqq⟩ := HQ.out
    have hd := HDU.out.one hkq (i := 1) (by omega) (.int .u64 0) ((⟨nm, 0, lo, ab, ak, ev, rj⟩), sv) (by rw [hqq]; rfl) HSL.out
    obtain ⟨wc, hwc⟩ : ∃ W, w11.setCell ⟨G, k * 7 + 1, none⟩ (.int .u64 0) = W := ⟨_, rfl⟩
    have HBC := hide (show Below Z w7 wc by rw [← hwc]; exact HB11.out.setCell (p := ⟨G, k * 7 + 1, none⟩) (by show Z ≤ G; omega) _)
    rw [hwc] at hd
    have HBAD := hide (hd.badAt hkq (Ldg.bad_since (d := ⟨nm, s, lo, ab, ak, ev, rj⟩)) hl1000 HSM.out ({ HSK.out with since := by show 0 ≤ 1000000000; omega }))
    try rw [hwc]
    clear hd hwc
    have y0 := lcell_of (HBC.out.block Y HY7.out |>.trans HBY.out.cell) 0 rfl
    have y1 := lcell_of (HBC.out.block Y HY7.out |>.trans HBY.out.cell) 1 rfl
    have y2 := lcell_of (HBC.out.block Y HY7.out |>.trans HBY.out.cell) 2 rfl
    go_wp2_with fail
    clear y0 y1 y2
    refine (right_any (HBY.out.led.below (by rw [HZZ.out]; exact HBC.out)) (by have := HFA.out.many; omega) (fun d hd => (HFA.out.each d hd).small)).mono ?_
    rintro e w14 ⟨rfl, hb14⟩
    rw [Ldg.abs_right HAO.out]
    obtain ⟨F2, a9, n9, c9, L9, hc9, hl9, hr9, hm9, hs9⟩ := HBAD.out.out
    have hc14 := (hb14.block Z (Array.getElem?_eq_some_iff.1 hc9).1).trans hc9
    have z0 := lcell_of hc14 0 rfl
    have z1 := lcell_of hc14 1 rfl
    have z2 := lcell_of hc14 2 rfl
    have HB14 := hide (HBC.out.trans (hb14.mono (by rw [← HZZ.out]; exact HBC.out.size)))
    have HL14 := hide (hl9.below hb14)
    have HS9 := hide hs9
    clear hb14 hc9 hl9 hc14 hs9
    go_wp2_with fail
    clear z0 z1 z2
    refine (right_any HL14.out hm9 HS9.out).mono ?_
    rintro e w15 ⟨rfl, hb15⟩
    rw [hr9]
    have HB15 := hide (HB14.out.trans (hb15.mono (by rw [← HZZ.out]; exact HB14.out.size)))
    clear hb15
    go_wp2
    go_ret
    exact ⟨rfl, HB.out.trans (HB15.out.mono HZW.out)⟩
end Go.Proofs.Ytjbdofjheeljkaa
