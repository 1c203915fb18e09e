/-
  The walk of LedgerCounts.
-/
import Derived.Test.YtjbdofjheeljkaaLedgerCountsAW
import Derived.Test.YtjbdofjheeljkaaLdgPlayW
import Derived.Test.YtjbdofjheeljkaaLdgRun5W
import Derived.Test.YtjbdofjheeljkaaLdgReadW
import Derived.Test.YtjbdofjheeljkaaLdgRead3W
import Derived.Test.YtjbdofjheeljkaaLdgFromW
import Derived.Test.YtjbdofjheeljkaaGrowQ
import Derived.Test.YtjbdofjheeljkaaLdgCntW
import Derived.Deep.DeepCutAuto
namespace Go.Proofs.Ytjbdofjheeljkaa
open Go.RowKit
open Ldg (De Le Rd Rl actL runL aN)

set_option linter.unusedVariables false in
set_option maxRecDepth 100000 in
set_option maxHeartbeats 6400000 in
theorem walkLedgerCounts (a0 : Option Addr) (cap0 : Nat) (l : List La) (qq : La) (w : World) (ha : LasAt w a0 l) (hl : l.length ≤ 9223372036854775807) (hcap : l.length ≤ cap0) (hok : ∀ p ∈ l, LaOk p) (hno : a0 = none → cap0 = 0) (okq : LaOk qq) :
    Calls Try.prog 4 #[.slice a0 l.length cap0, .agg #[.int .i64 qq.op, .int .i64 qq.nm, .int .i64 qq.sq, .int .i64 qq.kd]] w fun e w' => e = .returned (.bool true) ∧ Below w.heap.size w w' := by
  have HA := hide ha
  have HOK := hide hok
  clear ha hok
  by_cases hlen : l.length ≤ 100
  case neg =>
    go_enter Try.func4, Try.ntmps4
    go_wp2_with fail
    refine (lshown_any _).mono ?_
    rintro e w1 ⟨rfl, hb1⟩
    go_wp2
    go_ret
    exact ⟨rfl, bl (bnew w (.cells #[.int .i64 qq.op, .int .i64 qq.nm, .int .i64 qq.sq, .int .i64 qq.kd] 36)) hb1⟩
  obtain ⟨hRok, hRn⟩ := Ldg.run_ok (l := l) (by omega)
  obtain ⟨R, hR⟩ : ∃ R, runL l = R := ⟨_, rfl⟩
  rw [hR] at hRok hRn
  have HR := hide hR
  have HRO := hide hRok
  have HRN := hide hRn
  have HFIT := hide (Ldg.abs_fit hRok)
  clear hR hRok hRn
  go_enter Try.func4, Try.ntmps4
  go_wp2_with fail
  refine (lshown_any _).mono ?_
  rintro e w1 ⟨rfl, hb1⟩
  have HB := hide (bl (bnew w (.cells #[.int .i64 qq.op, .int .i64 qq.nm, .int .i64 qq.sq, .int .i64 qq.kd] 36)) hb1)
  have HMB := hide ((hb1.block w.heap.size (by simp)).trans (alloc_new w (.cells #[.int .i64 qq.op, .int .i64 qq.nm, .int .i64 qq.sq, .int .i64 qq.kd] 36)))
  clear hb1
  go_wp2_with fail
  refine (run_any cap0 (HA.out.below HB.out) HOK.out (by omega)).mono ?_
  rintro e w2 ⟨ar, mr, cr, rfl, hled, hb2⟩
  have HMB := hide ((hb2.block w.heap.size (Array.getElem?_eq_some_iff.1 HMB.out).1).trans HMB.out)
  rw [HR.out] at hled ⊢
  have HBW := hide (bl HB.out hb2)
  have HB := HBW
  have hbx := LBox.new hled
  obtain ⟨F, hF⟩ : ∃ x, R.first = x := ⟨_, rfl⟩
  obtain ⟨N, hN⟩ : ∃ x, R.next = x := ⟨_, rfl⟩
  have HF := hide hF
  have HNX := hide hN
  obtain ⟨X, hX⟩ : ∃ x, w2.heap.size = x := ⟨_, rfl⟩
  rw [hF, hN] at hbx ⊢
  rw [hX] at hbx
  have HBX := hide hbx
  have HX := hide hX
  clear hled hb2 hbx hF hN
  have hbn := bnew w2 (.cells #[.int .u64 (F : Int), .int .u64 (N : Int), .slice ar mr cr] 27)
  obtain ⟨w3, hw3⟩ : ∃ W, w2.alloc (.cells #[.int .u64 (F : Int), .int .u64 (N : Int), .slice ar mr cr] 27) = W := ⟨_, rfl⟩
  have hbx := HBX.out
  rw [hw3] at hbx hbn
  have HBX := hide hbx
  have HB := hide (HB.out.trans (hbn.mono HB.out.size))
  have HMB := hide ((hbn.block w.heap.size (Array.getElem?_eq_some_iff.1 HMB.out).1).trans HMB.out)
  clear hbx hbn
  go_upto_region 5 with fail
  try rw [hw3]
  try rw [hX]
  clear hw3 hX
  have hmr := HBX.out.m4 HRO.out
  obtain ⟨hmr1, hmr2⟩ := hmr
  have HMR := hide hmr1
  clear hmr1
  have hml := Ldg.runL_more l qq
  rw [HR.out] at hml
  obtain ⟨hMok, hMn⟩ := Ldg.run_ok (l := l ++ [qq]) (by rw [List.length_append]; simp only [List.length_singleton]; omega)
  obtain ⟨M, hM⟩ : ∃ M, runL (l ++ [qq]) = M := ⟨_, rfl⟩
  rw [hM] at hml hMok hMn
  obtain ⟨F2, hF2⟩ : ∃ x, M.first = x := ⟨_, rfl⟩
  obtain ⟨N2, hN2⟩ : ∃ x, M.next = x := ⟨_, rfl⟩
  have HM := hide hM
  have HML := hide hml
  have HMO := hide hMok
  have HMN := hide hMn
  have HF2 := hide hF2
  have HN2 := hide hN2
  have HFM := hide (Ldg.abs_fit hMok)
  have HOKQ := hide okq
  clear hM hml hMok hMn hF2 hN2 okq
  go_cut [7] (fun v7 wc => ∃ (Y : Nat) (a : Option Addr) (m c : Nat), v7 = .pointer (some ⟨Y, 0, none⟩) ∧ Hid (LBox wc Y M.abs F2 N2 a m c) ∧ Hid (Below w3.heap.size w3 wc))
  case first =>
    refine counts5 HA HOK HOKQ hno hlen HM HMO HF2 HN2 HB HMB ?_
    refine hide ?_
    intro Y aY mY cY w' v27 v28 v29 v30 v31 v32 v33 HFL HBE
    go_wp2
    go_meet
    case rel => exact ⟨Y, aY, mY, cY, rfl, HFL, HBE⟩
  case rest =>
  obtain ⟨Y, aY, mY, cY, rfl, HBY, HBC⟩ := hcut
  obtain ⟨w6, hwn⟩ : ∃ W, wc = W := ⟨_, rfl⟩
  rw [hwn] at HBY HBC ⊢
  clear hwn
  have HBX := hide (HBX.out.then HBC.out)
  have HB := hide (HB.out.trans (HBC.out.mono HB.out.size))
  have hgr := act_grows HML.out
  rw [HF.out, HNX.out, HF2.out, HN2.out] at hgr
  have HGR := hide hgr
  have hn7 : N ≤ 10000000 := by have h2 := HNX.out; have h3 := HRO.out.nb; omega
  clear hgr HBC HMB
  go_wp2
  go_loopw [8] (fun v8 wr => ∃ j : Nat, v8 = .int .i64 (j : Int) ∧ j ≤ mr ∧ Hid (LBox wr X R.abs F N ar mr cr) ∧ Hid (LBox wr Y M.abs F2 N2 aY mY cY) ∧ Hid (Below w.heap.size w wr)) (fun v8 _ => mr - (intOf v8).toNat)
  case atStart => exact ⟨0, rfl, Nat.zero_le _, HBX, HBY, HB⟩
  case round =>
    clear HBX HBY HB
    obtain ⟨j, rfl, hj, HBX, HBY, HB⟩ := hrel
    by_cases hlt : j < mr
    case neg =>
      have e : ((j : Nat) : Int) = (mr : Int) := by omega
      have hg1 := HGR.out.1
      have hg2 := HGR.out.2
      have c1 : decide (F ≤ F2) = true := decide_eq_true hg1
      have c2 : decide (N ≤ N2) = true := decide_eq_true hg2
      have x0 := lcell_of HBX.out.cell 0 rfl
      have x1 := lcell_of HBX.out.cell 1 rfl
      have x2 := lcell_of HBX.out.cell 2 rfl
      have y0 := lcell_of HBY.out.cell 0 rfl
      have y1 := lcell_of HBY.out.cell 1 rfl
      have y2 := lcell_of HBY.out.cell 2 rfl
      go_wp2
      go_ret
      exact ⟨rfl, HB.out⟩
    obtain ⟨b1, off1, sv1, nm, ds, lo, ak, ev, rj, hk1, rfl, hbl1, hrc, hrl, hsl⟩ := HBX.out.rc hlt
    obtain ⟨sa, scp, rfl, _, _, _⟩ := hsl
    obtain ⟨sn, hsn⟩ : ∃ x, R.dests[j].above.length = x := ⟨_, rfl⟩
    rw [hsn] at hrc
    clear hsn
    have hmem := List.getElem_mem hk1
    obtain ⟨dd, hdd⟩ : ∃ d, R.dests[j] = d := ⟨_, rfl⟩
    rw [hdd] at hmem hrl
    clear hdd
    have hle := hrl.le HRO.out hmem
    obtain ⟨pa, hpa⟩ : ∃ x, R.pend nm = x := ⟨_, rfl⟩
    have hcnt := cnt_of HRO.out hmem (show R.pend dd.name = pa by rw [← hrl.nm]; exact hpa)
    have hpl := Ldg.pend_len HRO.out nm
    rw [hpa] at hpl
    have HPA := hide hpa
    have HCNT := hide hcnt
    have HRL := hide hrl
    have HMEM := hide hmem
    have HLE := hide hle
    have HPL := hide hpl
    have g0 := hrc.c0
    have g1 := hrc.c1
    have g2 := hrc.c2
    have g3 := hrc.c3
    have g4 := hrc.c4
    have g5 := hrc.c5
    have g6 := hrc.c6
    have x2 := lcell_of HBX.out.cell 2 rfl
    clear hrc hrl hcnt hpl hle hmem hpa
    have hbn := bnew wr (.cells #[.string nm, .int .u64 (ds : Int), .int .u64 (lo : Int), .slice sa sn scp, .int .u64 (ak : Int), .int .u64 (ev : Int), .int .u64 (rj : Int)] 41)
    have hza := alloc_new wr (.cells #[.string nm, .int .u64 (ds : Int), .int .u64 (lo : Int), .slice sa sn scp, .int .u64 (ak : Int), .int .u64 (ev : Int), .int .u64 (rj : Int)] 41)
    obtain ⟨w7, hw7⟩ : ∃ W, wr.alloc (.cells #[.string nm, .int .u64 (ds : Int), .int .u64 (lo : Int), .slice sa sn scp, .int .u64 (ak : Int), .int .u64 (ev : Int), .int .u64 (rj : Int)] 41) = W := ⟨_, rfl⟩
    obtain ⟨D, hD⟩ : ∃ y, wr.heap.size = y := ⟨_, rfl⟩
    rw [hD, hw7] at hza
    rw [hw7] at hbn
    have HD := hide hza
    have HBX := hide (HBX.out.then hbn)
    have HBY := hide (HBY.out.then hbn)
    have HB := hide (HB.out.trans (hbn.mono HB.out.size))
    clear hza hbn
    go_upto_region 10 with fail
    try rw [hw7]
    try rw [hD]
    clear hw7 hD g0 g1 g2 g3 g4 g5 g6 x2 hbl1
    have x0 := lcell_of HBX.out.cell 0 rfl
    have x1 := lcell_of HBX.out.cell 1 rfl
    have x2 := lcell_of HBX.out.cell 2 rfl
    have d0 := lcell_of HD.out 0 rfl
    go_wp2_with fail
    clear x0 x1 x2 d0
    refine (pending_any HBX.out.led HFIT.out (Ldg.abs_right HRO.out) nm).mono ?_
    rintro e w8 ⟨pv, rfl, ho, hbz⟩
    rw [Ldg.abs_pend HRO.out, HPA.out] at ho
    obtain ⟨ava, cva, rfl, hcap, _, hu⟩ := ho.sl
    obtain ⟨la, hla⟩ : ∃ x, pa.length = x := ⟨_, rfl⟩
    rw [hla] at hcap ⊢
    have HAV := hide hu.up
    have HLA := hide hla
    have HBX := hide (HBX.out.then hbz)
    have HBY := hide (HBY.out.then hbz)
    have HD := hide (at_then HD.out hbz)
    have HB := hide (HB.out.trans (hbz.mono HB.out.size))
    clear ho hu hla hbz hcap
    have d1 := lcell_of HD.out 1 rfl
    have d4 := lcell_of HD.out 4 rfl
    have d5 := lcell_of HD.out 5 rfl
    have d6 := lcell_of HD.out 6 rfl
    have x1 := lcell_of HBX.out.cell 1 rfl
    have hla7 : la ≤ 10000000 := by rw [← HLA.out]; exact HPL.out
    obtain ⟨s1, hs1⟩ : ∃ x, ak + ev = x := ⟨_, rfl⟩
    obtain ⟨s2, hs2⟩ : ∃ x, s1 + rj = x := ⟨_, rfl⟩
    obtain ⟨s3, hs3⟩ : ∃ x, s2 + la = x := ⟨_, rfl⟩
    have hwh : s3 = N - ds ∧ ds ≤ N := by
      have h1 := HCNT.out.all
      have h2 := HCNT.out.le
      have h3 := HLA.out
      have h4 := HNX.out
      rw [← HRL.out.ak, ← HRL.out.ev, ← HRL.out.rj, ← HRL.out.s] at h1
      rw [← HRL.out.s] at h2
      omega
    have q1 : ((ak : Nat) : Int) + (ev : Int) = (s1 : Int) := by omega
    have q2 : ((s1 : Nat) : Int) + (rj : Int) = (s2 : Int) := by omega
    have q3 : ((s2 : Nat) : Int) + (la : Int) = (s3 : Int) := by omega
    have q4 : ((N : Nat) : Int) - (ds : Int) = (s3 : Int) := by omega
    have v1 : IntKind.u64.wrap ((s1 : Nat) : Int) = (s1 : Int) := by rw [IntKind.wrap_u64]; have := HLE.out; omega
    have v2 : IntKind.u64.wrap ((s2 : Nat) : Int) = (s2 : Int) := by rw [IntKind.wrap_u64]; have := HLE.out; omega
    have v3 : IntKind.u64.wrap ((s3 : Nat) : Int) = (s3 : Int) := by rw [IntKind.wrap_u64]; have := HLE.out; omega
    have v4 : IntKind.u64.wrap ((la : Nat) : Int) = (la : Int) := by rw [IntKind.wrap_u64]; omega
    clear hs1 hs2 hs3 hwh
    go_upto_region 13 with fail
    clear d1 d4 d5 d6 x1 q1 q2 q3 q4 v1 v2 v3 v4
    go_wp2
    go_loopw [11] (fun v11 wr2 => ∃ q : Nat, v11 = .int .i64 (q : Int) ∧ q ≤ la ∧ Hid (LBox wr2 X R.abs F N (some ⟨b1, off1, none⟩) mr cr) ∧ Hid (LBox wr2 Y M.abs F2 N2 aY mY cY) ∧ Hid (wr2.heap[D]? = some (.cells #[.string nm, .int .u64 (ds : Int), .int .u64 (lo : Int), .slice sa sn scp, .int .u64 (ak : Int), .int .u64 (ev : Int), .int .u64 (rj : Int)] 41 (0, 0))) ∧ Hid (U64In anyB wr2 ava pa) ∧ Hid (Below w.heap.size w wr2)) (fun v11 _ => la - (intOf v11).toNat)
    case atStart => exact ⟨0, rfl, Nat.zero_le _, HBX, HBY, HD, HAV, HB⟩
    case round =>
      clear HBX HBY HD HAV HB
      obtain ⟨q, rfl, hq, HBX, HBY, HD, HAV, HB⟩ := hrel
      by_cases hql : q < la
      · have hql2 : q < pa.length := by rw [HLA.out]; exact hql
        obtain ⟨b3, off3, rfl, hbl3, _, hcs⟩ := HAV.out q hql2
        have HBL3 := hide hbl3
        have g1 := hcs q hql2
        obtain ⟨v, hv⟩ : ∃ v, pa[q] = v := ⟨_, rfl⟩
        rw [hv] at g1
        obtain ⟨m1, m2, m3, m4⟩ := HCNT.out.mem v (by rw [← hv]; exact List.getElem_mem hql2)
        rw [← HRL.out.s] at m1
        rw [HF.out] at m2
        rw [HNX.out] at m3
        rw [← HRL.out.nm] at m4
        have HWT := hide m4
        have c1 : decide (v < ds) = false := decide_eq_false (by omega)
        have c2 : decide (v < F) = false := decide_eq_false (by omega)
        have c3 : decide (N ≤ v) = false := decide_eq_false (by omega)
        clear m1 m2 m3 m4
        have HG1 := hide g1
        by_cases hq0 : q = 0
        · have c4 : decide (0 < q) = false := decide_eq_false (by omega)
          clear hcs hv g1 hq0
          go_wp2_with fail
          refine wp_region_growK (fun y => y < wr.heap.size) [([0, 1, 2, 3, 4, 5, 6, 7, 8, 9, 10, 11, 12, 13, 14, 15, 16, 17, 18, 19, 20, 21, 22, 23, 24, 25, 26, 27, 28, 29, 30, 31, 32, 33, 34, 35, 36, 37, 38, 39, 40, 41, 42, 43, 44, 45, 46, 47, 48], 49)] [50, 51] [] (by kernel_rfl) (by kernel_rfl) (by kernel_rfl) (by kernel_rfl) ?_
          intro wq hbq
          simp only [stagesOfK, getLK, pickLK]
          have inh : Nonempty (GrK (fun y => y < wr.heap.size) wq) := GrK.some _ wq
          have x0 := fun z : GrK (fun y => y < wr.heap.size) wq => z.cell (a := ⟨X, 0, none⟩) HBX.out.lt (lcell_of (HBX.out.then hbq).cell 0 rfl)
          have x1 := fun z : GrK (fun y => y < wr.heap.size) wq => z.cell (a := ⟨X, 1, none⟩) HBX.out.lt (lcell_of (HBX.out.then hbq).cell 1 rfl)
          have x2 := fun z : GrK (fun y => y < wr.heap.size) wq => z.cell (a := ⟨X, 2, none⟩) HBX.out.lt (lcell_of (HBX.out.then hbq).cell 2 rfl)
          have d0 := fun z : GrK (fun y => y < wr.heap.size) wq => z.cell (a := ⟨D, 0, none⟩) (Array.getElem?_eq_some_iff.1 HD.out).1 (lcell_of (at_then HD.out hbq) 0 rfl)
          have d1 := fun z : GrK (fun y => y < wr.heap.size) wq => z.cell (a := ⟨D, 1, none⟩) (Array.getElem?_eq_some_iff.1 HD.out).1 (lcell_of (at_then HD.out hbq) 1 rfl)
          have p1 := fun z : GrK (fun y => y < wr.heap.size) wq => z.cell (a := ⟨b3, off3 + q, none⟩) HBL3.out ((hbq.cell (p := ⟨b3, off3 + q, none⟩) HBL3.out).trans HG1.out)
          have HSQ := hide hbq.size
          have HBX := hide (HBX.out.then hbq)
          have HBY := hide (HBY.out.then hbq)
          have HD := hide (at_then HD.out hbq)
          have HB := hide (HB.out.trans (hbq.mono HB.out.size))
          have HAV := hide (HAV.out.later hbq)
          clear hbq
          refine wpG_stageK ?_
          repeat (go_big_quiet_step (fail))
          refine wpQuiet_nil ?_
          clear x0 x1 x2 d0 d1 p1 inh
          go_wp2_with fail
          refine (waits_any HBX.out.led HFIT.out nm v).mono ?_
          rintro e wz ⟨rfl, hbz⟩
          rw [Ldg.abs_waits HRO.out, HWT.out]
          have hkz : Kept (fun y => y < wr.heap.size) wq wz := Kept.of_below hbz (fun y hy => Nat.lt_of_lt_of_le hy HSQ.out)
          have HBX := hide (HBX.out.then hbz)
          have HBY := hide (HBY.out.then hbz)
          have HD := hide (at_then HD.out hbz)
          have HB := hide (HB.out.trans (hbz.mono HB.out.size))
          have HAV := hide (HAV.out.later hbz)
          clear hbz
          go_wp2
          refine OnToK.mk hkz (Sub.refl _) ?_
          clear hkz
          have inh : Nonempty (GrK (fun y => y < wr.heap.size) wz) := GrK.some _ wz
          refine wpG_lastK ?_
          repeat (go_big_quiet_step (fail))
          refine wpQuiet_nil ?_
          clear inh
          go_wp2
          go_roundw
          case rel => exact ⟨q + 1, by go_num, by omega, HBX, HBY, HD, HAV, HB⟩
          case measure => simp [intOf]; omega
        · obtain ⟨k1, hk1'⟩ : ∃ k1, q = k1 + 1 := ⟨q - 1, by omega⟩
          have hkl : k1 < pa.length := by omega
          have g2 := hcs k1 hkl
          obtain ⟨v1, hv1⟩ : ∃ v, pa[k1] = v := ⟨_, rfl⟩
          have hr := List.pairwise_iff_getElem.1 HCNT.out.rise k1 q hkl hql2 (by omega)
          rw [hv1] at g2 hr
          rw [hv] at hr
          have HG2 := hide g2
          have c4 : decide (0 < q) = true := decide_eq_true (by omega)
          have c5 : decide (v ≤ v1) = false := decide_eq_false (by omega)
          have q1 : ((q : Nat) : Int) - 1 = (k1 : Int) := by omega
          have q2 : IntKind.i64.wrap ((k1 : Nat) : Int) = (k1 : Int) := by rw [IntKind.wrap_i64]; omega
          have q3 : k1 < la := by omega
          clear hcs hv hv1 g1 g2 hr hkl hk1'
          go_wp2_with fail
          refine wp_region_growK (fun y => y < wr.heap.size) [([0, 1, 2, 3, 4, 5, 6, 7, 8, 9, 10, 11, 12, 13, 14, 15, 16, 17, 18, 19, 20, 21, 22, 23, 24, 25, 26, 27, 28, 29, 30, 31, 32, 33, 34, 35, 36, 37, 38, 39, 40, 41, 42, 43, 44, 45, 46, 47, 48], 49)] [50, 51] [] (by kernel_rfl) (by kernel_rfl) (by kernel_rfl) (by kernel_rfl) ?_
          intro wq hbq
          simp only [stagesOfK, getLK, pickLK]
          have inh : Nonempty (GrK (fun y => y < wr.heap.size) wq) := GrK.some _ wq
          have x0 := fun z : GrK (fun y => y < wr.heap.size) wq => z.cell (a := ⟨X, 0, none⟩) HBX.out.lt (lcell_of (HBX.out.then hbq).cell 0 rfl)
          have x1 := fun z : GrK (fun y => y < wr.heap.size) wq => z.cell (a := ⟨X, 1, none⟩) HBX.out.lt (lcell_of (HBX.out.then hbq).cell 1 rfl)
          have x2 := fun z : GrK (fun y => y < wr.heap.size) wq => z.cell (a := ⟨X, 2, none⟩) HBX.out.lt (lcell_of (HBX.out.then hbq).cell 2 rfl)
          have d0 := fun z : GrK (fun y => y < wr.heap.size) wq => z.cell (a := ⟨D, 0, none⟩) (Array.getElem?_eq_some_iff.1 HD.out).1 (lcell_of (at_then HD.out hbq) 0 rfl)
          have d1 := fun z : GrK (fun y => y < wr.heap.size) wq => z.cell (a := ⟨D, 1, none⟩) (Array.getElem?_eq_some_iff.1 HD.out).1 (lcell_of (at_then HD.out hbq) 1 rfl)
          have p1 := fun z : GrK (fun y => y < wr.heap.size) wq => z.cell (a := ⟨b3, off3 + q, none⟩) HBL3.out ((hbq.cell (p := ⟨b3, off3 + q, none⟩) HBL3.out).trans HG1.out)
          have p2 := fun z : GrK (fun y => y < wr.heap.size) wq => z.cell (a := ⟨b3, off3 + k1, none⟩) HBL3.out ((hbq.cell (p := ⟨b3, off3 + k1, none⟩) HBL3.out).trans HG2.out)
          have HSQ := hide hbq.size
          have HBX := hide (HBX.out.then hbq)
          have HBY := hide (HBY.out.then hbq)
          have HD := hide (at_then HD.out hbq)
          have HB := hide (HB.out.trans (hbq.mono HB.out.size))
          have HAV := hide (HAV.out.later hbq)
          clear hbq
          refine wpG_stageK ?_
          repeat (go_big_quiet_step (fail))
          refine wpQuiet_nil ?_
          clear x0 x1 x2 d0 d1 p1 p2 inh
          go_wp2_with fail
          refine (waits_any HBX.out.led HFIT.out nm v).mono ?_
          rintro e wz ⟨rfl, hbz⟩
          rw [Ldg.abs_waits HRO.out, HWT.out]
          have hkz : Kept (fun y => y < wr.heap.size) wq wz := Kept.of_below hbz (fun y hy => Nat.lt_of_lt_of_le hy HSQ.out)
          have HBX := hide (HBX.out.then hbz)
          have HBY := hide (HBY.out.then hbz)
          have HD := hide (at_then HD.out hbz)
          have HB := hide (HB.out.trans (hbz.mono HB.out.size))
          have HAV := hide (HAV.out.later hbz)
          clear hbz
          go_wp2
          refine OnToK.mk hkz (Sub.refl _) ?_
          clear hkz
          have inh : Nonempty (GrK (fun y => y < wr.heap.size) wz) := GrK.some _ wz
          refine wpG_lastK ?_
          repeat (go_big_quiet_step (fail))
          refine wpQuiet_nil ?_
          clear inh
          go_wp2
          go_roundw
          case rel => exact ⟨q + 1, by go_num, by omega, HBX, HBY, HD, HAV, HB⟩
          case measure => simp [intOf]; omega
      · have hqe : q = la := by omega
        subst hqe
        have y0 := lcell_of HBY.out.cell 0 rfl
        have y1 := lcell_of HBY.out.cell 1 rfl
        have y2 := lcell_of HBY.out.cell 2 rfl
        have d0 := lcell_of HD.out 0 rfl
        go_wp2_with fail
        clear y0 y1 y2 d0
        refine (find_any HBY.out.led HFM.out nm).mono ?_
        rintro e w9 hfd
        obtain ⟨fn, fs, fl, fa, fm, fc, fk, fe, fr, isb, rfl, hb9, hfi⟩ := find_all hfd
        have HFI := hide hfi
        have HBX := hide (HBX.out.then hb9)
        have HBY := hide (HBY.out.then hb9)
        have HD := hide (at_then HD.out hb9)
        have HB := hide (HB.out.trans (hb9.mono HB.out.size))
        clear hfd hb9 hfi
        have bX := bnew w9 (.cells #[.string fn, .int .u64 (fs : Int), .int .u64 (fl : Int), .slice fa fm fc, .int .u64 (fk : Int), .int .u64 (fe : Int), .int .u64 (fr : Int)] 41)
        have cX := alloc_new w9 (.cells #[.string fn, .int .u64 (fs : Int), .int .u64 (fl : Int), .slice fa fm fc, .int .u64 (fk : Int), .int .u64 (fe : Int), .int .u64 (fr : Int)] 41)
        have HBX := hide (HBX.out.then bX)
        have HBY := hide (HBY.out.then bX)
        have HD := hide (at_then HD.out bX)
        have HB := hide (HB.out.trans (bX.mono HB.out.size))
        obtain ⟨G, hG⟩ : ∃ y, w9.heap.size = y := ⟨_, rfl⟩
        obtain ⟨wa, hwa⟩ : ∃ W, w9.alloc (.cells #[.string fn, .int .u64 (fs : Int), .int .u64 (fl : Int), .slice fa fm fc, .int .u64 (fk : Int), .int .u64 (fe : Int), .int .u64 (fr : Int)] 41) = W := ⟨_, rfl⟩
        rw [hG, hwa] at cX
        rw [hwa] at HBX HBY HD HB
        have HG := hide cX
        clear bX cX
        go_upto_region 19 with fail
        try rw [hwa]
        try rw [hG]
        clear hwa hG
        rcases HFI.out with rfl | ⟨rfl, ed, hed, hre⟩
        · go_wp2
          go_roundw
          case rel => exact ⟨j + 1, by go_num, by omega, HBX, HBY, HB⟩
          case measure => simp [intOf]; omega
        obtain ⟨pb, hpb⟩ : ∃ x, M.pend nm = x := ⟨_, rfl⟩
        have hmo := more_of HRO.out HML.out HMEM.out (show M.look dd.name = some ed by rw [← HRL.out.nm]; exact hed) (show M.pend dd.name = pb by rw [← HRL.out.nm]; exact hpb)
        have hmk := hmo.ak
        have hme := hmo.ev
        have hmr2 := hmo.rj
        have hms := hmo.since
        have hml2 := hmo.low
        rw [← HRL.out.ak, ← hre.ak] at hmk
        rw [← HRL.out.ev, ← hre.ev] at hme
        rw [← HRL.out.rj, ← hre.rj] at hmr2
        rw [← HRL.out.s, ← hre.s] at hms
        rw [← HRL.out.lo, ← hre.lo] at hml2
        have HMW := hide hmo.mem
        have HPB := hide hpb
        have hpl2 := Ldg.pend_len HMO.out nm
        rw [hpb] at hpl2
        have HPL2 := hide hpl2
        have hms := hms.symm
        subst hms
        have e1 : decide (fk < ak) = false := decide_eq_false (by omega)
        have e2 : decide (fe < ev) = false := decide_eq_false (by omega)
        have e3 : decide (fr < rj) = false := decide_eq_false (by omega)
        have e4 : decide (fl < lo) = false := decide_eq_false (by omega)
        clear hmo hmk hme hmr2 hml2 hpb hpl2 hed hre
        have d1 := lcell_of HD.out 1 rfl
        have z1 := lcell_of HG.out 1 rfl
        have d2 := lcell_of HD.out 2 rfl
        have z2 := lcell_of HG.out 2 rfl
        have d4 := lcell_of HD.out 4 rfl
        have z4 := lcell_of HG.out 4 rfl
        have d5 := lcell_of HD.out 5 rfl
        have z5 := lcell_of HG.out 5 rfl
        have d6 := lcell_of HD.out 6 rfl
        have z6 := lcell_of HG.out 6 rfl
        go_upto_region 22 with fail
        clear d1 d2 d4 d5 d6 z1 z2 z4 z5 z6 e1 e2 e3 e4
        have y0 := lcell_of HBY.out.cell 0 rfl
        have y1 := lcell_of HBY.out.cell 1 rfl
        have y2 := lcell_of HBY.out.cell 2 rfl
        have d0 := lcell_of HD.out 0 rfl
        go_wp2_with fail
        clear y0 y1 y2 d0
        refine (pending_any HBY.out.led HFM.out (Ldg.abs_right HMO.out) nm).mono ?_
        rintro e wb ⟨pv, rfl, ho, hbz⟩
        rw [Ldg.abs_pend HMO.out, HPB.out] at ho
        obtain ⟨avb, cvb, rfl, hcap, _, hu⟩ := ho.sl
        obtain ⟨lb, hlb⟩ : ∃ x, pb.length = x := ⟨_, rfl⟩
        rw [hlb] at hcap ⊢
        have HAV := hide hu.up
        have HLB := hide hlb
        have HBX := hide (HBX.out.then hbz)
        have HBY := hide (HBY.out.then hbz)
        have HD := hide (at_then HD.out hbz)
        have HB := hide (HB.out.trans (hbz.mono HB.out.size))
        clear ho hu hlb hbz hcap
        have hlb7 : lb ≤ 10000000 := by rw [← HLB.out]; exact HPL2.out
        clear HG
        go_wp2
        go_loopw [15] (fun v15 wr2 => ∃ r : Nat, v15 = .int .i64 (r : Int) ∧ r ≤ lb ∧ Hid (LBox wr2 X R.abs F N (some ⟨b1, off1, none⟩) mr cr) ∧ Hid (LBox wr2 Y M.abs F2 N2 aY mY cY) ∧ Hid (wr2.heap[D]? = some (.cells #[.string nm, .int .u64 (ds : Int), .int .u64 (lo : Int), .slice sa sn scp, .int .u64 (ak : Int), .int .u64 (ev : Int), .int .u64 (rj : Int)] 41 (0, 0))) ∧ Hid (U64In anyB wr2 avb pb) ∧ Hid (Below w.heap.size w wr2)) (fun v15 _ => lb - (intOf v15).toNat)
        case atStart => exact ⟨0, rfl, Nat.zero_le _, HBX, HBY, HD, HAV, HB⟩
        case round =>
          clear HBX HBY HD HAV HB
          obtain ⟨r, rfl, hr, HBX, HBY, HD, HAV, HB⟩ := hrel
          by_cases hrl : r < lb
          · have hrl2 : r < pb.length := by rw [HLB.out]; exact hrl
            obtain ⟨b3, off3, rfl, hbl3, _, hcs⟩ := HAV.out r hrl2
            have HBL3 := hide hbl3
            have g1 := hcs r hrl2
            obtain ⟨v, hv⟩ : ∃ v, pb[r] = v := ⟨_, rfl⟩
            rw [hv] at g1
            have HG1 := hide g1
            have hw := HMW.out v (by rw [← hv]; exact List.getElem_mem hrl2)
            rw [HNX.out, ← HRL.out.nm] at hw
            clear hcs g1 hv
            by_cases hvn : v < N
            · have c1 : decide (v < N) = true := decide_eq_true hvn
              have HWT := hide (hw hvn)
              clear hw
              go_wp2_with fail
              refine wp_region_growK (fun y => y < wr.heap.size) [([0, 1, 2, 3, 4, 5, 6, 7, 8, 9, 10, 11, 12, 13, 14], 15)] [16, 17] [] (by kernel_rfl) (by kernel_rfl) (by kernel_rfl) (by kernel_rfl) ?_
              intro wq hbq
              simp only [stagesOfK, getLK, pickLK]
              have inh : Nonempty (GrK (fun y => y < wr.heap.size) wq) := GrK.some _ wq
              have x0 := fun z : GrK (fun y => y < wr.heap.size) wq => z.cell (a := ⟨X, 0, none⟩) HBX.out.lt (lcell_of (HBX.out.then hbq).cell 0 rfl)
              have x1 := fun z : GrK (fun y => y < wr.heap.size) wq => z.cell (a := ⟨X, 1, none⟩) HBX.out.lt (lcell_of (HBX.out.then hbq).cell 1 rfl)
              have x2 := fun z : GrK (fun y => y < wr.heap.size) wq => z.cell (a := ⟨X, 2, none⟩) HBX.out.lt (lcell_of (HBX.out.then hbq).cell 2 rfl)
              have d0 := fun z : GrK (fun y => y < wr.heap.size) wq => z.cell (a := ⟨D, 0, none⟩) (Array.getElem?_eq_some_iff.1 HD.out).1 (lcell_of (at_then HD.out hbq) 0 rfl)
              have p1 := fun z : GrK (fun y => y < wr.heap.size) wq => z.cell (a := ⟨b3, off3 + r, none⟩) HBL3.out ((hbq.cell (p := ⟨b3, off3 + r, none⟩) HBL3.out).trans HG1.out)
              have HSQ := hide hbq.size
              have HBX := hide (HBX.out.then hbq)
              have HBY := hide (HBY.out.then hbq)
              have HD := hide (at_then HD.out hbq)
              have HB := hide (HB.out.trans (hbq.mono HB.out.size))
              have HAV := hide (HAV.out.later hbq)
              clear hbq
              refine wpG_stageK ?_
              repeat (go_big_quiet_step (fail))
              refine wpQuiet_nil ?_
              clear x0 x1 x2 d0 p1 inh
              go_wp2_with fail
              refine (waits_any HBX.out.led HFIT.out nm v).mono ?_
              rintro e wz ⟨rfl, hbz⟩
              rw [Ldg.abs_waits HRO.out, HWT.out]
              have hkz : Kept (fun y => y < wr.heap.size) wq wz := Kept.of_below hbz (fun y hy => Nat.lt_of_lt_of_le hy HSQ.out)
              have HBX := hide (HBX.out.then hbz)
              have HBY := hide (HBY.out.then hbz)
              have HD := hide (at_then HD.out hbz)
              have HB := hide (HB.out.trans (hbz.mono HB.out.size))
              have HAV := hide (HAV.out.later hbz)
              clear hbz
              go_wp2
              refine OnToK.mk hkz (Sub.refl _) ?_
              clear hkz
              have inh : Nonempty (GrK (fun y => y < wr.heap.size) wz) := GrK.some _ wz
              refine wpG_lastK ?_
              repeat (go_big_quiet_step (fail))
              refine wpQuiet_nil ?_
              clear inh
              go_wp2
              go_roundw
              case rel => exact ⟨r + 1, by go_num, by omega, HBX, HBY, HD, HAV, HB⟩
              case measure => simp [intOf]; omega
            · have c1 : decide (v < N) = false := decide_eq_false hvn
              clear hw
              go_wp2_with fail
              refine wp_region_growK (fun y => y < wr.heap.size) [([0, 1, 2, 3, 4, 5, 6, 7, 8, 9, 10, 11, 12, 13, 14], 15)] [16, 17] [] (by kernel_rfl) (by kernel_rfl) (by kernel_rfl) (by kernel_rfl) ?_
              intro wq hbq
              simp only [stagesOfK, getLK, pickLK]
              have inh : Nonempty (GrK (fun y => y < wr.heap.size) wq) := GrK.some _ wq
              have x1 := fun z : GrK (fun y => y < wr.heap.size) wq => z.cell (a := ⟨X, 1, none⟩) HBX.out.lt (lcell_of (HBX.out.then hbq).cell 1 rfl)
              have p1 := fun z : GrK (fun y => y < wr.heap.size) wq => z.cell (a := ⟨b3, off3 + r, none⟩) HBL3.out ((hbq.cell (p := ⟨b3, off3 + r, none⟩) HBL3.out).trans HG1.out)
              have HSQ := hide hbq.size
              have HBX := hide (HBX.out.then hbq)
              have HBY := hide (HBY.out.then hbq)
              have HD := hide (at_then HD.out hbq)
              have HB := hide (HB.out.trans (hbq.mono HB.out.size))
              have HAV := hide (HAV.out.later hbq)
              clear hbq
              refine wpG_stageK ?_
              repeat (go_big_quiet_step (fail))
              refine wpQuiet_nil ?_
              clear x1 p1 inh
              go_wp2
              refine OnToK.mk (Kept.refl _ _) (Sub.refl _) ?_
              have inh : Nonempty (GrK (fun y => y < wr.heap.size) wq) := GrK.some _ wq
              refine wpG_lastK ?_
              repeat (go_big_quiet_step (fail))
              refine wpQuiet_nil ?_
              clear inh
              go_wp2
              go_roundw
              case rel => exact ⟨r + 1, by go_num, by omega, HBX, HBY, HD, HAV, HB⟩
              case measure => simp [intOf]; omega
          · have hre : r = lb := by omega
            subst hre
            go_wp2
            go_roundw
            case rel => exact ⟨j + 1, by go_num, by omega, HBX, HBY, HB⟩
            case measure => simp [intOf]; omega
end Go.Proofs.Ytjbdofjheeljkaa
