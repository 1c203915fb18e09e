/-
  The walk of LedgerPlays.
-/
import Derived.Test.YtcegdmdnpepliaaLdgPlayW
import Derived.Test.YtcegdmdnpepliaaLdgRead2W
import Derived.Test.YtcegdmdnpepliaaLdgRead3W
import Derived.Test.YtcegdmdnpepliaaGrowQ
import Derived.Deep.DeepCutAuto
namespace Go.Proofs.Ytcegdmdnpepliaa
open Go.RowKit
open Ldg (De Le Rd Rl actL runL aN)

set_option linter.unusedVariables false in
set_option maxRecDepth 100000 in
set_option maxHeartbeats 1600000 in
theorem walkLedgerPlays (a0 : Option Addr) (cap0 : Nat) (l : List La) (a1 a2 : Int) (w : World) (ha : LasAt w a0 l) (hl : l.length ≤ 9223372036854775807) (hcap : l.length ≤ cap0) (hok : ∀ p ∈ l, LaOk p) (hno : a0 = none → cap0 = 0) (h1 : -9223372036854775808 ≤ a1 ∧ a1 ≤ 9223372036854775807) (h2 : 0 ≤ a2 ∧ a2 ≤ 18446744073709551615) :
    Calls Try.prog 3 #[.slice a0 l.length cap0, .int .i64 a1, .int .u64 a2] w fun e w' => e = .returned (.bool true) ∧ Below w.heap.size w w' := by
  have HA := hide ha
  have HOK := hide hok
  clear ha hok
  by_cases hlen : l.length ≤ 100
  case neg =>
    go_enter Try.func3, Try.ntmps3
    go_wp2_with fail
    refine (lshown_any _).mono ?_
    rintro e w1 ⟨rfl, hb1⟩
    go_wp2
    go_ret
    exact ⟨rfl, hb1⟩
  obtain ⟨sn, rfl⟩ : ∃ q : Nat, a2 = (q : Int) := ⟨a2.toNat, by omega⟩
  obtain ⟨n, hn⟩ : ∃ n, nameAt (pk a1 6) = n := ⟨_, rfl⟩
  have HN := hide hn
  clear hn
  go_enter Try.func3, Try.ntmps3
  go_wp2_with fail
  refine (lshown_any _).mono ?_
  rintro e w0 ⟨rfl, hb0⟩
  have HB0 := hide hb0
  clear hb0
  go_wp2_with fail
  refine (new_any _).mono ?_
  rintro e w1 ⟨rv, rfl, hl1, hb1⟩
  obtain ⟨aL, c1, ps1, rfl, hc1, hd1, hs1⟩ := hl1
  obtain ⟨m1, hm1⟩ : ∃ x, ps1.length = x := ⟨_, rfl⟩
  have hl1 : LedAt w1 (.agg #[.int .u64 ((1 : Nat) : Int), .int .u64 ((1 : Nat) : Int), .slice aL m1 c1]) ⟨1, 1, []⟩ := ⟨aL, c1, ps1, by rw [hm1], hc1, hd1, hs1⟩
  rw [hm1]
  have HL1 := hide hl1
  have hB1 : Below w.heap.size w w1 := bl HB0.out hb1
  have hs0 : w.heap.size ≤ w1.heap.size := hB1.size
  have HB1 := hide hB1
  clear hl1 hc1 hd1 hs1 hm1 hb1 hB1
  go_wp2_with fail
  refine (rnew_any _).mono ?_
  rintro e w2 ⟨rv, rfl, hr2, hb2⟩
  obtain ⟨aR, c2, ps2, rfl, hc2, hd2, hs2⟩ := hr2
  obtain ⟨m2, hm2⟩ : ∃ x, ps2.length = x := ⟨_, rfl⟩
  have hr2 : RlAt w2 (.agg #[.int .u64 ((1 : Nat) : Int), .int .u64 ((1 : Nat) : Int), .slice aR m2 c2]) ⟨1, 1, []⟩ := ⟨aR, c2, ps2, by rw [hm2], hc2, hd2, hs2⟩
  rw [hm2]
  obtain ⟨X, hX⟩ : ∃ X, w1.heap.size = X := ⟨_, rfl⟩
  obtain ⟨Y, hY⟩ : ∃ Y, w2.heap.size = Y := ⟨_, rfl⟩
  have hri : RunI w (w2.alloc (.cells #[.int .u64 ((1 : Nat) : Int), .int .u64 ((1 : Nat) : Int), .slice aR m2 c2] 31)) X Y ⟨1, 1, []⟩ aL m1 c1 aR m2 c2 := by
    have hs1' := hb2.size
    have ha2 : Below w2.heap.size w2 (w2.alloc (.cells #[.int .u64 ((1 : Nat) : Int), .int .u64 ((1 : Nat) : Int), .slice aR m2 c2] 31)) := (Below.refl _ w2).alloc (Nat.le_refl _) _
    have hb2' : Below w1.heap.size w1 w2 := bl ((Below.refl _ w1).alloc (Nat.le_refl _) _) hb2
    have hxx : X < w2.heap.size := by simp at hs1'; omega
    refine ⟨?_, ?_, (HL1.out.below hb2').below ha2, hr2.below ha2, Ldg.new_ok, by omega, by omega, by simp; omega, bl (bl HB1.out hb2') ha2⟩
    · refine (ha2.block _ hxx).trans ((hb2.block _ (by simp; omega)).trans ?_)
      rw [← hX]; exact alloc_new _ _
    · rw [← hY]; exact alloc_new _ _
  have HRI := hide hri
  have H0 := hide (show w.heap.size ≤ X by omega)
  clear hr2 hc2 hd2 hs2 hm2 hb2 hri hs0
  go_wp2
  try rw [hX]
  try rw [hY]
  clear hX hY
  go_loopw [10] (fun v10 wr => ∃ (j : Nat) (a1 : Option Addr) (m1 c1 : Nat) (a2 : Option Addr) (m2 c2 : Nat), j ≤ l.length ∧ v10 = .int .i64 (j : Int) ∧ Hid (RunI w wr X Y (runL (l.take j)) a1 m1 c1 a2 m2 c2)) (fun v10 _ => l.length - (intOf v10).toNat)
  case atStart => exact ⟨0, _, _, _, _, _, _, Nat.zero_le _, rfl, HRI⟩
  case round =>
    clear HRI HL1 HB1
    obtain ⟨j, a3, m3, c3, a4, m4, c4, hj, rfl, HR⟩ := hrel
    by_cases hlt : j < l.length
    case neg =>
      obtain rfl : j = l.length := by omega
      go_wp2
      go_ret
      exact ⟨rfl, HR.out.bel⟩
    have hro := Ldg.run_ok (l := l.take j) (by rw [List.length_take]; omega)
    have e1 := Ldg.runL_take hlt
    obtain ⟨g, o, rfl, hg, hcell⟩ := HA.out j hlt
    have hcy := (hcell j hlt).below HR.out.bel hg
    have hx := HOK.out _ (List.getElem_mem hlt)
    obtain ⟨⟨op, nm, sq, kd⟩, hy⟩ : ∃ y, l[j] = y := ⟨_, rfl⟩
    rw [hy] at hcy e1 hx
    have hnx : (runL (l.take j)).next < 10000000 := by have := hro.2; rw [List.length_take] at this; omega
    obtain ⟨R, hR⟩ : ∃ R, runL (l.take j) = R := ⟨_, rfl⟩
    rw [hR] at HR e1 hnx
    have HNX := hide hnx
    have HX := hide hx
    have HD := hide hcy
    have hao := Ldg.act_ok HR.out.ok hnx (k := pk op 11) (n := nameAt (pk nm 6)) (s := (IntKind.u64.wrap sq).toNat) (kd := kindOf (pk kd 8))
    have hab := fun d hd x hx => Ldg.act_above HR.out.ok hnx (k := pk op 11) (n := nameAt (pk nm 6)) (s := (IntKind.u64.wrap sq).toNat) (kd := kindOf (pk kd 8)) (d := d) hd (x := x) hx
    obtain ⟨A, hA⟩ : ∃ A, R.act (pk op 11) (nameAt (pk nm 6)) (IntKind.u64.wrap sq).toNat (kindOf (pk kd 8)) = A := ⟨_, rfl⟩
    rw [hA] at hao hab
    have HACT := hide hA
    have E1 := hide (e1.trans (show actL R ⟨op, nm, sq, kd⟩ = A from hA))
    have HAO := hide hao.1
    have HAB : Hid (∀ d ∈ A.abs.dests, ∀ x ∈ d.above, x ≠ R.first ∧ x ≠ R.next) := hide hab
    obtain ⟨F, hF⟩ : ∃ F, A.first = F := ⟨_, rfl⟩
    obtain ⟨N, hN⟩ : ∃ N, A.next = N := ⟨_, rfl⟩
    have HF := hide hF
    have HNN := hide hN
    have HGW := hide (Nat.lt_of_lt_of_le hg HR.out.bel.size)
    clear hro e1 hcy hx hy hnx hR hao hab hA hF hN hcell
    go_upto_region 9 with fail
    go_cut [11, 12, 13] (fun v11 v12 v13 wc => ∃ (U V : Nat) (b1 : Option Addr) (n1 d1 : Nat) (b2 : Option Addr) (n2 d2 : Nat), v11 = .pointer (some ⟨U, 0, none⟩) ∧ v12 = .pointer (some ⟨V, 0, none⟩) ∧ v13 = .bool true ∧ Hid (PlayI w wc X Y R a3 m3 c3 a4 m4 c4 U V A b1 n1 d1 b2 n2 d2))
    case first =>
      have x0 := lcell_of HR.out.x 0 rfl
      have x1 := lcell_of HR.out.x 1 rfl
      have x2 := lcell_of HR.out.x 2 rfl
      have y0 := lcell_of HR.out.y 0 rfl
      have y1 := lcell_of HR.out.y 1 rfl
      have y2 := lcell_of HR.out.y 2 rfl
      have d0 := HD.out.c0
      have d1 := HD.out.c1
      have d2 := HD.out.c2
      have d3 := HD.out.c3
      go_wp2_with fail
      clear x0 x1 x2 y0 y1 y2 d0 d1 d2 d3
      refine wp_region_growQ (fun b => b < wr.heap.size) 16 rfl (by kernel_rfl) ?_
      intro wq hbq
      have hX : X < wr.heap.size := by have := HR.out.xy; have := HR.out.sz; omega
      have hY : Y < wr.heap.size := HR.out.sz
      have HRI := hide (HR.out.then hbq)
      have HBQ := hide hbq
      have HXL := hide hX
      have HYL := hide hY
      have inh : Nonempty (GrK (fun b => b < wr.heap.size) wq) := GrK.some _ wq
      have x0 := fun z : GrK (fun b => b < wr.heap.size) wq => z.cell (a := ⟨X, 0, none⟩) hX (lcell_of HRI.out.x 0 rfl)
      have x1 := fun z : GrK (fun b => b < wr.heap.size) wq => z.cell (a := ⟨X, 1, none⟩) hX (lcell_of HRI.out.x 1 rfl)
      have x2 := fun z : GrK (fun b => b < wr.heap.size) wq => z.cell (a := ⟨X, 2, none⟩) hX (lcell_of HRI.out.x 2 rfl)
      have y0 := fun z : GrK (fun b => b < wr.heap.size) wq => z.cell (a := ⟨Y, 0, none⟩) hY (lcell_of HRI.out.y 0 rfl)
      have y1 := fun z : GrK (fun b => b < wr.heap.size) wq => z.cell (a := ⟨Y, 1, none⟩) hY (lcell_of HRI.out.y 1 rfl)
      have y2 := fun z : GrK (fun b => b < wr.heap.size) wq => z.cell (a := ⟨Y, 2, none⟩) hY (lcell_of HRI.out.y 2 rfl)
      have d0 := fun z : GrK (fun b => b < wr.heap.size) wq => z.cell (a := ⟨g, o + j * 4, none⟩) HGW.out ((hbq.cell (by exact HGW.out)).trans HD.out.c0)
      have d1 := fun z : GrK (fun b => b < wr.heap.size) wq => z.cell (a := ⟨g, o + j * 4 + 1, none⟩) HGW.out ((hbq.cell (by exact HGW.out)).trans HD.out.c1)
      have d2 := fun z : GrK (fun b => b < wr.heap.size) wq => z.cell (a := ⟨g, o + j * 4 + 2, none⟩) HGW.out ((hbq.cell (by exact HGW.out)).trans HD.out.c2)
      have d3 := fun z : GrK (fun b => b < wr.heap.size) wq => z.cell (a := ⟨g, o + j * 4 + 3, none⟩) HGW.out ((hbq.cell (by exact HGW.out)).trans HD.out.c3)
      clear hbq hX hY
      refine growQ_plain [0, 1, 2, 3, 4, 5] 10 #[true, true, true, true, true, true, false, false, false, false, false, false, false, false, false, false] rfl (by kernel_rfl) (by kernel_rfl) ?_
      simp only [getLK, pickLK]
      repeat (go_big_quiet_step (fail))
      refine wpQuiet_nil ?_
      clear x0 x1 x2 y0 y1 y2 d0 d1 d2 d3 inh
      refine growQ_three 6 11 12 _ _ _ 9 rfl rfl rfl rfl (by kernel_rfl) ?_ ?_ ?_
      · go_wp2_with fail
        refine (does_any HRI.out.led HRI.out.rl HRI.out.ok HNX.out op nm sq kd HX.out.op0 HX.out.op1 HX.out.nm0 HX.out.nm1 HX.out.kd0 HX.out.kd1).mono ?_
        rintro e w1c ⟨x, y, rfl, hlx, hry, hbn⟩
        rw [HACT.out] at hlx hry
        obtain ⟨a5, m5, c5, rfl, hmm, hlx⟩ := hlx.view
        obtain ⟨a6, m6, c6, rfl, hry⟩ := hry.view
        clear hmm
        have eF : A.abs.first = A.first := rfl
        have eN : A.abs.next = A.next := rfl
        rw [eF, eN] at hlx ⊢
        rw [HF.out, HNN.out] at hlx hry ⊢
        clear eF eN
        go_wp2
        refine OnToQ.mk (Kept.of_below hbn (fun b hb => Nat.lt_of_lt_of_le hb HBQ.out.size)) (Sub.refl _) ?_
        have HRI := hide (HRI.out.then hbn)
        have HBQ := hide (HBQ.out.trans (hbn.mono HBQ.out.size))
        have HLL := hide hlx
        have HRL := hide hry
        clear hlx hry hbn
        have inh : Nonempty (GrK (fun b => b < wr.heap.size) w1c) := GrK.some _ w1c
        refine growQ_plain [7, 8, 9, 10] 5 #[true, true, true, true, true, true, true, true, true, true, true, false, false, false, false, false] rfl (by kernel_rfl) (by kernel_rfl) ?_
        simp only [getLK, pickLK]
        repeat (go_big_quiet_step (fail))
        refine wpQuiet_nil ?_
        clear inh
        refine growQ_two 11 12 _ _ 4 rfl rfl rfl (by kernel_rfl) ?_ ?_
        · go_wp2
          have hbn := bnew w1c (.cells #[.int .u64 0, .int .u64 0, .slice none 0 0] 27)
          have hza := alloc_new w1c (.cells #[.int .u64 0, .int .u64 0, .slice none 0 0] 27)
          have hsl : w1c.heap.size < (w1c.alloc (.cells #[.int .u64 0, .int .u64 0, .slice none 0 0] 27)).heap.size := by simp
          refine OnToQ.mk (Kept.of_below hbn (fun b hb => Nat.lt_of_lt_of_le hb HBQ.out.size)) (Sub.refl _) ?_
          obtain ⟨U, hU⟩ : ∃ y, w1c.heap.size = y := ⟨_, rfl⟩
          obtain ⟨w2a, hW⟩ : ∃ z, w1c.alloc (.cells #[.int .u64 0, .int .u64 0, .slice none 0 0] 27) = z := ⟨_, rfl⟩
          have HRI := hide (HRI.out.then hbn)
          have HUX := hide (show wr.heap.size ≤ U by have := HBQ.out.size; omega)
          have HLL := hide (HLL.out.below hbn)
          have HRL := hide (HRL.out.below hbn)
          have HBQ := hide (HBQ.out.trans (hbn.mono HBQ.out.size))
          rw [hU, hW] at hza
          rw [hU, hW] at hsl
          rw [hW] at HRI HBQ
          try rw [hU]
          try rw [hW]
          rw [hW] at HLL HRL
          have HUZ := hide hza
          have HUL := hide hsl
          clear hza hsl hbn hW hU
          refine growQ_one 12 _ 3 rfl rfl (by kernel_rfl) ?_
          · go_wp2
            have hbn := bnew w2a (.cells #[.int .u64 0, .int .u64 0, .slice none 0 0] 31)
            have hza := alloc_new w2a (.cells #[.int .u64 0, .int .u64 0, .slice none 0 0] 31)
            have hsl : w2a.heap.size < (w2a.alloc (.cells #[.int .u64 0, .int .u64 0, .slice none 0 0] 31)).heap.size := by simp
            refine OnToQ.mk (Kept.of_below hbn (fun b hb => Nat.lt_of_lt_of_le hb HBQ.out.size)) (Sub.refl _) ?_
            obtain ⟨V, hV⟩ : ∃ y, w2a.heap.size = y := ⟨_, rfl⟩
            obtain ⟨w3a, hW⟩ : ∃ z, w2a.alloc (.cells #[.int .u64 0, .int .u64 0, .slice none 0 0] 31) = z := ⟨_, rfl⟩
            have HRI := hide (HRI.out.then hbn)
            have HVX := hide (show wr.heap.size ≤ V by have := HBQ.out.size; omega)
            have HUZ := hide ((hbn.block U HUL.out).trans HUZ.out)
            have HUV := hide (show U ≠ V by have := HUL.out; omega)
            have HUL := hide (Nat.lt_of_lt_of_le HUL.out hbn.size)
            have HLL := hide (HLL.out.below hbn)
            have HRL := hide (HRL.out.below hbn)
            have HBQ := hide (HBQ.out.trans (hbn.mono HBQ.out.size))
            rw [hV, hW] at hza
            rw [hV, hW] at hsl
            rw [hW] at HRI HBQ
            try rw [hV]
            try rw [hW]
            rw [hW] at HUZ HUL
            rw [hW] at HLL HRL
            have HVZ := hide hza
            have HVL := hide hsl
            clear hza hsl hbn hW hV
            have hmade := PlayI.made HRI.out HAO.out HF.out HNN.out HUZ.out HVZ.out HLL.out HRL.out (Nat.lt_of_lt_of_le HXL.out HUX.out) (Nat.lt_of_lt_of_le HYL.out HUX.out) (Nat.lt_of_lt_of_le HXL.out HVX.out) (Nat.lt_of_lt_of_le HYL.out HVX.out) HUV.out
            unfold wrote at hmade
            have k1 := kept3 w3a U (.int .u64 (F : Int)) (.int .u64 (N : Int)) (.slice a5 m5 c5)
            have z0 := lcell_of HUZ.out 0 rfl
            have z1 := lcell_of HUZ.out 1 rfl
            have z2 := lcell_of HUZ.out 2 rfl
            have zf := lfrozen_of HUZ.out
            have hv1 := (k1.block V (fun e => HUV.out e.symm)).trans HVZ.out
            obtain ⟨ws, hws⟩ : ∃ z, ((w3a.setCell ⟨U, 0, none⟩ (.int .u64 (F : Int))).setCell ⟨U, 1, none⟩ (.int .u64 (N : Int))).setCell ⟨U, 2, none⟩ (.slice a5 m5 c5) = z := ⟨_, rfl⟩
            rw [hws] at hmade k1 hv1
            have y0 := lcell_of hv1 0 rfl
            have y1 := lcell_of hv1 1 rfl
            have y2 := lcell_of hv1 2 rfl
            have yf := lfrozen_of hv1
            have k2 := kept3 ws V (.int .u64 (F : Int)) (.int .u64 (N : Int)) (.slice a6 m6 c6)
            obtain ⟨wt, hwt⟩ : ∃ z, ((ws.setCell ⟨V, 0, none⟩ (.int .u64 (F : Int))).setCell ⟨V, 1, none⟩ (.int .u64 (N : Int))).setCell ⟨V, 2, none⟩ (.slice a6 m6 c6) = z := ⟨_, rfl⟩
            rw [hwt] at hmade k2
            have HMADE := hide hmade
            clear hmade hv1
            refine growQ_one 13 _ 2 rfl rfl (by kernel_rfl) ?_
            go_wp2
            try rw [hws]
            refine OnToQ.mk (k1.mono (fun b hb => by have := HUX.out; omega)) (Sub.refl _) ?_
            clear z0 z1 z2 zf k1 hws
            refine growQ_one 14 _ 1 rfl rfl (by kernel_rfl) ?_
            go_wp2
            try rw [hwt]
            refine OnToQ.mk (k2.mono (fun b hb => by have := HVX.out; omega)) (Sub.refl _) ?_
            clear k2 hwt
            have inh : Nonempty (GrK (fun b => b < wr.heap.size) wt) := GrK.some _ wt
            refine growQ_plain [15] 0 #[true, true, true, true, true, true, true, true, true, true, true, true, true, true, true, true] rfl (by kernel_rfl) (by kernel_rfl) ?_
            simp only [getLK, pickLK]
            repeat (go_big_quiet_step (fail))
            refine wpQuiet_nil ?_
            clear inh
            refine growQ_end (by kernel_rfl) (by kernel_rfl) ?_
            go_wp2
            go_meet
            case rel => exact ⟨U, V, _, _, _, _, _, _, rfl, rfl, rfl, HMADE⟩
        · go_wp2
          have hbn := bnew w1c (.cells #[.int .u64 0, .int .u64 0, .slice none 0 0] 31)
          have hza := alloc_new w1c (.cells #[.int .u64 0, .int .u64 0, .slice none 0 0] 31)
          have hsl : w1c.heap.size < (w1c.alloc (.cells #[.int .u64 0, .int .u64 0, .slice none 0 0] 31)).heap.size := by simp
          refine OnToQ.mk (Kept.of_below hbn (fun b hb => Nat.lt_of_lt_of_le hb HBQ.out.size)) (Sub.refl _) ?_
          obtain ⟨V, hV⟩ : ∃ y, w1c.heap.size = y := ⟨_, rfl⟩
          obtain ⟨w4a, hW⟩ : ∃ z, w1c.alloc (.cells #[.int .u64 0, .int .u64 0, .slice none 0 0] 31) = z := ⟨_, rfl⟩
          have HRI := hide (HRI.out.then hbn)
          have HVX := hide (show wr.heap.size ≤ V by have := HBQ.out.size; omega)
          have HLL := hide (HLL.out.below hbn)
          have HRL := hide (HRL.out.below hbn)
          have HBQ := hide (HBQ.out.trans (hbn.mono HBQ.out.size))
          rw [hV, hW] at hza
          rw [hV, hW] at hsl
          rw [hW] at HRI HBQ
          try rw [hV]
          try rw [hW]
          rw [hW] at HLL HRL
          have HVZ := hide hza
          have HVL := hide hsl
          clear hza hsl hbn hW hV
          refine growQ_one 11 _ 3 rfl rfl (by kernel_rfl) ?_
          · go_wp2
            have hbn := bnew w4a (.cells #[.int .u64 0, .int .u64 0, .slice none 0 0] 27)
            have hza := alloc_new w4a (.cells #[.int .u64 0, .int .u64 0, .slice none 0 0] 27)
            have hsl : w4a.heap.size < (w4a.alloc (.cells #[.int .u64 0, .int .u64 0, .slice none 0 0] 27)).heap.size := by simp
            refine OnToQ.mk (Kept.of_below hbn (fun b hb => Nat.lt_of_lt_of_le hb HBQ.out.size)) (Sub.refl _) ?_
            obtain ⟨U, hU⟩ : ∃ y, w4a.heap.size = y := ⟨_, rfl⟩
            obtain ⟨w5a, hW⟩ : ∃ z, w4a.alloc (.cells #[.int .u64 0, .int .u64 0, .slice none 0 0] 27) = z := ⟨_, rfl⟩
            have HRI := hide (HRI.out.then hbn)
            have HUX := hide (show wr.heap.size ≤ U by have := HBQ.out.size; omega)
            have HVZ := hide ((hbn.block V HVL.out).trans HVZ.out)
            have HUV := hide (show U ≠ V by have := HVL.out; omega)
            have HVL := hide (Nat.lt_of_lt_of_le HVL.out hbn.size)
            have HLL := hide (HLL.out.below hbn)
            have HRL := hide (HRL.out.below hbn)
            have HBQ := hide (HBQ.out.trans (hbn.mono HBQ.out.size))
            rw [hU, hW] at hza
            rw [hU, hW] at hsl
            rw [hW] at HRI HBQ
            try rw [hU]
            try rw [hW]
            rw [hW] at HVZ HVL
            rw [hW] at HLL HRL
            have HUZ := hide hza
            have HUL := hide hsl
            clear hza hsl hbn hW hU
            have hmade := PlayI.made HRI.out HAO.out HF.out HNN.out HUZ.out HVZ.out HLL.out HRL.out (Nat.lt_of_lt_of_le HXL.out HUX.out) (Nat.lt_of_lt_of_le HYL.out HUX.out) (Nat.lt_of_lt_of_le HXL.out HVX.out) (Nat.lt_of_lt_of_le HYL.out HVX.out) HUV.out
            unfold wrote at hmade
            have k1 := kept3 w5a U (.int .u64 (F : Int)) (.int .u64 (N : Int)) (.slice a5 m5 c5)
            have z0 := lcell_of HUZ.out 0 rfl
            have z1 := lcell_of HUZ.out 1 rfl
            have z2 := lcell_of HUZ.out 2 rfl
            have zf := lfrozen_of HUZ.out
            have hv1 := (k1.block V (fun e => HUV.out e.symm)).trans HVZ.out
            obtain ⟨ws, hws⟩ : ∃ z, ((w5a.setCell ⟨U, 0, none⟩ (.int .u64 (F : Int))).setCell ⟨U, 1, none⟩ (.int .u64 (N : Int))).setCell ⟨U, 2, none⟩ (.slice a5 m5 c5) = z := ⟨_, rfl⟩
            rw [hws] at hmade k1 hv1
            have y0 := lcell_of hv1 0 rfl
            have y1 := lcell_of hv1 1 rfl
            have y2 := lcell_of hv1 2 rfl
            have yf := lfrozen_of hv1
            have k2 := kept3 ws V (.int .u64 (F : Int)) (.int .u64 (N : Int)) (.slice a6 m6 c6)
            obtain ⟨wt, hwt⟩ : ∃ z, ((ws.setCell ⟨V, 0, none⟩ (.int .u64 (F : Int))).setCell ⟨V, 1, none⟩ (.int .u64 (N : Int))).setCell ⟨V, 2, none⟩ (.slice a6 m6 c6) = z := ⟨_, rfl⟩
            rw [hwt] at hmade k2
            have HMADE := hide hmade
            clear hmade hv1
            refine growQ_one 13 _ 2 rfl rfl (by kernel_rfl) ?_
            go_wp2
            try rw [hws]
            refine OnToQ.mk (k1.mono (fun b hb => by have := HUX.out; omega)) (Sub.refl _) ?_
            clear z0 z1 z2 zf k1 hws
            refine growQ_one 14 _ 1 rfl rfl (by kernel_rfl) ?_
            go_wp2
            try rw [hwt]
            refine OnToQ.mk (k2.mono (fun b hb => by have := HVX.out; omega)) (Sub.refl _) ?_
            clear k2 hwt
            have inh : Nonempty (GrK (fun b => b < wr.heap.size) wt) := GrK.some _ wt
            refine growQ_plain [15] 0 #[true, true, true, true, true, true, true, true, true, true, true, true, true, true, true, true] rfl (by kernel_rfl) (by kernel_rfl) ?_
            simp only [getLK, pickLK]
            repeat (go_big_quiet_step (fail))
            refine wpQuiet_nil ?_
            clear inh
            refine growQ_end (by kernel_rfl) (by kernel_rfl) ?_
            go_wp2
            go_meet
            case rel => exact ⟨U, V, _, _, _, _, _, _, rfl, rfl, rfl, HMADE⟩
      · go_wp2
        have hbn := bnew wq (.cells #[.int .u64 0, .int .u64 0, .slice none 0 0] 27)
        have hza := alloc_new wq (.cells #[.int .u64 0, .int .u64 0, .slice none 0 0] 27)
        have hsl : wq.heap.size < (wq.alloc (.cells #[.int .u64 0, .int .u64 0, .slice none 0 0] 27)).heap.size := by simp
        refine OnToQ.mk (Kept.of_below hbn (fun b hb => Nat.lt_of_lt_of_le hb HBQ.out.size)) (Sub.refl _) ?_
        obtain ⟨U, hU⟩ : ∃ y, wq.heap.size = y := ⟨_, rfl⟩
        obtain ⟨w6a, hW⟩ : ∃ z, wq.alloc (.cells #[.int .u64 0, .int .u64 0, .slice none 0 0] 27) = z := ⟨_, rfl⟩
        have HRI := hide (HRI.out.then hbn)
        have HUX := hide (show wr.heap.size ≤ U by have := HBQ.out.size; omega)
        have HBQ := hide (HBQ.out.trans (hbn.mono HBQ.out.size))
        rw [hU, hW] at hza
        rw [hU, hW] at hsl
        rw [hW] at HRI HBQ
        try rw [hU]
        try rw [hW]
        have HUZ := hide hza
        have HUL := hide hsl
        clear hza hsl hbn hW hU
        refine growQ_two 6 12 _ _ 8 rfl rfl rfl (by kernel_rfl) ?_ ?_
        · go_wp2_with fail
          refine (does_any HRI.out.led HRI.out.rl HRI.out.ok HNX.out op nm sq kd HX.out.op0 HX.out.op1 HX.out.nm0 HX.out.nm1 HX.out.kd0 HX.out.kd1).mono ?_
          rintro e w7c ⟨x, y, rfl, hlx, hry, hbn⟩
          rw [HACT.out] at hlx hry
          obtain ⟨a5, m5, c5, rfl, hmm, hlx⟩ := hlx.view
          obtain ⟨a6, m6, c6, rfl, hry⟩ := hry.view
          clear hmm
          have eF : A.abs.first = A.first := rfl
          have eN : A.abs.next = A.next := rfl
          rw [eF, eN] at hlx ⊢
          rw [HF.out, HNN.out] at hlx hry ⊢
          clear eF eN
          go_wp2
          refine OnToQ.mk (Kept.of_below hbn (fun b hb => Nat.lt_of_lt_of_le hb HBQ.out.size)) (Sub.refl _) ?_
          have HRI := hide (HRI.out.then hbn)
          have HUZ := hide ((hbn.block U HUL.out).trans HUZ.out)
          have HUL := hide (Nat.lt_of_lt_of_le HUL.out hbn.size)
          have HBQ := hide (HBQ.out.trans (hbn.mono HBQ.out.size))
          have HLL := hide hlx
          have HRL := hide hry
          clear hlx hry hbn
          have inh : Nonempty (GrK (fun b => b < wr.heap.size) w7c) := GrK.some _ w7c
          refine growQ_plain [7, 8, 9, 10] 4 #[true, true, true, true, true, true, true, true, true, true, true, true, false, false, false, false] rfl (by kernel_rfl) (by kernel_rfl) ?_
          simp only [getLK, pickLK]
          repeat (go_big_quiet_step (fail))
          refine wpQuiet_nil ?_
          clear inh
          refine growQ_one 12 _ 3 rfl rfl (by kernel_rfl) ?_
          · go_wp2
            have hbn := bnew w7c (.cells #[.int .u64 0, .int .u64 0, .slice none 0 0] 31)
            have hza := alloc_new w7c (.cells #[.int .u64 0, .int .u64 0, .slice none 0 0] 31)
            have hsl : w7c.heap.size < (w7c.alloc (.cells #[.int .u64 0, .int .u64 0, .slice none 0 0] 31)).heap.size := by simp
            refine OnToQ.mk (Kept.of_below hbn (fun b hb => Nat.lt_of_lt_of_le hb HBQ.out.size)) (Sub.refl _) ?_
            obtain ⟨V, hV⟩ : ∃ y, w7c.heap.size = y := ⟨_, rfl⟩
            obtain ⟨w8a, hW⟩ : ∃ z, w7c.alloc (.cells #[.int .u64 0, .int .u64 0, .slice none 0 0] 31) = z := ⟨_, rfl⟩
            have HRI := hide (HRI.out.then hbn)
            have HVX := hide (show wr.heap.size ≤ V by have := HBQ.out.size; omega)
            have HUZ := hide ((hbn.block U HUL.out).trans HUZ.out)
            have HUV := hide (show U ≠ V by have := HUL.out; omega)
            have HUL := hide (Nat.lt_of_lt_of_le HUL.out hbn.size)
            have HLL := hide (HLL.out.below hbn)
            have HRL := hide (HRL.out.below hbn)
            have HBQ := hide (HBQ.out.trans (hbn.mono HBQ.out.size))
            rw [hV, hW] at hza
            rw [hV, hW] at hsl
            rw [hW] at HRI HBQ
            try rw [hV]
            try rw [hW]
            rw [hW] at HUZ HUL
            rw [hW] at HLL HRL
            have HVZ := hide hza
            have HVL := hide hsl
            clear hza hsl hbn hW hV
            have hmade := PlayI.made HRI.out HAO.out HF.out HNN.out HUZ.out HVZ.out HLL.out HRL.out (Nat.lt_of_lt_of_le HXL.out HUX.out) (Nat.lt_of_lt_of_le HYL.out HUX.out) (Nat.lt_of_lt_of_le HXL.out HVX.out) (Nat.lt_of_lt_of_le HYL.out HVX.out) HUV.out
            unfold wrote at hmade
            have k1 := kept3 w8a U (.int .u64 (F : Int)) (.int .u64 (N : Int)) (.slice a5 m5 c5)
            have z0 := lcell_of HUZ.out 0 rfl
            have z1 := lcell_of HUZ.out 1 rfl
            have z2 := lcell_of HUZ.out 2 rfl
            have zf := lfrozen_of HUZ.out
            have hv1 := (k1.block V (fun e => HUV.out e.symm)).trans HVZ.out
            obtain ⟨ws, hws⟩ : ∃ z, ((w8a.setCell ⟨U, 0, none⟩ (.int .u64 (F : Int))).setCell ⟨U, 1, none⟩ (.int .u64 (N : Int))).setCell ⟨U, 2, none⟩ (.slice a5 m5 c5) = z := ⟨_, rfl⟩
            rw [hws] at hmade k1 hv1
            have y0 := lcell_of hv1 0 rfl
            have y1 := lcell_of hv1 1 rfl
            have y2 := lcell_of hv1 2 rfl
            have yf := lfrozen_of hv1
            have k2 := kept3 ws V (.int .u64 (F : Int)) (.int .u64 (N : Int)) (.slice a6 m6 c6)
            obtain ⟨wt, hwt⟩ : ∃ z, ((ws.setCell ⟨V, 0, none⟩ (.int .u64 (F : Int))).setCell ⟨V, 1, none⟩ (.int .u64 (N : Int))).setCell ⟨V, 2, none⟩ (.slice a6 m6 c6) = z := ⟨_, rfl⟩
            rw [hwt] at hmade k2
            have HMADE := hide hmade
            clear hmade hv1
            refine growQ_one 13 _ 2 rfl rfl (by kernel_rfl) ?_
            go_wp2
            try rw [hws]
            refine OnToQ.mk (k1.mono (fun b hb => by have := HUX.out; omega)) (Sub.refl _) ?_
            clear z0 z1 z2 zf k1 hws
            refine growQ_one 14 _ 1 rfl rfl (by kernel_rfl) ?_
            go_wp2
            try rw [hwt]
            refine OnToQ.mk (k2.mono (fun b hb => by have := HVX.out; omega)) (Sub.refl _) ?_
            clear k2 hwt
            have inh : Nonempty (GrK (fun b => b < wr.heap.size) wt) := GrK.some _ wt
            refine growQ_plain [15] 0 #[true, true, true, true, true, true, true, true, true, true, true, true, true, true, true, true] rfl (by kernel_rfl) (by kernel_rfl) ?_
            simp only [getLK, pickLK]
            repeat (go_big_quiet_step (fail))
            refine wpQuiet_nil ?_
            clear inh
            refine growQ_end (by kernel_rfl) (by kernel_rfl) ?_
            go_wp2
            go_meet
            case rel => exact ⟨U, V, _, _, _, _, _, _, rfl, rfl, rfl, HMADE⟩
        · go_wp2
          have hbn := bnew w6a (.cells #[.int .u64 0, .int .u64 0, .slice none 0 0] 31)
          have hza := alloc_new w6a (.cells #[.int .u64 0, .int .u64 0, .slice none 0 0] 31)
          have hsl : w6a.heap.size < (w6a.alloc (.cells #[.int .u64 0, .int .u64 0, .slice none 0 0] 31)).heap.size := by simp
          refine OnToQ.mk (Kept.of_below hbn (fun b hb => Nat.lt_of_lt_of_le hb HBQ.out.size)) (Sub.refl _) ?_
          obtain ⟨V, hV⟩ : ∃ y, w6a.heap.size = y := ⟨_, rfl⟩
          obtain ⟨w9a, hW⟩ : ∃ z, w6a.alloc (.cells #[.int .u64 0, .int .u64 0, .slice none 0 0] 31) = z := ⟨_, rfl⟩
          have HRI := hide (HRI.out.then hbn)
          have HVX := hide (show wr.heap.size ≤ V by have := HBQ.out.size; omega)
          have HUZ := hide ((hbn.block U HUL.out).trans HUZ.out)
          have HUV := hide (show U ≠ V by have := HUL.out; omega)
          have HUL := hide (Nat.lt_of_lt_of_le HUL.out hbn.size)
          have HBQ := hide (HBQ.out.trans (hbn.mono HBQ.out.size))
          rw [hV, hW] at hza
          rw [hV, hW] at hsl
          rw [hW] at HRI HBQ
          try rw [hV]
          try rw [hW]
          rw [hW] at HUZ HUL
          have HVZ := hide hza
          have HVL := hide hsl
          clear hza hsl hbn hW hV
          refine growQ_one 6 _ 7 rfl rfl (by kernel_rfl) ?_
          · go_wp2_with fail
            refine (does_any HRI.out.led HRI.out.rl HRI.out.ok HNX.out op nm sq kd HX.out.op0 HX.out.op1 HX.out.nm0 HX.out.nm1 HX.out.kd0 HX.out.kd1).mono ?_
            rintro e w10c ⟨x, y, rfl, hlx, hry, hbn⟩
            rw [HACT.out] at hlx hry
            obtain ⟨a5, m5, c5, rfl, hmm, hlx⟩ := hlx.view
            obtain ⟨a6, m6, c6, rfl, hry⟩ := hry.view
            clear hmm
            have eF : A.abs.first = A.first := rfl
            have eN : A.abs.next = A.next := rfl
            rw [eF, eN] at hlx ⊢
            rw [HF.out, HNN.out] at hlx hry ⊢
            clear eF eN
            go_wp2
            refine OnToQ.mk (Kept.of_below hbn (fun b hb => Nat.lt_of_lt_of_le hb HBQ.out.size)) (Sub.refl _) ?_
            have HRI := hide (HRI.out.then hbn)
            have HUZ := hide ((hbn.block U HUL.out).trans HUZ.out)
            have HUL := hide (Nat.lt_of_lt_of_le HUL.out hbn.size)
            have HVZ := hide ((hbn.block V HVL.out).trans HVZ.out)
            have HVL := hide (Nat.lt_of_lt_of_le HVL.out hbn.size)
            have HBQ := hide (HBQ.out.trans (hbn.mono HBQ.out.size))
            have HLL := hide hlx
            have HRL := hide hry
            clear hlx hry hbn
            have inh : Nonempty (GrK (fun b => b < wr.heap.size) w10c) := GrK.some _ w10c
            refine growQ_plain [7, 8, 9, 10] 3 #[true, true, true, true, true, true, true, true, true, true, true, true, true, false, false, false] rfl (by kernel_rfl) (by kernel_rfl) ?_
            simp only [getLK, pickLK]
            repeat (go_big_quiet_step (fail))
            refine wpQuiet_nil ?_
            clear inh
            have hmade := PlayI.made HRI.out HAO.out HF.out HNN.out HUZ.out HVZ.out HLL.out HRL.out (Nat.lt_of_lt_of_le HXL.out HUX.out) (Nat.lt_of_lt_of_le HYL.out HUX.out) (Nat.lt_of_lt_of_le HXL.out HVX.out) (Nat.lt_of_lt_of_le HYL.out HVX.out) HUV.out
            unfold wrote at hmade
            have k1 := kept3 w10c U (.int .u64 (F : Int)) (.int .u64 (N : Int)) (.slice a5 m5 c5)
            have z0 := lcell_of HUZ.out 0 rfl
            have z1 := lcell_of HUZ.out 1 rfl
            have z2 := lcell_of HUZ.out 2 rfl
            have zf := lfrozen_of HUZ.out
            have hv1 := (k1.block V (fun e => HUV.out e.symm)).trans HVZ.out
            obtain ⟨ws, hws⟩ : ∃ z, ((w10c.setCell ⟨U, 0, none⟩ (.int .u64 (F : Int))).setCell ⟨U, 1, none⟩ (.int .u64 (N : Int))).setCell ⟨U, 2, none⟩ (.slice a5 m5 c5) = z := ⟨_, rfl⟩
            rw [hws] at hmade k1 hv1
            have y0 := lcell_of hv1 0 rfl
            have y1 := lcell_of hv1 1 rfl
            have y2 := lcell_of hv1 2 rfl
            have yf := lfrozen_of hv1
            have k2 := kept3 ws V (.int .u64 (F : Int)) (.int .u64 (N : Int)) (.slice a6 m6 c6)
            obtain ⟨wt, hwt⟩ : ∃ z, ((ws.setCell ⟨V, 0, none⟩ (.int .u64 (F : Int))).setCell ⟨V, 1, none⟩ (.int .u64 (N : Int))).setCell ⟨V, 2, none⟩ (.slice a6 m6 c6) = z := ⟨_, rfl⟩
            rw [hwt] at hmade k2
            have HMADE := hide hmade
            clear hmade hv1
            refine growQ_one 13 _ 2 rfl rfl (by kernel_rfl) ?_
            go_wp2
            try rw [hws]
            refine OnToQ.mk (k1.mono (fun b hb => by have := HUX.out; omega)) (Sub.refl _) ?_
            clear z0 z1 z2 zf k1 hws
            refine growQ_one 14 _ 1 rfl rfl (by kernel_rfl) ?_
            go_wp2
            try rw [hwt]
            refine OnToQ.mk (k2.mono (fun b hb => by have := HVX.out; omega)) (Sub.refl _) ?_
            clear k2 hwt
            have inh : Nonempty (GrK (fun b => b < wr.heap.size) wt) := GrK.some _ wt
            refine growQ_plain [15] 0 #[true, true, true, true, true, true, true, true, true, true, true, true, true, true, true, true] rfl (by kernel_rfl) (by kernel_rfl) ?_
            simp only [getLK, pickLK]
            repeat (go_big_quiet_step (fail))
            refine wpQuiet_nil ?_
            clear inh
            refine growQ_end (by kernel_rfl) (by kernel_rfl) ?_
            go_wp2
            go_meet
            case rel => exact ⟨U, V, _, _, _, _, _, _, rfl, rfl, rfl, HMADE⟩
      · go_wp2
        have hbn := bnew wq (.cells #[.int .u64 0, .int .u64 0, .slice none 0 0] 31)
        have hza := alloc_new wq (.cells #[.int .u64 0, .int .u64 0, .slice none 0 0] 31)
        have hsl : wq.heap.size < (wq.alloc (.cells #[.int .u64 0, .int .u64 0, .slice none 0 0] 31)).heap.size := by simp
        refine OnToQ.mk (Kept.of_below hbn (fun b hb => Nat.lt_of_lt_of_le hb HBQ.out.size)) (Sub.refl _) ?_
        obtain ⟨V, hV⟩ : ∃ y, wq.heap.size = y := ⟨_, rfl⟩
        obtain ⟨w11a, hW⟩ : ∃ z, wq.alloc (.cells #[.int .u64 0, .int .u64 0, .slice none 0 0] 31) = z := ⟨_, rfl⟩
        have HRI := hide (HRI.out.then hbn)
        have HVX := hide (show wr.heap.size ≤ V by have := HBQ.out.size; omega)
        have HBQ := hide (HBQ.out.trans (hbn.mono HBQ.out.size))
        rw [hV, hW] at hza
        rw [hV, hW] at hsl
        rw [hW] at HRI HBQ
        try rw [hV]
        try rw [hW]
        have HVZ := hide hza
        have HVL := hide hsl
        clear hza hsl hbn hW hV
        refine growQ_two 6 11 _ _ 8 rfl rfl rfl (by kernel_rfl) ?_ ?_
        · go_wp2_with fail
          refine (does_any HRI.out.led HRI.out.rl HRI.out.ok HNX.out op nm sq kd HX.out.op0 HX.out.op1 HX.out.nm0 HX.out.nm1 HX.out.kd0 HX.out.kd1).mono ?_
          rintro e w12c ⟨x, y, rfl, hlx, hry, hbn⟩
          rw [HACT.out] at hlx hry
          obtain ⟨a5, m5, c5, rfl, hmm, hlx⟩ := hlx.view
          obtain ⟨a6, m6, c6, rfl, hry⟩ := hry.view
          clear hmm
          have eF : A.abs.first = A.first := rfl
          have eN : A.abs.next = A.next := rfl
          rw [eF, eN] at hlx ⊢
          rw [HF.out, HNN.out] at hlx hry ⊢
          clear eF eN
          go_wp2
          refine OnToQ.mk (Kept.of_below hbn (fun b hb => Nat.lt_of_lt_of_le hb HBQ.out.size)) (Sub.refl _) ?_
          have HRI := hide (HRI.out.then hbn)
          have HVZ := hide ((hbn.block V HVL.out).trans HVZ.out)
          have HVL := hide (Nat.lt_of_lt_of_le HVL.out hbn.size)
          have HBQ := hide (HBQ.out.trans (hbn.mono HBQ.out.size))
          have HLL := hide hlx
          have HRL := hide hry
          clear hlx hry hbn
          have inh : Nonempty (GrK (fun b => b < wr.heap.size) w12c) := GrK.some _ w12c
          refine growQ_plain [7, 8, 9, 10] 4 #[true, true, true, true, true, true, true, true, true, true, true, false, true, false, false, false] rfl (by kernel_rfl) (by kernel_rfl) ?_
          simp only [getLK, pickLK]
          repeat (go_big_quiet_step (fail))
          refine wpQuiet_nil ?_
          clear inh
          refine growQ_one 11 _ 3 rfl rfl (by kernel_rfl) ?_
          · go_wp2
            have hbn := bnew w12c (.cells #[.int .u64 0, .int .u64 0, .slice none 0 0] 27)
            have hza := alloc_new w12c (.cells #[.int .u64 0, .int .u64 0, .slice none 0 0] 27)
            have hsl : w12c.heap.size < (w12c.alloc (.cells #[.int .u64 0, .int .u64 0, .slice none 0 0] 27)).heap.size := by simp
            refine OnToQ.mk (Kept.of_below hbn (fun b hb => Nat.lt_of_lt_of_le hb HBQ.out.size)) (Sub.refl _) ?_
            obtain ⟨U, hU⟩ : ∃ y, w12c.heap.size = y := ⟨_, rfl⟩
            obtain ⟨w13a, hW⟩ : ∃ z, w12c.alloc (.cells #[.int .u64 0, .int .u64 0, .slice none 0 0] 27) = z := ⟨_, rfl⟩
            have HRI := hide (HRI.out.then hbn)
            have HUX := hide (show wr.heap.size ≤ U by have := HBQ.out.size; omega)
            have HVZ := hide ((hbn.block V HVL.out).trans HVZ.out)
            have HUV := hide (show U ≠ V by have := HVL.out; omega)
            have HVL := hide (Nat.lt_of_lt_of_le HVL.out hbn.size)
            have HLL := hide (HLL.out.below hbn)
            have HRL := hide (HRL.out.below hbn)
            have HBQ := hide (HBQ.out.trans (hbn.mono HBQ.out.size))
            rw [hU, hW] at hza
            rw [hU, hW] at hsl
            rw [hW] at HRI HBQ
            try rw [hU]
            try rw [hW]
            rw [hW] at HVZ HVL
            rw [hW] at HLL HRL
            have HUZ := hide hza
            have HUL := hide hsl
            clear hza hsl hbn hW hU
            have hmade := PlayI.made HRI.out HAO.out HF.out HNN.out HUZ.out HVZ.out HLL.out HRL.out (Nat.lt_of_lt_of_le HXL.out HUX.out) (Nat.lt_of_lt_of_le HYL.out HUX.out) (Nat.lt_of_lt_of_le HXL.out HVX.out) (Nat.lt_of_lt_of_le HYL.out HVX.out) HUV.out
            unfold wrote at hmade
            have k1 := kept3 w13a U (.int .u64 (F : Int)) (.int .u64 (N : Int)) (.slice a5 m5 c5)
            have z0 := lcell_of HUZ.out 0 rfl
            have z1 := lcell_of HUZ.out 1 rfl
            have z2 := lcell_of HUZ.out 2 rfl
            have zf := lfrozen_of HUZ.out
            have hv1 := (k1.block V (fun e => HUV.out e.symm)).trans HVZ.out
            obtain ⟨ws, hws⟩ : ∃ z, ((w13a.setCell ⟨U, 0, none⟩ (.int .u64 (F : Int))).setCell ⟨U, 1, none⟩ (.int .u64 (N : Int))).setCell ⟨U, 2, none⟩ (.slice a5 m5 c5) = z := ⟨_, rfl⟩
            rw [hws] at hmade k1 hv1
            have y0 := lcell_of hv1 0 rfl
            have y1 := lcell_of hv1 1 rfl
            have y2 := lcell_of hv1 2 rfl
            have yf := lfrozen_of hv1
            have k2 := kept3 ws V (.int .u64 (F : Int)) (.int .u64 (N : Int)) (.slice a6 m6 c6)
            obtain ⟨wt, hwt⟩ : ∃ z, ((ws.setCell ⟨V, 0, none⟩ (.int .u64 (F : Int))).setCell ⟨V, 1, none⟩ (.int .u64 (N : Int))).setCell ⟨V, 2, none⟩ (.slice a6 m6 c6) = z := ⟨_, rfl⟩
            rw [hwt] at hmade k2
            have HMADE := hide hmade
            clear hmade hv1
            refine growQ_one 13 _ 2 rfl rfl (by kernel_rfl) ?_
            go_wp2
            try rw [hws]
            refine OnToQ.mk (k1.mono (fun b hb => by have := HUX.out; omega)) (Sub.refl _) ?_
            clear z0 z1 z2 zf k1 hws
            refine growQ_one 14 _ 1 rfl rfl (by kernel_rfl) ?_
            go_wp2
            try rw [hwt]
            refine OnToQ.mk (k2.mono (fun b hb => by have := HVX.out; omega)) (Sub.refl _) ?_
            clear k2 hwt
            have inh : Nonempty (GrK (fun b => b < wr.heap.size) wt) := GrK.some _ wt
            refine growQ_plain [15] 0 #[true, true, true, true, true, true, true, true, true, true, true, true, true, true, true, true] rfl (by kernel_rfl) (by kernel_rfl) ?_
            simp only [getLK, pickLK]
            repeat (go_big_quiet_step (fail))
            refine wpQuiet_nil ?_
            clear inh
            refine growQ_end (by kernel_rfl) (by kernel_rfl) ?_
            go_wp2
            go_meet
            case rel => exact ⟨U, V, _, _, _, _, _, _, rfl, rfl, rfl, HMADE⟩
        · go_wp2
          have hbn := bnew w11a (.cells #[.int .u64 0, .int .u64 0, .slice none 0 0] 27)
          have hza := alloc_new w11a (.cells #[.int .u64 0, .int .u64 0, .slice none 0 0] 27)
          have hsl : w11a.heap.size < (w11a.alloc (.cells #[.int .u64 0, .int .u64 0, .slice none 0 0] 27)).heap.size := by simp
          refine OnToQ.mk (Kept.of_below hbn (fun b hb => Nat.lt_of_lt_of_le hb HBQ.out.size)) (Sub.refl _) ?_
          obtain ⟨U, hU⟩ : ∃ y, w11a.heap.size = y := ⟨_, rfl⟩
          obtain ⟨w14a, hW⟩ : ∃ z, w11a.alloc (.cells #[.int .u64 0, .int .u64 0, .slice none 0 0] 27) = z := ⟨_, rfl⟩
          have HRI := hide (HRI.out.then hbn)
          have HUX := hide (show wr.heap.size ≤ U by have := HBQ.out.size; omega)
          have HVZ := hide ((hbn.block V HVL.out).trans HVZ.out)
          have HUV := hide (show U ≠ V by have := HVL.out; omega)
          have HVL := hide (Nat.lt_of_lt_of_le HVL.out hbn.size)
          have HBQ := hide (HBQ.out.trans (hbn.mono HBQ.out.size))
          rw [hU, hW] at hza
          rw [hU, hW] at hsl
          rw [hW] at HRI HBQ
          try rw [hU]
          try rw [hW]
          rw [hW] at HVZ HVL
          have HUZ := hide hza
          have HUL := hide hsl
          clear hza hsl hbn hW hU
          refine growQ_one 6 _ 7 rfl rfl (by kernel_rfl) ?_
          · go_wp2_with fail
            refine (does_any HRI.out.led HRI.out.rl HRI.out.ok HNX.out op nm sq kd HX.out.op0 HX.out.op1 HX.out.nm0 HX.out.nm1 HX.out.kd0 HX.out.kd1).mono ?_
            rintro e w15c ⟨x, y, rfl, hlx, hry, hbn⟩
            rw [HACT.out] at hlx hry
            obtain ⟨a5, m5, c5, rfl, hmm, hlx⟩ := hlx.view
            obtain ⟨a6, m6, c6, rfl, hry⟩ := hry.view
            clear hmm
            have eF : A.abs.first = A.first := rfl
            have eN : A.abs.next = A.next := rfl
            rw [eF, eN] at hlx ⊢
            rw [HF.out, HNN.out] at hlx hry ⊢
            clear eF eN
            go_wp2
            refine OnToQ.mk (Kept.of_below hbn (fun b hb => Nat.lt_of_lt_of_le hb HBQ.out.size)) (Sub.refl _) ?_
            have HRI := hide (HRI.out.then hbn)
            have HUZ := hide ((hbn.block U HUL.out).trans HUZ.out)
            have HUL := hide (Nat.lt_of_lt_of_le HUL.out hbn.size)
            have HVZ := hide ((hbn.block V HVL.out).trans HVZ.out)
            have HVL := hide (Nat.lt_of_lt_of_le HVL.out hbn.size)
            have HBQ := hide (HBQ.out.trans (hbn.mono HBQ.out.size))
            have HLL := hide hlx
            have HRL := hide hry
            clear hlx hry hbn
            have inh : Nonempty (GrK (fun b => b < wr.heap.size) w15c) := GrK.some _ w15c
            refine growQ_plain [7, 8, 9, 10] 3 #[true, true, true, true, true, true, true, true, true, true, true, true, true, false, false, false] rfl (by kernel_rfl) (by kernel_rfl) ?_
            simp only [getLK, pickLK]
            repeat (go_big_quiet_step (fail))
            refine wpQuiet_nil ?_
            clear inh
            have hmade := PlayI.made HRI.out HAO.out HF.out HNN.out HUZ.out HVZ.out HLL.out HRL.out (Nat.lt_of_lt_of_le HXL.out HUX.out) (Nat.lt_of_lt_of_le HYL.out HUX.out) (Nat.lt_of_lt_of_le HXL.out HVX.out) (Nat.lt_of_lt_of_le HYL.out HVX.out) HUV.out
            unfold wrote at hmade
            have k1 := kept3 w15c U (.int .u64 (F : Int)) (.int .u64 (N : Int)) (.slice a5 m5 c5)
            have z0 := lcell_of HUZ.out 0 rfl
            have z1 := lcell_of HUZ.out 1 rfl
            have z2 := lcell_of HUZ.out 2 rfl
            have zf := lfrozen_of HUZ.out
            have hv1 := (k1.block V (fun e => HUV.out e.symm)).trans HVZ.out
            obtain ⟨ws, hws⟩ : ∃ z, ((w15c.setCell ⟨U, 0, none⟩ (.int .u64 (F : Int))).setCell ⟨U, 1, none⟩ (.int .u64 (N : Int))).setCell ⟨U, 2, none⟩ (.slice a5 m5 c5) = z := ⟨_, rfl⟩
            rw [hws] at hmade k1 hv1
            have y0 := lcell_of hv1 0 rfl
            have y1 := lcell_of hv1 1 rfl
            have y2 := lcell_of hv1 2 rfl
            have yf := lfrozen_of hv1
            have k2 := kept3 ws V (.int .u64 (F : Int)) (.int .u64 (N : Int)) (.slice a6 m6 c6)
            obtain ⟨wt, hwt⟩ : ∃ z, ((ws.setCell ⟨V, 0, none⟩ (.int .u64 (F : Int))).setCell ⟨V, 1, none⟩ (.int .u64 (N : Int))).setCell ⟨V, 2, none⟩ (.slice a6 m6 c6) = z := ⟨_, rfl⟩
            rw [hwt] at hmade k2
            have HMADE := hide hmade
            clear hmade hv1
            refine growQ_one 13 _ 2 rfl rfl (by kernel_rfl) ?_
            go_wp2
            try rw [hws]
            refine OnToQ.mk (k1.mono (fun b hb => by have := HUX.out; omega)) (Sub.refl _) ?_
            clear z0 z1 z2 zf k1 hws
            refine growQ_one 14 _ 1 rfl rfl (by kernel_rfl) ?_
            go_wp2
            try rw [hwt]
            refine OnToQ.mk (k2.mono (fun b hb => by have := HVX.out; omega)) (Sub.refl _) ?_
            clear k2 hwt
            have inh : Nonempty (GrK (fun b => b < wr.heap.size) wt) := GrK.some _ wt
            refine growQ_plain [15] 0 #[true, true, true, true, true, true, true, true, true, true, true, true, true, true, true, true] rfl (by kernel_rfl) (by kernel_rfl) ?_
            simp only [getLK, pickLK]
            repeat (go_big_quiet_step (fail))
            refine wpQuiet_nil ?_
            clear inh
            refine growQ_end (by kernel_rfl) (by kernel_rfl) ?_
            go_wp2
            go_meet
            case rel => exact ⟨U, V, _, _, _, _, _, _, rfl, rfl, rfl, HMADE⟩
    case rest =>
    obtain ⟨U, V, b1, n1, d1, b2, n2, d2, rfl, rfl, rfl, HPI⟩ := hcut
    obtain ⟨w4, hwn⟩ : ∃ W, wc = W := ⟨_, rfl⟩
    rw [hwn] at HPI ⊢
    clear hwn
    have HFA := hide (Ldg.abs_fit HAO.out)
    have hU := HPI.out.u
    have hV := HPI.out.v
    rw [HF.out, HNN.out] at hU hV
    have HU := hide hU
    have HV := hide hV
    clear hU hV
    have x0 := lcell_of HU.out.cell 0 rfl
    have x1 := lcell_of HU.out.cell 1 rfl
    have x2 := lcell_of HU.out.cell 2 rfl
    go_wp2_with fail
    clear x0 x1 x2
    refine (right_any HU.out.led (by have := HFA.out.many; omega) (fun d hd => (HFA.out.each d hd).small)).mono ?_
    rintro e w5 ⟨rfl, hb5⟩
    rw [Ldg.abs_right HAO.out]
    have HPI := hide (HPI.out.then hb5)
    have HU := hide (HU.out.then hb5)
    have HV := hide (HV.out.then hb5)
    clear hb5
    have hov := HPI.out.over HAO.out HAB.out
    unfold wrote at hov
    rw [HF.out, HNN.out] at hov
    have k1 := kept3 w5 X (.int .u64 (F : Int)) (.int .u64 (N : Int)) (.slice b1 n1 d1)
    have hv1 := (k1.block V (by have := HPI.out.xv; omega)).trans HV.out.cell
    have hy1 := (k1.block Y (by have := HPI.out.ri.xy; omega)).trans HPI.out.ri.y
    have u0 := lcell_of HU.out.cell 0 rfl
    have u1 := lcell_of HU.out.cell 1 rfl
    have u2 := lcell_of HU.out.cell 2 rfl
    have x0 := lcell_of HPI.out.ri.x 0 rfl
    have x1 := lcell_of HPI.out.ri.x 1 rfl
    have x2 := lcell_of HPI.out.ri.x 2 rfl
    have xf := lfrozen_of HPI.out.ri.x
    obtain ⟨ws, hws⟩ : ∃ z, ((w5.setCell ⟨X, 0, none⟩ (.int .u64 (F : Int))).setCell ⟨X, 1, none⟩ (.int .u64 (N : Int))).setCell ⟨X, 2, none⟩ (.slice b1 n1 d1) = z := ⟨_, rfl⟩
    rw [hws] at hov hv1 hy1
    have v0 := lcell_of hv1 0 rfl
    have v1 := lcell_of hv1 1 rfl
    have v2 := lcell_of hv1 2 rfl
    have y0 := lcell_of hy1 0 rfl
    have y1 := lcell_of hy1 1 rfl
    have y2 := lcell_of hy1 2 rfl
    have yf := lfrozen_of hy1
    obtain ⟨wt, hwt⟩ : ∃ z, ((ws.setCell ⟨Y, 0, none⟩ (.int .u64 (F : Int))).setCell ⟨Y, 1, none⟩ (.int .u64 (N : Int))).setCell ⟨Y, 2, none⟩ (.slice b2 n2 d2) = z := ⟨_, rfl⟩
    rw [hwt] at hov
    have HRI := hide hov
    clear hov hv1 hy1 k1
    go_upto_region 13 with fail
    try rw [hws]
    clear u0 u1 u2 x0 x1 x2 xf
    go_upto_region 14 with fail
    try rw [hwt]
    clear v0 v1 v2 y0 y1 y2 yf hws hwt
    go_wp2_with fail
    refine (lname_any a1 _ h1.1 h1.2).mono ?_
    rintro e w6 ⟨rfl, hb6⟩
    rw [HN.out]
    have HRI := hide (HRI.out.then hb6)
    clear hb6
    have x0 := lcell_of HRI.out.x 0 rfl
    have x1 := lcell_of HRI.out.x 1 rfl
    have x2 := lcell_of HRI.out.x 2 rfl
    go_wp2_with fail
    clear x0 x1 x2
    refine (find_any HRI.out.led HFA.out n).mono ?_
    rintro e w7 hfd
    obtain ⟨fn, fs, fl, fa, fm, fc, fk, fe, fr, isb, rfl, hb7, hfi⟩ := find_cases hfd
    have HFI := hide hfi
    have HRI := hide (HRI.out.then hb7)
    clear hfd hb7 hfi
    have bD := bnew w7 (.cells #[.string fn, .int .u64 (fs : Int), .int .u64 (fl : Int), .slice fa fm fc, .int .u64 (fk : Int), .int .u64 (fe : Int), .int .u64 (fr : Int)] 41)
    have cD := alloc_new w7 (.cells #[.string fn, .int .u64 (fs : Int), .int .u64 (fl : Int), .slice fa fm fc, .int .u64 (fk : Int), .int .u64 (fe : Int), .int .u64 (fr : Int)] 41)
    have hyl : w7.heap.size < (w7.alloc (.cells #[.string fn, .int .u64 (fs : Int), .int .u64 (fl : Int), .slice fa fm fc, .int .u64 (fk : Int), .int .u64 (fe : Int), .int .u64 (fr : Int)] 41)).heap.size := by simp
    have HRI := hide (HRI.out.then bD)
    obtain ⟨Y1, hY1⟩ : ∃ y, w7.heap.size = y := ⟨_, rfl⟩
    obtain ⟨w8, hw8⟩ : ∃ W, w7.alloc (.cells #[.string fn, .int .u64 (fs : Int), .int .u64 (fl : Int), .slice fa fm fc, .int .u64 (fk : Int), .int .u64 (fe : Int), .int .u64 (fr : Int)] 41) = W := ⟨_, rfl⟩
    rw [hY1, hw8] at cD hyl
    rw [hw8] at HRI
    have CD := hide cD
    have HYL1 := hide hyl
    clear bD cD hyl
    go_upto_region 16 with fail
    try rw [hw8]
    try rw [hY1]
    clear hw8 hY1
    have HXL := hide (show X < w8.heap.size by have := HRI.out.xy; have := HRI.out.sz; omega)
    have HYL := hide (show Y < w8.heap.size from HRI.out.sz)
    obtain ⟨p, hp⟩ : ∃ p, A.pend n = p := ⟨_, rfl⟩
    have HP := hide hp
    obtain ⟨lp, hlp⟩ : ∃ x, p.length = x := ⟨_, rfl⟩
    have hlp2 : lp ≤ 10000000 := by rw [← hlp, ← hp]; exact Ldg.pend_len HAO.out n
    have HLP := hide hlp
    clear hp hlp
    refine wp_region_growK (fun b => b < w8.heap.size) [([0, 1, 3, 4], 2), ([], 5), ([], 6), ([7, 8, 9, 10, 11, 13, 14, 15], 12), ([], 16), ([17, 18, 19, 20, 22], 21), ([], 23)] [24, 25] [] (by kernel_rfl) (by kernel_rfl) (by kernel_rfl) (by kernel_rfl) ?_
    intro wq hbq
    simp only [stagesOfK, getLK, pickLK]
    have HSQ := hide hbq.size
    have HRI := hide (HRI.out.then hbq)
    have HCDB := hide ((hbq.block _ HYL1.out).trans CD.out)
    clear hbq
    have inh : Nonempty (GrK (fun b => b < w8.heap.size) wq) := GrK.some _ wq
    have x0 := fun z : GrK (fun b => b < w8.heap.size) wq => z.cell (a := ⟨X, 0, none⟩) HXL.out (lcell_of HRI.out.x 0 rfl)
    have x1 := fun z : GrK (fun b => b < w8.heap.size) wq => z.cell (a := ⟨X, 1, none⟩) HXL.out (lcell_of HRI.out.x 1 rfl)
    have x2 := fun z : GrK (fun b => b < w8.heap.size) wq => z.cell (a := ⟨X, 2, none⟩) HXL.out (lcell_of HRI.out.x 2 rfl)
    have y0 := fun z : GrK (fun b => b < w8.heap.size) wq => z.cell (a := ⟨Y, 0, none⟩) HYL.out (lcell_of HRI.out.y 0 rfl)
    have y1 := fun z : GrK (fun b => b < w8.heap.size) wq => z.cell (a := ⟨Y, 1, none⟩) HYL.out (lcell_of HRI.out.y 1 rfl)
    have y2 := fun z : GrK (fun b => b < w8.heap.size) wq => z.cell (a := ⟨Y, 2, none⟩) HYL.out (lcell_of HRI.out.y 2 rfl)
    refine wpG_stageK ?_
    repeat (go_big_quiet_step (fail))
    refine wpQuiet_nil ?_
    clear x0 x1 x2 y0 y1 y2 inh
    go_wp2_with fail
    refine (pending_any HRI.out.led HFA.out (Ldg.abs_right HAO.out) n).mono ?_
    rintro e w9 ⟨pv, rfl, ho, hb9⟩
    rw [Ldg.abs_pend HAO.out, HP.out] at ho
    obtain ⟨ap, cp, rfl, _, _, hu⟩ := ho.sl
    rw [HLP.out]
    have HU1 := hide hu.up
    clear ho hu
    have hkz : Kept (fun b => b < w8.heap.size) wq w9 := Kept.of_below hb9 (fun q hq => Nat.lt_of_lt_of_le hq HSQ.out)
    have HRI := hide (HRI.out.then hb9)
    have HCDB := hide ((hb9.block _ (Nat.lt_of_lt_of_le HYL1.out HSQ.out)).trans HCDB.out)
    have HSQ := hide (Nat.le_trans HSQ.out hb9.size)
    clear hb9
    go_wp2
    refine OnToK.mk hkz (Sub.refl _) ?_
    clear hkz
    refine wpG_stageK (wpQuiet_nil ?_)
    go_wp2_with fail
    refine (rpending_any HRI.out.rl HAO.out n).mono ?_
    rintro e w10 ⟨pv2, rfl, ho, hb10⟩
    rw [HP.out] at ho
    obtain ⟨aq, cq, rfl, _, _, hu⟩ := ho.sl
    rw [HLP.out]
    have HU1 := hide (HU1.out.later hb10)
    have HU2 := hide hu.up
    clear ho hu
    have hkz : Kept (fun b => b < w8.heap.size) w9 w10 := Kept.of_below hb10 (fun q hq => Nat.lt_of_lt_of_le hq HSQ.out)
    have HRI := hide (HRI.out.then hb10)
    have HCDB := hide ((hb10.block _ (Nat.lt_of_lt_of_le HYL1.out HSQ.out)).trans HCDB.out)
    have HSQ := hide (Nat.le_trans HSQ.out hb10.size)
    clear hb10
    go_wp2
    refine OnToK.mk hkz (Sub.refl _) ?_
    clear hkz
    refine wpG_stageK (wpQuiet_nil ?_)
    go_wp2_with fail
    refine (usame_yes HU1.out HU2.out (by rw [HLP.out]; omega) HLP.out.symm).mono ?_
    rintro e w11 ⟨rfl, hb11⟩
    have hkz : Kept (fun b => b < w8.heap.size) w10 w11 := Kept.of_below hb11 (fun q hq => Nat.lt_of_lt_of_le hq HSQ.out)
    have HRI := hide (HRI.out.then hb11)
    have HCDB := hide ((hb11.block _ (Nat.lt_of_lt_of_le HYL1.out HSQ.out)).trans HCDB.out)
    have HSQ := hide (Nat.le_trans HSQ.out hb11.size)
    clear hb11
    go_wp2
    refine OnToK.mk hkz (Sub.refl _) ?_
    clear hkz
    have inh : Nonempty (GrK (fun b => b < w8.heap.size) w11) := GrK.some _ w11
    have x0 := fun z : GrK (fun b => b < w8.heap.size) w11 => z.cell (a := ⟨X, 0, none⟩) HXL.out (lcell_of HRI.out.x 0 rfl)
    have x1 := fun z : GrK (fun b => b < w8.heap.size) w11 => z.cell (a := ⟨X, 1, none⟩) HXL.out (lcell_of HRI.out.x 1 rfl)
    have x2 := fun z : GrK (fun b => b < w8.heap.size) w11 => z.cell (a := ⟨X, 2, none⟩) HXL.out (lcell_of HRI.out.x 2 rfl)
    have y0 := fun z : GrK (fun b => b < w8.heap.size) w11 => z.cell (a := ⟨Y, 0, none⟩) HYL.out (lcell_of HRI.out.y 0 rfl)
    have y1 := fun z : GrK (fun b => b < w8.heap.size) w11 => z.cell (a := ⟨Y, 1, none⟩) HYL.out (lcell_of HRI.out.y 1 rfl)
    have y2 := fun z : GrK (fun b => b < w8.heap.size) w11 => z.cell (a := ⟨Y, 2, none⟩) HYL.out (lcell_of HRI.out.y 2 rfl)
    refine wpG_stageK ?_
    repeat (go_big_quiet_step (fail))
    refine wpQuiet_nil ?_
    clear x0 x1 x2 y0 y1 y2 inh
    go_wp2_with fail
    refine (waits_any HRI.out.led HFA.out n sn).mono ?_
    rintro e w12 ⟨rfl, hb12⟩
    rw [Ldg.abs_waits HAO.out]
    obtain ⟨wb, hwb⟩ : ∃ x, A.waits n sn = x := ⟨_, rfl⟩
    rw [hwb]
    have HWB := hide hwb
    clear hwb
    have hkz : Kept (fun b => b < w8.heap.size) w11 w12 := Kept.of_below hb12 (fun q hq => Nat.lt_of_lt_of_le hq HSQ.out)
    have HRI := hide (HRI.out.then hb12)
    have HCDB := hide ((hb12.block _ (Nat.lt_of_lt_of_le HYL1.out HSQ.out)).trans HCDB.out)
    have HSQ := hide (Nat.le_trans HSQ.out hb12.size)
    clear hb12
    go_wp2
    refine OnToK.mk hkz (Sub.refl _) ?_
    clear hkz
    refine wpG_stageK (wpQuiet_nil ?_)
    go_wp2_with fail
    refine (rwaits_any HRI.out.rl HAO.out n sn).mono ?_
    rintro e w13 ⟨rfl, hb13⟩
    rw [HWB.out]
    have hkz : Kept (fun b => b < w8.heap.size) w12 w13 := Kept.of_below hb13 (fun q hq => Nat.lt_of_lt_of_le hq HSQ.out)
    have HRI := hide (HRI.out.then hb13)
    have HCDB := hide ((hb13.block _ (Nat.lt_of_lt_of_le HYL1.out HSQ.out)).trans HCDB.out)
    have HSQ := hide (Nat.le_trans HSQ.out hb13.size)
    clear hb13
    go_wp2
    refine OnToK.mk hkz (Sub.refl _) ?_
    clear hkz
    have inh : Nonempty (GrK (fun b => b < w8.heap.size) w13) := GrK.some _ w13
    have hwbb : (wb != wb) = false := by cases wb <;> rfl
    have x0 := fun z : GrK (fun b => b < w8.heap.size) w13 => z.cell (a := ⟨X, 0, none⟩) HXL.out (lcell_of HRI.out.x 0 rfl)
    have x1 := fun z : GrK (fun b => b < w8.heap.size) w13 => z.cell (a := ⟨X, 1, none⟩) HXL.out (lcell_of HRI.out.x 1 rfl)
    have x2 := fun z : GrK (fun b => b < w8.heap.size) w13 => z.cell (a := ⟨X, 2, none⟩) HXL.out (lcell_of HRI.out.x 2 rfl)
    have y0 := fun z : GrK (fun b => b < w8.heap.size) w13 => z.cell (a := ⟨Y, 0, none⟩) HYL.out (lcell_of HRI.out.y 0 rfl)
    have y1 := fun z : GrK (fun b => b < w8.heap.size) w13 => z.cell (a := ⟨Y, 1, none⟩) HYL.out (lcell_of HRI.out.y 1 rfl)
    have y2 := fun z : GrK (fun b => b < w8.heap.size) w13 => z.cell (a := ⟨Y, 2, none⟩) HYL.out (lcell_of HRI.out.y 2 rfl)
    refine wpG_stageK ?_
    repeat (go_big_quiet_step (fail))
    refine wpQuiet_nil ?_
    clear x0 x1 x2 y0 y1 y2 inh
    go_wp2_with fail
    refine (free_any HRI.out.led HFA.out).mono ?_
    rintro e w14 ⟨rfl, hb14⟩
    rw [Ldg.abs_free]
    obtain ⟨ff, hff⟩ : ∃ x, A.free = x := ⟨_, rfl⟩
    rw [hff]
    have HFF := hide hff
    clear hff
    have hkz : Kept (fun b => b < w8.heap.size) w13 w14 := Kept.of_below hb14 (fun q hq => Nat.lt_of_lt_of_le hq HSQ.out)
    have HRI := hide (HRI.out.then hb14)
    have HCDB := hide ((hb14.block _ (Nat.lt_of_lt_of_le HYL1.out HSQ.out)).trans HCDB.out)
    have HSQ := hide (Nat.le_trans HSQ.out hb14.size)
    clear hb14
    go_wp2
    refine OnToK.mk hkz (Sub.refl _) ?_
    clear hkz
    refine wpG_stageK (wpQuiet_nil ?_)
    go_wp2_with fail
    refine (rfree_any HRI.out.rl HAO.out).mono ?_
    rintro e w15 ⟨rfl, hb15⟩
    rw [HFF.out]
    have hkz : Kept (fun b => b < w8.heap.size) w14 w15 := Kept.of_below hb15 (fun q hq => Nat.lt_of_lt_of_le hq HSQ.out)
    have HRI := hide (HRI.out.then hb15)
    have HCDB := hide ((hb15.block _ (Nat.lt_of_lt_of_le HYL1.out HSQ.out)).trans HCDB.out)
    have HSQ := hide (Nat.le_trans HSQ.out hb15.size)
    clear hb15
    go_wp2
    refine OnToK.mk hkz (Sub.refl _) ?_
    clear hkz
    have inh : Nonempty (GrK (fun b => b < w8.heap.size) w15) := GrK.some _ w15
    refine wpG_lastK ?_
    repeat (go_big_quiet_step (fail))
    refine wpQuiet_nil ?_
    clear inh
    go_upto_region 18 with fail
    have HXL15 := hide (Nat.lt_of_lt_of_le HXL.out HSQ.out)
    have HYL15 := hide (Nat.lt_of_lt_of_le HYL1.out HSQ.out)
    have hbx : LBox w15 X A.abs A.first A.next b1 n1 d1 := ⟨HRI.out.x, HRI.out.led⟩
    have hm4 := hbx.m4 HAO.out
    have HM := hide hm4.1
    have hn14 := hm4.2
    clear hbx hm4
    have x2 := lcell_of HRI.out.x 2 rfl
    go_wp2
    clear x2
    go_loopw [17, 18] (fun v17 v18 wr' => ∃ (k : Nat) (th : Bool), v18 = .int .i64 (k : Int) ∧ k ≤ n1 ∧ v17 = .bool th ∧ Hid (seenN A n k = th) ∧ Hid (RunI w wr' X Y A b1 n1 d1 b2 n2 d2) ∧ Hid (wr'.heap[Y1]? = some (.cells #[.string fn, .int .u64 (fs : Int), .int .u64 (fl : Int), .slice fa fm fc, .int .u64 (fk : Int), .int .u64 (fe : Int), .int .u64 (fr : Int)] 41 (0, 0))) ∧ Hid (X < wr'.heap.size) ∧ Hid (Y1 < wr'.heap.size)) (fun _ v18 _ => n1 - (intOf v18).toNat)
    case atStart => exact ⟨0, false, rfl, Nat.zero_le _, rfl, hide rfl, HRI, HCDB, HXL15, HYL15⟩
    case round =>
      clear HRI HCDB HXL15 HYL15 HSQ HU1 HU2
      obtain ⟨k, th, rfl, hkn, rfl, HSN0, HRI, HCDB, HXL15, HYL15⟩ := hrel
      by_cases hkl : k < n1
      · have hbx : LBox wr X A.abs A.first A.next b1 n1 d1 := ⟨HRI.out.x, HRI.out.led⟩
        obtain ⟨gb, go, sv1, qn, ds, lo, ak, ev, rj, hk1, rfl, hbl1, hrc, hrl, hsx⟩ := hbx.rc hkl
        have hnext := seenN_next (n := n) hk1
        rw [HSN0.out, ← hrl.nm] at hnext
        have HRC := hide hrc
        have HNB := hide hbl1
        have HRL := hide hrl
        clear hsx hbx hrc hbl1 hrl
        have x2 := lcell_of HRI.out.x 2 rfl
        cases th with
        | true =>
          have HSN := hide (show seenN A n (k + 1) = true by rw [hnext]; rfl)
          clear hnext
          go_wp2_with fail
          clear x2
          refine wp_region_growK (fun b => b < wr.heap.size) [] [0, 1, 2, 3, 4, 5, 6, 7, 8, 9, 10, 11, 12, 13, 14, 15, 16, 17, 18, 19, 20, 21, 22, 23, 24, 25, 26, 27, 28, 29, 30, 31, 32, 33] [] (by kernel_rfl) (by kernel_rfl) (by kernel_rfl) (by kernel_rfl) ?_
          intro wq hbq
          simp only [stagesOfK, getLK, pickLK]
          have inh : Nonempty (GrK (fun b => b < wr.heap.size) wq) := GrK.some _ wq
          have x2 := fun z : GrK (fun b => b < wr.heap.size) wq => z.cell (a := ⟨X, 2, none⟩) HXL15.out (lcell_of (HRI.out.then hbq).x 2 rfl)
          have hcd := (hbq.block _ HYL15.out).trans HCDB.out
          have d1 := fun z : GrK (fun b => b < wr.heap.size) wq => z.cell (a := ⟨Y1, 1, none⟩) HYL15.out (lcell_of hcd 1 rfl)
          have d2 := fun z : GrK (fun b => b < wr.heap.size) wq => z.cell (a := ⟨Y1, 2, none⟩) HYL15.out (lcell_of hcd 2 rfl)
          have g0 := fun z : GrK (fun b => b < wr.heap.size) wq => z.cell (a := ⟨gb, go + k * 7, none⟩) HNB.out (HRC.out.then hbq HNB.out).c0
          have g1 := fun z : GrK (fun b => b < wr.heap.size) wq => z.cell (a := ⟨gb, go + k * 7 + 1, none⟩) HNB.out (HRC.out.then hbq HNB.out).c1
          have g2 := fun z : GrK (fun b => b < wr.heap.size) wq => z.cell (a := ⟨gb, go + k * 7 + 2, none⟩) HNB.out (HRC.out.then hbq HNB.out).c2
          have HRI := hide (HRI.out.then hbq)
          have HCDB := hide hcd
          have HXL15 := hide (Nat.lt_of_lt_of_le HXL15.out hbq.size)
          have HYL15 := hide (Nat.lt_of_lt_of_le HYL15.out hbq.size)
          refine wpG_lastK ?_
          repeat (go_big_quiet_step (fail))
          refine wpQuiet_nil ?_
          clear x2 d1 d2 g0 g1 g2 inh hbq hcd
          go_wp2
          go_roundw
          case rel => exact ⟨k + 1, _, by go_num, by omega, rfl, HSN, HRI, HCDB, HXL15, HYL15⟩
          case measure => simp [intOf]; omega
        | false =>
          by_cases hq : qn = n
          · have HSN := hide (show seenN A n (k + 1) = true by rw [hnext, decide_eq_true hq]; rfl)
            have hb := nm_eq hq
            have hfl : fs = ds ∧ fl = lo := by
              rcases HFI.out with ⟨_, hno⟩ | ⟨_, d, hd, hdn, h5, h6⟩
              · exact absurd (by rw [← hq, HRL.out.nm]; exact Ldg.names_mem (List.getElem_mem hk1)) hno
              · have : d = A.dests[k] := Ldg.uniq_mem HAO.out hd (List.getElem_mem hk1) (by rw [hdn, ← hq, HRL.out.nm])
                exact ⟨by rw [h5, this, HRL.out.s], by rw [h6, this, HRL.out.lo]⟩
            obtain ⟨rfl, rfl⟩ := hfl
            clear hnext hq
            go_wp2_with fail
            clear x2
            refine wp_region_growK (fun b => b < wr.heap.size) [] [0, 1, 2, 3, 4, 5, 6, 7, 8, 9, 10, 11, 12, 13, 14, 15, 16, 17, 18, 19, 20, 21, 22, 23, 24, 25, 26, 27, 28, 29, 30, 31, 32, 33] [] (by kernel_rfl) (by kernel_rfl) (by kernel_rfl) (by kernel_rfl) ?_
            intro wq hbq
            simp only [stagesOfK, getLK, pickLK]
            have inh : Nonempty (GrK (fun b => b < wr.heap.size) wq) := GrK.some _ wq
            have x2 := fun z : GrK (fun b => b < wr.heap.size) wq => z.cell (a := ⟨X, 2, none⟩) HXL15.out (lcell_of (HRI.out.then hbq).x 2 rfl)
            have hcd := (hbq.block _ HYL15.out).trans HCDB.out
            have d1 := fun z : GrK (fun b => b < wr.heap.size) wq => z.cell (a := ⟨Y1, 1, none⟩) HYL15.out (lcell_of hcd 1 rfl)
            have d2 := fun z : GrK (fun b => b < wr.heap.size) wq => z.cell (a := ⟨Y1, 2, none⟩) HYL15.out (lcell_of hcd 2 rfl)
            have g0 := fun z : GrK (fun b => b < wr.heap.size) wq => z.cell (a := ⟨gb, go + k * 7, none⟩) HNB.out (HRC.out.then hbq HNB.out).c0
            have g1 := fun z : GrK (fun b => b < wr.heap.size) wq => z.cell (a := ⟨gb, go + k * 7 + 1, none⟩) HNB.out (HRC.out.then hbq HNB.out).c1
            have g2 := fun z : GrK (fun b => b < wr.heap.size) wq => z.cell (a := ⟨gb, go + k * 7 + 2, none⟩) HNB.out (HRC.out.then hbq HNB.out).c2
            have HRI := hide (HRI.out.then hbq)
            have HCDB := hide hcd
            have HXL15 := hide (Nat.lt_of_lt_of_le HXL15.out hbq.size)
            have HYL15 := hide (Nat.lt_of_lt_of_le HYL15.out hbq.size)
            refine wpG_lastK ?_
            repeat (go_big_quiet_step (fail))
            refine wpQuiet_nil ?_
            clear x2 d1 d2 g0 g1 g2 inh hbq hcd
            go_wp2
            go_roundw
            case rel => exact ⟨k + 1, _, by go_num, by omega, rfl, HSN, HRI, HCDB, HXL15, HYL15⟩
            case measure => simp [intOf]; omega
          · have HSN := hide (show seenN A n (k + 1) = false by rw [hnext, decide_eq_false hq]; rfl)
            have hb := nm_ne hq
            clear hnext hq
            go_wp2_with fail
            clear x2
            refine wp_region_growK (fun b => b < wr.heap.size) [] [0, 1, 2, 3, 4, 5, 6, 7, 8, 9, 10, 11, 12, 13, 14, 15, 16, 17, 18, 19, 20, 21, 22, 23, 24, 25, 26, 27, 28, 29, 30, 31, 32, 33] [] (by kernel_rfl) (by kernel_rfl) (by kernel_rfl) (by kernel_rfl) ?_
            intro wq hbq
            simp only [stagesOfK, getLK, pickLK]
            have inh : Nonempty (GrK (fun b => b < wr.heap.size) wq) := GrK.some _ wq
            have x2 := fun z : GrK (fun b => b < wr.heap.size) wq => z.cell (a := ⟨X, 2, none⟩) HXL15.out (lcell_of (HRI.out.then hbq).x 2 rfl)
            have hcd := (hbq.block _ HYL15.out).trans HCDB.out
            have d1 := fun z : GrK (fun b => b < wr.heap.size) wq => z.cell (a := ⟨Y1, 1, none⟩) HYL15.out (lcell_of hcd 1 rfl)
            have d2 := fun z : GrK (fun b => b < wr.heap.size) wq => z.cell (a := ⟨Y1, 2, none⟩) HYL15.out (lcell_of hcd 2 rfl)
            have g0 := fun z : GrK (fun b => b < wr.heap.size) wq => z.cell (a := ⟨gb, go + k * 7, none⟩) HNB.out (HRC.out.then hbq HNB.out).c0
            have g1 := fun z : GrK (fun b => b < wr.heap.size) wq => z.cell (a := ⟨gb, go + k * 7 + 1, none⟩) HNB.out (HRC.out.then hbq HNB.out).c1
            have g2 := fun z : GrK (fun b => b < wr.heap.size) wq => z.cell (a := ⟨gb, go + k * 7 + 2, none⟩) HNB.out (HRC.out.then hbq HNB.out).c2
            have HRI := hide (HRI.out.then hbq)
            have HCDB := hide hcd
            have HXL15 := hide (Nat.lt_of_lt_of_le HXL15.out hbq.size)
            have HYL15 := hide (Nat.lt_of_lt_of_le HYL15.out hbq.size)
            refine wpG_lastK ?_
            repeat (go_big_quiet_step (fail))
            refine wpQuiet_nil ?_
            clear x2 d1 d2 g0 g1 g2 inh hbq hcd
            go_wp2
            go_roundw
            case rel => exact ⟨k + 1, _, by go_num, by omega, rfl, HSN, HRI, HCDB, HXL15, HYL15⟩
            case measure => simp [intOf]; omega
      · have hall := seenN_all (A := A) (n := n) (k := k) (by have := HM.out; omega)
        have hti : th = isb := by
          rw [← HSN0.out]
          rcases HFI.out with ⟨hb, hno⟩ | ⟨hb, d, hd, hdn, _, _⟩
          · rw [hb]
            exact Bool.eq_false_iff.2 (fun h => hno (hall.1 h))
          · rw [hb]
            exact hall.2 (by rw [← hdn]; exact Ldg.names_mem hd)
        subst hti
        have hbb : (th != th) = false := by cases th <;> rfl
        have x2 := lcell_of HRI.out.x 2 rfl
        clear hall
        go_wp2
        go_roundw
        case rel => exact ⟨j + 1, b1, n1, d1, b2, n2, d2, by omega, by go_num, by rw [E1.out]; exact HRI⟩
        case measure => simp [intOf]; omega
end Go.Proofs.Ytcegdmdnpepliaa
