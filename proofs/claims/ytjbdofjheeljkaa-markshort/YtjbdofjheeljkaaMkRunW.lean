/-
  Chapter 11's run: a ledger behind acts, by the program alone.
-/
import Derived.Test.YtjbdofjheeljkaaMkRunM
import Derived.Test.YtjbdofjheeljkaaLdgBoxW
import Derived.Test.YtjbdofjheeljkaaLdgCntW
import Derived.Test.YtjbdofjheeljkaaGrowQ
import Derived.Deep.DeepCutAuto
namespace Go.Proofs.Ytjbdofjheeljkaa
open Go.RowKit
open Ldg (De Le Rd Rl)

set_option maxRecDepth 100000 in
set_option maxHeartbeats 400000 in
theorem mpick_any (c : Int) (n : Nat) (w : World) (h0 : -9223372036854775808 ≤ c) (h1 : c ≤ 9223372036854775807) (hn : 0 < n) (hm : n ≤ 1099511627776) :
    Calls Try.prog 46 #[.int .i64 c, .int .i64 (n : Int)] w fun e w' => e = .returned (.int .i64 ((pk c n : Nat) : Int)) ∧ w' = w := by
  have hnz : ((n : Int) == 0) = false := beq_eq_false_iff_ne.2 (by omega)
  by_cases hc : c < 0
  · have HP := hide (pk_neg hn hc)
    go_enter Try.func46, Try.ntmps46
    go_wp2
    go_ret
    exact ⟨ret_int' (by rw [← HP.out, ← Int.neg_tmod]; exact Int.tmod_eq_emod_of_nonneg (by omega)), rfl⟩
  · have HP := hide (pk_pos hn hc)
    go_enter Try.func46, Try.ntmps46
    go_wp2
    go_ret
    exact ⟨ret_int' (by exact HP.out), rfl⟩
theorem names4 (w : World) (i : Nat) (h : i < 4) : (w.alloc (.cells #[.string ⟨#[97]⟩, .string ⟨#[98]⟩, .string ⟨#[99]⟩, .string ⟨#[122, 111, 110, 101]⟩] 9)).cell? ⟨w.heap.size, i, none⟩ = some (.string (Mrk.nm4 i)) := by
  rcases (show i = 0 ∨ i = 1 ∨ i = 2 ∨ i = 3 by omega) with rfl | rfl | rfl | rfl <;> exact lcell_of (alloc_new w _) _ rfl
theorem kinds2 (w : World) (i : Nat) (h : i < 2) : (w.alloc (.cells #[.int .u8 97, .int .u8 114] 5)).cell? ⟨w.heap.size, i, none⟩ = some (.int .u8 (Mrk.kd2 i : Nat)) := by
  rcases (show i = 0 ∨ i = 1 by omega) with rfl | rfl <;> exact lcell_of (alloc_new w _) _ rfl
/-- The box of the ledger, and the box of what is told. -/
structure RunK (w W : World) (X : Nat) (R : Rl) (F N : Nat) (a : Option Addr) (m c : Nat) : Prop where
  box : LBox W X R.abs F N a m c
  z : W.heap[w.heap.size]? = some (.cells #[.int .u64 0, .int .u64 0, .slice none 0 0] 27 (0, 0))
  zx : w.heap.size < X
  bel : Below w.heap.size w W
theorem RunK.then {w W W' : World} {X : Nat} {R : Rl} {F N : Nat} {a : Option Addr} {m c : Nat} (h : RunK w W X R F N a m c) (hb : Below W.heap.size W W') : RunK w W' X R F N a m c :=
  ⟨h.box.then hb, at_then h.z hb, h.zx, bl h.bel hb⟩
/-- Another ledger is written into the box. -/
theorem RunK.put {w W : World} {X : Nat} {R A : Rl} {F N : Nat} {a : Option Addr} {m c F' N' m' c' : Nat} {a' : Option Addr} (h : RunK w W X R F N a m c) (hl : LedAt W (.agg #[.int .u64 (F' : Int), .int .u64 (N' : Int), .slice a' m' c']) A.abs) (hz : ∀ d ∈ A.abs.dests, ∀ x ∈ d.above, x ≠ F ∧ x ≠ N) :
    RunK w (((W.setCell ⟨X, 0, none⟩ (.int .u64 (F' : Int))).setCell ⟨X, 1, none⟩ (.int .u64 (N' : Int))).setCell ⟨X, 2, none⟩ (.slice a' m' c')) X A F' N' a' m' c' := by
  have hk := kept3 W X (.int .u64 (F' : Int)) (.int .u64 (N' : Int)) (.slice a' m' c')
  have hzx := h.zx
  exact ⟨⟨set3 h.box.cell _ _ _, hl.over hz h.box.cell hk⟩, (hk.block _ (by omega)).trans h.z, hzx, h.bel.trans (hk.bel (fun b hb => by omega))⟩
def RunME (w : World) (R : Rl) (e : Ending) (w' : World) : Prop := ∃ a m c, e = .returned (.agg #[.int .u64 (R.first : Int), .int .u64 (R.next : Int), .slice a m c]) ∧ LedAt w' (.agg #[.int .u64 (R.first : Int), .int .u64 (R.next : Int), .slice a m c]) R.abs ∧ Below w.heap.size w w'
set_option linter.unusedVariables false in
set_option maxRecDepth 100000 in
set_option maxHeartbeats 3200000 in
theorem mrun_any {w : World} {a : Option Addr} (cap : Nat) {l : List Ma} (ha : MasAt w a l) (hok : ∀ p ∈ l, MaOk p) (hl : l.length ≤ 1000000) :
    Calls Try.prog 45 #[.slice a l.length cap] w (RunME w (Mrk.runM l)) := by
  have HA := hide ha
  have HOK := hide hok
  clear ha hok
  have hz0 := alloc_new w (.cells #[.int .u64 0, .int .u64 0, .slice none 0 0] 27)
  have hbz0 := bnew w (.cells #[.int .u64 0, .int .u64 0, .slice none 0 0] 27)
  go_enter Try.func45, Try.ntmps45
  go_wp2_with fail
  refine (new_any _).mono ?_
  rintro e w1 ⟨rv, rfl, hl1, hb1⟩
  have hz1 := at_then hz0 hb1
  have hbz1 := bl hbz0 hb1
  obtain ⟨a1, m1, c1, rfl, hm1, hl1⟩ := hl1.view
  clear hm1
  have hbx := LBox.new (F := 1) (N := 1) hl1
  have hbn := bnew w1 (.cells #[.int .u64 ((1 : Nat) : Int), .int .u64 ((1 : Nat) : Int), .slice a1 m1 c1] 27)
  have hrk : RunK w (w1.alloc (.cells #[.int .u64 ((1 : Nat) : Int), .int .u64 ((1 : Nat) : Int), .slice a1 m1 c1] 27)) w1.heap.size (Mrk.runM []) 1 1 a1 m1 c1 :=
    ⟨hbx, at_then hz1 hbn, by have := hb1.size; simp at this; omega, bl hbz1 hbn⟩
  have HRK := hide hrk
  obtain ⟨X, hX⟩ : ∃ X, w1.heap.size = X := ⟨_, rfl⟩
  obtain ⟨w2, hw2⟩ : ∃ W, w1.alloc (.cells #[.int .u64 ((1 : Nat) : Int), .int .u64 ((1 : Nat) : Int), .slice a1 m1 c1] 27) = W := ⟨_, rfl⟩
  have hw2' : w1.alloc (.cells #[.int .u64 1, .int .u64 1, .slice a1 m1 c1] 27) = w2 := hw2
  rw [hX, hw2] at HRK
  clear hz0 hbz0 hz1 hbz1 hl1 hb1 hbx hbn hrk hw2
  go_wp2
  try rw [hw2']
  try rw [hX]
  clear hw2' hX
  go_loopw [4] (fun v4 wr => ∃ (j F N : Nat) (a : Option Addr) (m c : Nat), v4 = .int .i64 (j : Int) ∧ j ≤ l.length ∧ Hid (RunK w wr X (Mrk.runM (l.take j)) F N a m c)) (fun v4 _ => l.length - (intOf v4).toNat)
  case atStart => exact ⟨0, 1, 1, _, _, _, rfl, Nat.zero_le _, HRK⟩
  case round =>
    clear HRK
    obtain ⟨j, F, N, a, m, c, rfl, hj, HRK⟩ := hrel
    by_cases hlt : j < l.length
    case neg =>
      obtain rfl : j = l.length := by omega
      have hrk := HRK.out
      rw [List.take_length] at hrk
      obtain ⟨R, hR⟩ : ∃ R, Mrk.runM l = R := ⟨_, rfl⟩
      rw [hR] at hrk
      have hro := (Mrk.runM_ok (l := l) hl).1
      rw [hR] at hro
      have HRR := hide hR
      obtain ⟨hv1, hv2, hv3, hv4⟩ := hrk.box.view
      clear hv3 hv4
      have hx := hrk.box.cell
      have hz := hrk.z
      have hk := kept3 wr w.heap.size (.int .u64 (F : Int)) (.int .u64 (N : Int)) (.slice a m c)
      have hl9 := hrk.box.led.put (above_pos hro) hz hk
      have hu := set3 hz (.int .u64 (F : Int)) (.int .u64 (N : Int)) (.slice a m c)
      have hb9 := hrk.bel.trans (hk.bel (fun b hb => by omega))
      have x0 := lcell_of hx 0 rfl
      have x1 := lcell_of hx 1 rfl
      have x2 := lcell_of hx 2 rfl
      have z0 := lcell_of hz 0 rfl
      have z1 := lcell_of hz 1 rfl
      have z2 := lcell_of hz 2 rfl
      have zf := lfrozen_of hz
      obtain ⟨wz, hwz⟩ : ∃ W, ((wr.setCell ⟨w.heap.size, 0, none⟩ (.int .u64 (F : Int))).setCell ⟨w.heap.size, 1, none⟩ (.int .u64 (N : Int))).setCell ⟨w.heap.size, 2, none⟩ (.slice a m c) = W := ⟨_, rfl⟩
      rw [hwz] at hl9 hu hb9
      have HL9 := hide hl9
      have HB9 := hide hb9
      have HV1 := hide hv1
      have HV2 := hide hv2
      have q0 := lcell_of hu 0 rfl
      have q1 := lcell_of hu 1 rfl
      have q2 := lcell_of hu 2 rfl
      clear hrk hR hro hx hz hk hl9 hu hb9 hv1 hv2
      go_wp2_with fail
      refine bodyPost_ret (v := .agg #[.int .u64 (F : Int), .int .u64 (N : Int), .slice a m c]) (by simp [results, Try.results45, go_sem, q0, q1, q2]) rfl ?_
      rw [HRR.out]
      have e1 : R.first = F := HV1.out.symm
      have e2 : R.next = N := HV2.out.symm
      exact ⟨a, m, c, by rw [e1, e2], by rw [e1, e2]; exact HL9.out, HB9.out⟩
    have hro := Mrk.runM_ok (l := l.take j) (by rw [List.length_take]; omega)
    have e1 := Mrk.runM_take hlt
    obtain ⟨g, o, rfl, hg, hcell⟩ := HA.out j hlt
    have hcy := (hcell j hlt).below HRK.out.bel hg
    have hx := HOK.out _ (List.getElem_mem hlt)
    obtain ⟨⟨op, nm, sq⟩, hy⟩ : ∃ y, l[j] = y := ⟨_, rfl⟩
    rw [hy] at hcy e1 hx
    have hnx : (Mrk.runM (l.take j)).next < 10000000 := by have := hro.2; rw [List.length_take] at this; omega
    have hro1 := hro.1
    obtain ⟨R, hR⟩ : ∃ R, Mrk.runM (l.take j) = R := ⟨_, rfl⟩
    rw [hR] at HRK e1 hnx hro1
    have hgw : g < wr.heap.size := Nat.lt_of_lt_of_le hg HRK.out.bel.size
    obtain ⟨hv1, hv2, hv3, hv4⟩ := HRK.out.box.view
    clear hv3 hv4
    replace hv1 : F = R.first := hv1
    replace hv2 : N = R.next := hv2
    obtain ⟨k, hk⟩ : ∃ k, pk op 11 = k := ⟨_, rfl⟩
    have hk11 : k < 11 := by rw [← hk]; exact pk_lt op (by omega)
    obtain ⟨i4, hi4⟩ : ∃ i, pk nm 4 = i := ⟨_, rfl⟩
    have hi4l : i4 < 4 := by rw [← hi4]; exact pk_lt nm (by omega)
    obtain ⟨n, hn⟩ : ∃ n, Mrk.nm4 i4 = n := ⟨_, rfl⟩
    have hns : n.size ≤ 1000000000 := by rw [← hn]; have := Mrk.nm4_size i4; omega
    obtain ⟨A, hA⟩ : ∃ A, R.act k n (Mrk.seqOf R k sq) (Mrk.kd2 (pk sq 2)) = A := ⟨_, rfl⟩
    have hEA : Mrk.runM (l.take (j + 1)) = A := by rw [e1, ← hA, ← hn, ← hi4, ← hk]; rfl
    have hab := fun d hd x hx => Ldg.act_above hro1 hnx (k := k) (n := n) (s := Mrk.seqOf R k sq) (kd := Mrk.kd2 (pk sq 2)) (d := d) hd (x := x) hx
    rw [hA] at hab
    have hAO := Ldg.act_ok hro1 hnx (k := k) (n := n) (s := Mrk.seqOf R k sq) (kd := Mrk.kd2 (pk sq 2))
    have HRO := hide hro1
    have HF := hide (Ldg.abs_fit hro1)
    have HNX := hide hnx
    have HV1 := hide hv1
    have HV2 := hide hv2
    have HACT := hide hA
    have HEA := hide hEA
    have HAB : Hid (∀ d ∈ A.abs.dests, ∀ x ∈ d.above, x ≠ R.first ∧ x ≠ R.next) := hide hab
    have HX := hide hx
    have HK := hide hk
    have HI4 := hide hi4
    have HNN := hide hn
    have HC := hide hcy
    have c1 := hcy.c1
    clear hro e1 hcell hcy hx hy hnx hro1 hR hv1 hv2 hk hi4 hA hEA hab hAO
    have hs4 := names4 wr i4 hi4l
    rw [hn] at hs4
    have hbs := bnew wr (.cells #[.string ⟨#[97]⟩, .string ⟨#[98]⟩, .string ⟨#[99]⟩, .string ⟨#[122, 111, 110, 101]⟩] 9)
    have HC := hide (HC.out.below hbs hgw)
    have HRK := hide (HRK.out.then hbs)
    have hgw : g < (wr.alloc (.cells #[.string ⟨#[97]⟩, .string ⟨#[98]⟩, .string ⟨#[99]⟩, .string ⟨#[122, 111, 110, 101]⟩] 9)).heap.size := Nat.lt_of_lt_of_le hgw hbs.size
    go_wp2_with fail
    clear c1
    refine (mpick_any nm 4 _ HX.out.nm0 HX.out.nm1 (by omega) (by omega)).mono ?_
    rintro e w3 ⟨rfl, hw3⟩
    rw [hw3, HI4.out]
    clear hw3 hbs hn
    go_upto_region 6 with fail
    clear hs4
    obtain ⟨W1, hW1⟩ : ∃ W, wr.alloc (.cells #[.string ⟨#[97]⟩, .string ⟨#[98]⟩, .string ⟨#[99]⟩, .string ⟨#[122, 111, 110, 101]⟩] 9) = W := ⟨_, rfl⟩
    rw [hW1] at HC HRK hgw
    try rw [hW1]
    clear hW1
    have x0 := lcell_of HRK.out.box.cell 0 rfl
    have x1 := lcell_of HRK.out.box.cell 1 rfl
    have x2 := lcell_of HRK.out.box.cell 2 rfl
    have hby := bnew W1 (.cells #[.int .u64 (F : Int), .int .u64 (N : Int), .slice a m c] 27)
    have hyy := alloc_new W1 (.cells #[.int .u64 (F : Int), .int .u64 (N : Int), .slice a m c] 27)
    go_upto_region 7 with fail
    clear x0 x1 x2
    obtain ⟨wy, hwy⟩ : ∃ W, W1.alloc (.cells #[.int .u64 (F : Int), .int .u64 (N : Int), .slice a m c] 27) = W := ⟨_, rfl⟩
    obtain ⟨Y, hY⟩ : ∃ Y, W1.heap.size = Y := ⟨_, rfl⟩
    have hgY : g < Y := by omega
    have hXY : X < Y := by have := HRK.out.box.lt; omega
    rw [hwy] at hby hyy
    rw [hY] at hyy
    try rw [hwy]
    try rw [hY]
    have HBY := hide hby
    have HYY := hide hyy
    have HYW := hide hY
    have HC := hide (HC.out.below hby hgw)
    have hgy : g < wy.heap.size := Nat.lt_of_lt_of_le hgw hby.size
    have hYwy : Y < wy.heap.size := (Array.getElem?_eq_some_iff.1 hyy).1
    clear hby hyy hwy hY hgw
    have c0 := HC.out.c0
    go_wp2_with fail
    clear c0
    refine (mpick_any op 11 _ HX.out.op0 HX.out.op1 (by omega) (by omega)).mono ?_
    rintro e w3 ⟨rfl, hw3⟩
    rw [hw3, HK.out]
    clear hw3
    by_cases n0 : k < 4
    · have HM := hide (show Ldg.Made R A (R.add, 0) from ⟨by rw [← HACT.out]; unfold Ldg.Rl.act Ldg.Rl.does; rw [if_pos n0], fun _ => Ldg.add_ok HRO.out HNX.out, fun h => absurd rfl h⟩)
      have HBW := HBY
      have HKW := hide (HRK.out.then HBW.out)
      have x0 := lcell_of HKW.out.box.cell 0 rfl
      have x1 := lcell_of HKW.out.box.cell 1 rfl
      have x2 := lcell_of HKW.out.box.cell 2 rfl
      go_wp2_with fail
      clear x0 x1 x2 HKW
      refine (add_any (HRK.out.then HBY.out).box.led HF.out).mono ?_
      rintro e w5 ⟨rv, rfl, hl, hb5⟩
      rw [← Ldg.add_abs] at hl
      have HB5 := hide hb5
      clear hb5
      obtain ⟨Q, hQ⟩ : ∃ Q : Rl × Nat, (R.add, 0) = Q := ⟨_, rfl⟩
      have hl : LedAt w5 rv Q.1.abs := by rw [← hQ]; exact hl
      rw [hQ] at HM
      have hcq : Q.2 = 0 := by rw [← hQ]
      have HCQ := hide hcq
      clear hQ hcq
      obtain ⟨a5, m5, c5, rfl, hmm, hl⟩ := hl.view
      clear hmm
      obtain ⟨F5, hF5⟩ : ∃ x, Q.1.abs.first = x := ⟨_, rfl⟩
      obtain ⟨N5, hN5⟩ : ∃ x, Q.1.abs.next = x := ⟨_, rfl⟩
      rw [hF5, hN5] at hl ⊢
      have HL5 := hide hl
      clear hF5 hN5 hl
      have hy5 := at_then HYY.out HB5.out
      have y0 := lcell_of hy5 0 rfl
      have y1 := lcell_of hy5 1 rfl
      have y2 := lcell_of hy5 2 rfl
      have yf := lfrozen_of hy5
      have hk6 := kept3 w5 Y (.int .u64 (F5 : Int)) (.int .u64 (N5 : Int)) (.slice a5 m5 c5)
      have hl6 := HL5.out.over (fun d hd x hx => by rw [HV1.out, HV2.out]; exact Mrk.made_away HM.out HAB.out d hd x hx) hy5 hk6
      have hy6 := set3 hy5 (.int .u64 (F5 : Int)) (.int .u64 (N5 : Int)) (.slice a5 m5 c5)
      have hb6 : Below W1.heap.size W1 (((w5.setCell ⟨Y, 0, none⟩ (.int .u64 (F5 : Int))).setCell ⟨Y, 1, none⟩ (.int .u64 (N5 : Int))).setCell ⟨Y, 2, none⟩ (.slice a5 m5 c5)) := (HBY.out.trans (HB5.out.mono HBY.out.size)).trans (hk6.bel (fun b hb => by have := HYW.out; omega))
      obtain ⟨w6, hw6⟩ : ∃ W, (((w5.setCell ⟨Y, 0, none⟩ (.int .u64 (F5 : Int))).setCell ⟨Y, 1, none⟩ (.int .u64 (N5 : Int))).setCell ⟨Y, 2, none⟩ (.slice a5 m5 c5)) = W := ⟨_, rfl⟩
      rw [hw6] at hl6 hy6 hb6 hk6
      have HL6 := hide hl6
      have HY6 := hide hy6
      have HB6 := hide hb6
      clear hy5 hl6 hy6 hb6
      go_upto_region 18 with fail
      try rw [hw6]
      clear y0 y1 y2 yf hk6 hw6
      have HKW := hide (HRK.out.then HB6.out)
      have hA1 := HM.out.one (HCQ.out)
      have hxb := HKW.out.box.cell
      have y0 := lcell_of HY6.out 0 rfl
      have y1 := lcell_of HY6.out 1 rfl
      have y2 := lcell_of HY6.out 2 rfl
      have x0 := lcell_of hxb 0 rfl
      have x1 := lcell_of hxb 1 rfl
      have x2 := lcell_of hxb 2 rfl
      have xf := lfrozen_of hxb
      have hpt := HKW.out.put (A := A) (by rw [hA1]; exact HL6.out) (fun d hd x hx => by rw [HV1.out, HV2.out]; exact HAB.out d hd x hx)
      obtain ⟨w7, hw7⟩ : ∃ W, ((w6.setCell ⟨X, 0, none⟩ (.int .u64 (F5 : Int))).setCell ⟨X, 1, none⟩ (.int .u64 (N5 : Int))).setCell ⟨X, 2, none⟩ (.slice a5 m5 c5) = W := ⟨_, rfl⟩
      rw [hw7] at hpt
      have HPT := hide hpt
      clear hpt hxb hA1
      go_wp2
      try rw [hw7]
      clear hw7
      go_roundw
      case rel => exact ⟨j + 1, F5, N5, a5, m5, c5, by go_num, by omega, by rw [HEA.out]; exact HPT⟩
      case measure => simp [intOf]; omega
    by_cases n1 : k = 4
    · subst n1
      have HM := hide (show Ldg.Made R A (R.join n) from ⟨by rw [← HACT.out]; unfold Ldg.Rl.act Ldg.Rl.does; rw [if_neg n0, if_pos rfl], fun h => Ldg.join_ok HRO.out h, fun h => Ldg.join_bad h⟩)
      have HBW := HBY
      have HKW := hide (HRK.out.then HBW.out)
      have x0 := lcell_of HKW.out.box.cell 0 rfl
      have x1 := lcell_of HKW.out.box.cell 1 rfl
      have x2 := lcell_of HKW.out.box.cell 2 rfl
      go_wp2_with fail
      clear x0 x1 x2 HKW
      refine (ljoin_any (HRK.out.then HBY.out).box.led HF.out n hns).mono ?_
      rintro e w5 ⟨rv, rfl, hl, hb5⟩
      rw [Ldg.join_abs] at hl ⊢
      have HB5 := hide hb5
      clear hb5
      obtain ⟨Q, hQ⟩ : ∃ Q, R.join n = Q := ⟨_, rfl⟩
      rw [hQ] at hl HM ⊢
      clear hQ
      obtain ⟨a5, m5, c5, rfl, hmm, hl⟩ := hl.view
      clear hmm
      obtain ⟨F5, hF5⟩ : ∃ x, Q.1.abs.first = x := ⟨_, rfl⟩
      obtain ⟨N5, hN5⟩ : ∃ x, Q.1.abs.next = x := ⟨_, rfl⟩
      rw [hF5, hN5] at hl ⊢
      obtain ⟨cq, hcq⟩ : ∃ x, Q.2 = x := ⟨_, rfl⟩
      try rw [hcq]
      have HCQ := hide hcq
      have HL5 := hide hl
      clear hF5 hN5 hcq hl
      have hy5 := at_then HYY.out HB5.out
      have y0 := lcell_of hy5 0 rfl
      have y1 := lcell_of hy5 1 rfl
      have y2 := lcell_of hy5 2 rfl
      have yf := lfrozen_of hy5
      have hk6 := kept3 w5 Y (.int .u64 (F5 : Int)) (.int .u64 (N5 : Int)) (.slice a5 m5 c5)
      have hl6 := HL5.out.over (fun d hd x hx => by rw [HV1.out, HV2.out]; exact Mrk.made_away HM.out HAB.out d hd x hx) hy5 hk6
      have hy6 := set3 hy5 (.int .u64 (F5 : Int)) (.int .u64 (N5 : Int)) (.slice a5 m5 c5)
      have hb6 : Below W1.heap.size W1 (((w5.setCell ⟨Y, 0, none⟩ (.int .u64 (F5 : Int))).setCell ⟨Y, 1, none⟩ (.int .u64 (N5 : Int))).setCell ⟨Y, 2, none⟩ (.slice a5 m5 c5)) := (HBY.out.trans (HB5.out.mono HBY.out.size)).trans (hk6.bel (fun b hb => by have := HYW.out; omega))
      obtain ⟨w6, hw6⟩ : ∃ W, (((w5.setCell ⟨Y, 0, none⟩ (.int .u64 (F5 : Int))).setCell ⟨Y, 1, none⟩ (.int .u64 (N5 : Int))).setCell ⟨Y, 2, none⟩ (.slice a5 m5 c5)) = W := ⟨_, rfl⟩
      rw [hw6] at hl6 hy6 hb6 hk6
      have HL6 := hide hl6
      have HY6 := hide hy6
      have HB6 := hide hb6
      clear hy5 hl6 hy6 hb6
      go_upto_region 18 with fail
      try rw [hw6]
      clear y0 y1 y2 yf hk6 hw6
      by_cases hc0 : cq = 0
      · subst hc0
        have HKW := hide (HRK.out.then HB6.out)
        have hA1 := HM.out.one (by rw [HCQ.out])
        have hxb := HKW.out.box.cell
        have y0 := lcell_of HY6.out 0 rfl
        have y1 := lcell_of HY6.out 1 rfl
        have y2 := lcell_of HY6.out 2 rfl
        have x0 := lcell_of hxb 0 rfl
        have x1 := lcell_of hxb 1 rfl
        have x2 := lcell_of hxb 2 rfl
        have xf := lfrozen_of hxb
        have hpt := HKW.out.put (A := A) (by rw [hA1]; exact HL6.out) (fun d hd x hx => by rw [HV1.out, HV2.out]; exact HAB.out d hd x hx)
        obtain ⟨w7, hw7⟩ : ∃ W, ((w6.setCell ⟨X, 0, none⟩ (.int .u64 (F5 : Int))).setCell ⟨X, 1, none⟩ (.int .u64 (N5 : Int))).setCell ⟨X, 2, none⟩ (.slice a5 m5 c5) = W := ⟨_, rfl⟩
        rw [hw7] at hpt
        have HPT := hide hpt
        clear hpt hxb hA1
        go_wp2
        try rw [hw7]
        clear hw7
        go_roundw
        case rel => exact ⟨j + 1, F5, N5, a5, m5, c5, by go_num, by omega, by rw [HEA.out]; exact HPT⟩
        case measure => simp [intOf]; omega
      · have HKW := hide (HRK.out.then HB6.out)
        have hA1 := HM.out.no (by rw [HCQ.out]; exact hc0)
        have HA1 := hide hA1
        have hcb : (((cq : Nat) : Int) == 0) = false := beq_eq_false_iff_ne.2 (by omega)
        clear hA1 hc0
        go_wp2
        go_roundw
        case rel => exact ⟨j + 1, F, N, a, m, c, by go_num, by omega, by rw [HEA.out, HA1.out]; exact HKW⟩
        case measure => simp [intOf]; omega
    by_cases n2 : k = 5
    · subst n2
      have HM := hide (show Ldg.Made R A (R.leave n) from ⟨by rw [← HACT.out]; unfold Ldg.Rl.act Ldg.Rl.does; rw [if_neg n0, if_neg n1, if_pos rfl], fun h => Ldg.leave_ok HRO.out h, fun h => Ldg.leave_bad h⟩)
      have HBW := HBY
      have HKW := hide (HRK.out.then HBW.out)
      have x0 := lcell_of HKW.out.box.cell 0 rfl
      have x1 := lcell_of HKW.out.box.cell 1 rfl
      have x2 := lcell_of HKW.out.box.cell 2 rfl
      go_wp2_with fail
      clear x0 x1 x2 HKW
      refine (lleave_any (HRK.out.then HBY.out).box.led HF.out n).mono ?_
      rintro e w5 ⟨rv, rfl, hl, hb5⟩
      rw [Ldg.leave_abs] at hl ⊢
      have HB5 := hide hb5
      clear hb5
      obtain ⟨Q, hQ⟩ : ∃ Q, R.leave n = Q := ⟨_, rfl⟩
      rw [hQ] at hl HM ⊢
      clear hQ
      obtain ⟨a5, m5, c5, rfl, hmm, hl⟩ := hl.view
      clear hmm
      obtain ⟨F5, hF5⟩ : ∃ x, Q.1.abs.first = x := ⟨_, rfl⟩
      obtain ⟨N5, hN5⟩ : ∃ x, Q.1.abs.next = x := ⟨_, rfl⟩
      rw [hF5, hN5] at hl ⊢
      obtain ⟨cq, hcq⟩ : ∃ x, Q.2 = x := ⟨_, rfl⟩
      try rw [hcq]
      have HCQ := hide hcq
      have HL5 := hide hl
      clear hF5 hN5 hcq hl
      have hy5 := at_then HYY.out HB5.out
      have y0 := lcell_of hy5 0 rfl
      have y1 := lcell_of hy5 1 rfl
      have y2 := lcell_of hy5 2 rfl
      have yf := lfrozen_of hy5
      have hk6 := kept3 w5 Y (.int .u64 (F5 : Int)) (.int .u64 (N5 : Int)) (.slice a5 m5 c5)
      have hl6 := HL5.out.over (fun d hd x hx => by rw [HV1.out, HV2.out]; exact Mrk.made_away HM.out HAB.out d hd x hx) hy5 hk6
      have hy6 := set3 hy5 (.int .u64 (F5 : Int)) (.int .u64 (N5 : Int)) (.slice a5 m5 c5)
      have hb6 : Below W1.heap.size W1 (((w5.setCell ⟨Y, 0, none⟩ (.int .u64 (F5 : Int))).setCell ⟨Y, 1, none⟩ (.int .u64 (N5 : Int))).setCell ⟨Y, 2, none⟩ (.slice a5 m5 c5)) := (HBY.out.trans (HB5.out.mono HBY.out.size)).trans (hk6.bel (fun b hb => by have := HYW.out; omega))
      obtain ⟨w6, hw6⟩ : ∃ W, (((w5.setCell ⟨Y, 0, none⟩ (.int .u64 (F5 : Int))).setCell ⟨Y, 1, none⟩ (.int .u64 (N5 : Int))).setCell ⟨Y, 2, none⟩ (.slice a5 m5 c5)) = W := ⟨_, rfl⟩
      rw [hw6] at hl6 hy6 hb6 hk6
      have HL6 := hide hl6
      have HY6 := hide hy6
      have HB6 := hide hb6
      clear hy5 hl6 hy6 hb6
      go_upto_region 18 with fail
      try rw [hw6]
      clear y0 y1 y2 yf hk6 hw6
      by_cases hc0 : cq = 0
      · subst hc0
        have HKW := hide (HRK.out.then HB6.out)
        have hA1 := HM.out.one (by rw [HCQ.out])
        have hxb := HKW.out.box.cell
        have y0 := lcell_of HY6.out 0 rfl
        have y1 := lcell_of HY6.out 1 rfl
        have y2 := lcell_of HY6.out 2 rfl
        have x0 := lcell_of hxb 0 rfl
        have x1 := lcell_of hxb 1 rfl
        have x2 := lcell_of hxb 2 rfl
        have xf := lfrozen_of hxb
        have hpt := HKW.out.put (A := A) (by rw [hA1]; exact HL6.out) (fun d hd x hx => by rw [HV1.out, HV2.out]; exact HAB.out d hd x hx)
        obtain ⟨w7, hw7⟩ : ∃ W, ((w6.setCell ⟨X, 0, none⟩ (.int .u64 (F5 : Int))).setCell ⟨X, 1, none⟩ (.int .u64 (N5 : Int))).setCell ⟨X, 2, none⟩ (.slice a5 m5 c5) = W := ⟨_, rfl⟩
        rw [hw7] at hpt
        have HPT := hide hpt
        clear hpt hxb hA1
        go_wp2
        try rw [hw7]
        clear hw7
        go_roundw
        case rel => exact ⟨j + 1, F5, N5, a5, m5, c5, by go_num, by omega, by rw [HEA.out]; exact HPT⟩
        case measure => simp [intOf]; omega
      · have HKW := hide (HRK.out.then HB6.out)
        have hA1 := HM.out.no (by rw [HCQ.out]; exact hc0)
        have HA1 := hide hA1
        have hcb : (((cq : Nat) : Int) == 0) = false := beq_eq_false_iff_ne.2 (by omega)
        clear hA1 hc0
        go_wp2
        go_roundw
        case rel => exact ⟨j + 1, F, N, a, m, c, by go_num, by omega, by rw [HEA.out, HA1.out]; exact HKW⟩
        case measure => simp [intOf]; omega
    by_cases n3 : k < 10
    · obtain ⟨s20, hs20⟩ : ∃ s, pk sq 20 = s := ⟨_, rfl⟩
      have hs20l : s20 < 20 := by rw [← hs20]; exact pk_lt sq (by omega)
      obtain ⟨s2, hs2⟩ : ∃ s, pk sq 2 = s := ⟨_, rfl⟩
      have hs2l : s2 < 2 := by rw [← hs2]; exact pk_lt sq (by omega)
      obtain ⟨T, hT⟩ : ∃ T, 1 + s20 = T := ⟨_, rfl⟩
      have hsT : Mrk.seqOf R k sq = T := by unfold Mrk.seqOf; rw [if_pos n3, hs20, hT]
      have q1 : IntKind.u64.wrap ((s20 : Nat) : Int) = (s20 : Int) := by rw [IntKind.wrap_u64]; omega
      have q2 : (1 : Int) + ((s20 : Nat) : Int) = (T : Int) := by omega
      have q3 : IntKind.u64.wrap ((T : Nat) : Int) = (T : Int) := by rw [IntKind.wrap_u64]; omega
      have HS20 := hide hs20
      have HS2 := hide hs2
      have HM := hide (show Ldg.Made R A (R.done n T (Mrk.kd2 s2)) from ⟨by rw [← HACT.out]; unfold Ldg.Rl.act Ldg.Rl.does; rw [if_neg n0, if_neg n1, if_neg n2, if_pos n3, hsT, hs2], fun h => Ldg.done_ok HRO.out h, fun h => Ldg.done_bad h⟩)
      clear hs20 hs2 hT hsT
      go_wp2_with fail
      refine wp_region_growQ (fun b => b < Y) 25 rfl (by kernel_rfl) ?_
      intro wq hbq
      have HRQ := hide ((HRK.out.then HBY.out).then hbq)
      have HBQ := hide hbq
      have inh : Nonempty (GrK (fun b => b < Y) wq) := GrK.some _ wq
      have x0 := fun z : GrK (fun b => b < Y) wq => z.cell (a := ⟨X, 0, none⟩) hXY (lcell_of HRQ.out.box.cell 0 rfl)
      have x1 := fun z : GrK (fun b => b < Y) wq => z.cell (a := ⟨X, 1, none⟩) hXY (lcell_of HRQ.out.box.cell 1 rfl)
      have x2 := fun z : GrK (fun b => b < Y) wq => z.cell (a := ⟨X, 2, none⟩) hXY (lcell_of HRQ.out.box.cell 2 rfl)
      have d2 := fun z : GrK (fun b => b < Y) wq => z.cell (a := ⟨g, o + j * 3 + 2, none⟩) hgY ((hbq.cell (p := ⟨g, o + j * 3 + 2, none⟩) hgy).trans HC.out.c2)
      clear hbq
      refine growQ_plain [0, 1, 2, 3, 4, 5, 6, 11, 12, 13, 14, 15] 13 #[true, true, true, true, true, true, true, false, false, false, false, true, true, true, true, true, false, false, false, false, false, false, false, false, false] rfl (by kernel_rfl) (by kernel_rfl) ?_
      simp only [getLK, pickLK]
      repeat (go_big_quiet_step (fail))
      refine wpQuiet_nil ?_
      clear x0 x1 x2 d2 inh
      refine growQ_two 7 10 _ _ 12 rfl rfl rfl (by kernel_rfl) ?_ ?_
      · go_wp2_with fail
        refine (mpick_any sq 20 _ HX.out.sq0 HX.out.sq1 (by omega) (by omega)).mono ?_
        rintro e w3 ⟨rfl, hw3⟩
        rw [hw3, HS20.out]
        clear hw3
        go_wp2
        refine OnToQ.mk (Kept.refl _ _) (Sub.refl _) ?_
        have inh : Nonempty (GrK (fun b => b < Y) wq) := GrK.some _ wq
        refine growQ_plain [8, 9] 10 #[true, true, true, true, true, true, true, true, true, true, false, true, true, true, true, true, false, false, false, false, false, false, false, false, false] rfl (by kernel_rfl) (by kernel_rfl) ?_
        simp only [getLK, pickLK]
        repeat (go_big_quiet_step (fail))
        refine wpQuiet_nil ?_
        clear inh
        refine growQ_two 10 16 _ _ 9 rfl rfl rfl (by kernel_rfl) ?_ ?_
        · go_wp2
          have hk2 := kinds2 wq s2 hs2l
          have hbn := bnew wq (.cells #[.int .u8 97, .int .u8 114] 5)
          have hsl : Y < wq.heap.size ∧ wq.heap.size < (wq.alloc (.cells #[.int .u8 97, .int .u8 114] 5)).heap.size := ⟨by have h2 := HBQ.out.size; omega, by simp⟩
          have hb2 : wy.heap.size ≤ wq.heap.size := HBQ.out.size
          refine OnToQ.mk (B' := fun b => b < Y ∨ b = wq.heap.size) ?_ (fun b hb => .inl hb) ?_
          · exact Kept.of_below hbn (fun b hb => by have h1 : b < Y := hb; have h2 := HBQ.out.size; omega)
          have HRQ := hide (HRQ.out.then hbn)
          have HBQ := hide (HBQ.out.trans (hbn.mono HBQ.out.size))
          obtain ⟨b2, hB2⟩ : ∃ y, wq.heap.size = y := ⟨_, rfl⟩
          obtain ⟨wk2, hW⟩ : ∃ z, wq.alloc (.cells #[.int .u8 97, .int .u8 114] 5) = z := ⟨_, rfl⟩
          rw [hB2, hW] at hk2 hsl
          rw [hW] at HRQ HBQ
          try rw [hB2]
          try rw [hW]
          have HB2 := hide hsl
          clear hbn hsl hW hB2
          refine growQ_one 16 _ 8 rfl rfl (by kernel_rfl) ?_
          · go_wp2_with fail
            refine (mpick_any sq 2 _ HX.out.sq0 HX.out.sq1 (by omega) (by omega)).mono ?_
            rintro e w3 ⟨rfl, hw3⟩
            rw [hw3, HS2.out]
            clear hw3
            go_wp2
            refine OnToQ.mk (Kept.refl _ _) (Sub.refl _) ?_
            refine growQ_plain [17, 18] 6 #[true, true, true, true, true, true, true, true, true, true, true, true, true, true, true, true, true, true, true, false, false, false, false, false, false] rfl (by kernel_rfl) (by kernel_rfl) ?_
            simp only [getLK, pickLK]
            have inh : Nonempty (GrK (fun b => b < Y ∨ b = b2) wk2) := GrK.some _ wk2
            have xk := fun z : GrK (fun b => b < Y ∨ b = b2) wk2 => z.cell (a := ⟨b2, s2, none⟩) (.inr rfl) hk2
            repeat (go_big_quiet_step (fail))
            refine wpQuiet_nil ?_
            clear inh xk hk2
            refine growQ_one 19 _ 5 rfl rfl (by kernel_rfl) ?_
            go_wp2_with fail
            refine (ldone_any HRQ.out.box.led HF.out n T (Mrk.kd2 s2)).mono ?_
            rintro e w5wk2 ⟨rv, rfl, hl, hb5⟩
            rw [Ldg.done_abs HRO.out] at hl ⊢
            have hk5 : Kept (fun b => b < Y ∨ b = b2) wk2 w5wk2 := Kept.of_below hb5 (fun b hb => by have h1 : b < Y ∨ b = b2 := hb; have h2 := HBQ.out.size; have h3 := HB2.out; omega)
            have HB5 := hide (bl HBQ.out hb5)
            clear hb5
            obtain ⟨Q, hQ⟩ : ∃ Q, R.done n T (Mrk.kd2 s2) = Q := ⟨_, rfl⟩
            rw [hQ] at hl HM ⊢
            clear hQ
            obtain ⟨a5, m5, c5, rfl, hmm, hl⟩ := hl.view
            clear hmm
            obtain ⟨F5, hF5⟩ : ∃ x, Q.1.abs.first = x := ⟨_, rfl⟩
            obtain ⟨N5, hN5⟩ : ∃ x, Q.1.abs.next = x := ⟨_, rfl⟩
            rw [hF5, hN5] at hl ⊢
            obtain ⟨cq, hcq⟩ : ∃ x, Q.2 = x := ⟨_, rfl⟩
            try rw [hcq]
            have HCQ := hide hcq
            have HL5 := hide hl
            clear hF5 hN5 hcq hl
            have hy5 := at_then HYY.out HB5.out
            have y0 := lcell_of hy5 0 rfl
            have y1 := lcell_of hy5 1 rfl
            have y2 := lcell_of hy5 2 rfl
            have yf := lfrozen_of hy5
            have hk6 := kept3 w5wk2 Y (.int .u64 (F5 : Int)) (.int .u64 (N5 : Int)) (.slice a5 m5 c5)
            have hl6 := HL5.out.over (fun d hd x hx => by rw [HV1.out, HV2.out]; exact Mrk.made_away HM.out HAB.out d hd x hx) hy5 hk6
            have hy6 := set3 hy5 (.int .u64 (F5 : Int)) (.int .u64 (N5 : Int)) (.slice a5 m5 c5)
            have hb6 : Below W1.heap.size W1 (((w5wk2.setCell ⟨Y, 0, none⟩ (.int .u64 (F5 : Int))).setCell ⟨Y, 1, none⟩ (.int .u64 (N5 : Int))).setCell ⟨Y, 2, none⟩ (.slice a5 m5 c5)) := (HBY.out.trans (HB5.out.mono HBY.out.size)).trans (hk6.bel (fun b hb => by have := HYW.out; omega))
            obtain ⟨w6, hw6⟩ : ∃ W, (((w5wk2.setCell ⟨Y, 0, none⟩ (.int .u64 (F5 : Int))).setCell ⟨Y, 1, none⟩ (.int .u64 (N5 : Int))).setCell ⟨Y, 2, none⟩ (.slice a5 m5 c5)) = W := ⟨_, rfl⟩
            rw [hw6] at hl6 hy6 hb6 hk6
            have HL6 := hide hl6
            have HY6 := hide hy6
            have HB6 := hide hb6
            clear hy5 hl6 hy6 hb6
            go_wp2
            refine OnToQ.mk hk5 (Sub.refl _) ?_
            clear hk5
            have inh : Nonempty (GrK (fun b => b < Y ∨ b = b2) w5wk2) := GrK.some _ w5wk2
            refine growQ_plain [20, 21, 22] 2 #[true, true, true, true, true, true, true, true, true, true, true, true, true, true, true, true, true, true, true, true, true, true, true, false, false] rfl (by kernel_rfl) (by kernel_rfl) ?_
            simp only [getLK, pickLK]
            repeat (go_big_quiet_step (fail))
            refine wpQuiet_nil ?_
            clear inh
            refine growQ_one 23 _ 1 rfl rfl (by kernel_rfl) ?_
            go_wp2
            try rw [hw6]
            refine OnToQ.mk (hk6.mono (fun b hb => by have h1 : b < Y ∨ b = b2 := hb; have h3 := HB2.out; omega)) (Sub.refl _) ?_
            clear y0 y1 y2 yf hk6 hw6
            have inh : Nonempty (GrK (fun b => b < Y ∨ b = b2) w6) := GrK.some _ w6
            refine growQ_plain [24] 0 #[true, true, true, true, true, true, true, true, true, true, true, true, true, true, true, true, true, true, true, true, true, true, true, true, true] rfl (by kernel_rfl) (by kernel_rfl) ?_
            simp only [getLK, pickLK]
            repeat (go_big_quiet_step (fail))
            refine wpQuiet_nil ?_
            clear inh
            refine growQ_end (by kernel_rfl) (by kernel_rfl) ?_
            go_upto_region 18 with fail
            by_cases hc0 : cq = 0
            · subst hc0
              have HKW := hide (HRK.out.then HB6.out)
              have hA1 := HM.out.one (by rw [HCQ.out])
              have hxb := HKW.out.box.cell
              have y0 := lcell_of HY6.out 0 rfl
              have y1 := lcell_of HY6.out 1 rfl
              have y2 := lcell_of HY6.out 2 rfl
              have x0 := lcell_of hxb 0 rfl
              have x1 := lcell_of hxb 1 rfl
              have x2 := lcell_of hxb 2 rfl
              have xf := lfrozen_of hxb
              have hpt := HKW.out.put (A := A) (by rw [hA1]; exact HL6.out) (fun d hd x hx => by rw [HV1.out, HV2.out]; exact HAB.out d hd x hx)
              obtain ⟨w7, hw7⟩ : ∃ W, ((w6.setCell ⟨X, 0, none⟩ (.int .u64 (F5 : Int))).setCell ⟨X, 1, none⟩ (.int .u64 (N5 : Int))).setCell ⟨X, 2, none⟩ (.slice a5 m5 c5) = W := ⟨_, rfl⟩
              rw [hw7] at hpt
              have HPT := hide hpt
              clear hpt hxb hA1
              go_wp2
              try rw [hw7]
              clear hw7
              go_roundw
              case rel => exact ⟨j + 1, F5, N5, a5, m5, c5, by go_num, by omega, by rw [HEA.out]; exact HPT⟩
              case measure => simp [intOf]; omega
            · have HKW := hide (HRK.out.then HB6.out)
              have hA1 := HM.out.no (by rw [HCQ.out]; exact hc0)
              have HA1 := hide hA1
              have hcb : (((cq : Nat) : Int) == 0) = false := beq_eq_false_iff_ne.2 (by omega)
              clear hA1 hc0
              go_wp2
              go_roundw
              case rel => exact ⟨j + 1, F, N, a, m, c, by go_num, by omega, by rw [HEA.out, HA1.out]; exact HKW⟩
              case measure => simp [intOf]; omega
      
        · go_wp2_with fail
          refine (mpick_any sq 2 _ HX.out.sq0 HX.out.sq1 (by omega) (by omega)).mono ?_
          rintro e w3 ⟨rfl, hw3⟩
          rw [hw3, HS2.out]
          clear hw3
          go_wp2
          refine OnToQ.mk (Kept.refl _ _) (Sub.refl _) ?_
          refine growQ_one 10 _ 8 rfl rfl (by kernel_rfl) ?_
          · go_wp2
            have hk2 := kinds2 wq s2 hs2l
            have hbn := bnew wq (.cells #[.int .u8 97, .int .u8 114] 5)
            have hsl : Y < wq.heap.size ∧ wq.heap.size < (wq.alloc (.cells #[.int .u8 97, .int .u8 114] 5)).heap.size := ⟨by have h2 := HBQ.out.size; omega, by simp⟩
            have hb2 : wy.heap.size ≤ wq.heap.size := HBQ.out.size
            refine OnToQ.mk (B' := fun b => b < Y ∨ b = wq.heap.size) ?_ (fun b hb => .inl hb) ?_
            · exact Kept.of_below hbn (fun b hb => by have h1 : b < Y := hb; have h2 := HBQ.out.size; omega)
            have HRQ := hide (HRQ.out.then hbn)
            have HBQ := hide (HBQ.out.trans (hbn.mono HBQ.out.size))
            obtain ⟨b2, hB2⟩ : ∃ y, wq.heap.size = y := ⟨_, rfl⟩
            obtain ⟨wk5, hW⟩ : ∃ z, wq.alloc (.cells #[.int .u8 97, .int .u8 114] 5) = z := ⟨_, rfl⟩
            rw [hB2, hW] at hk2 hsl
            rw [hW] at HRQ HBQ
            try rw [hB2]
            try rw [hW]
            have HB2 := hide hsl
            clear hbn hsl hW hB2
            refine growQ_plain [17, 18] 6 #[true, true, true, true, true, true, true, true, true, true, true, true, true, true, true, true, true, true, true, false, false, false, false, false, false] rfl (by kernel_rfl) (by kernel_rfl) ?_
            simp only [getLK, pickLK]
            have inh : Nonempty (GrK (fun b => b < Y ∨ b = b2) wk5) := GrK.some _ wk5
            have xk := fun z : GrK (fun b => b < Y ∨ b = b2) wk5 => z.cell (a := ⟨b2, s2, none⟩) (.inr rfl) hk2
            repeat (go_big_quiet_step (fail))
            refine wpQuiet_nil ?_
            clear inh xk hk2
            refine growQ_one 19 _ 5 rfl rfl (by kernel_rfl) ?_
            go_wp2_with fail
            refine (ldone_any HRQ.out.box.led HF.out n T (Mrk.kd2 s2)).mono ?_
            rintro e w5wk5 ⟨rv, rfl, hl, hb5⟩
            rw [Ldg.done_abs HRO.out] at hl ⊢
            have hk5 : Kept (fun b => b < Y ∨ b = b2) wk5 w5wk5 := Kept.of_below hb5 (fun b hb => by have h1 : b < Y ∨ b = b2 := hb; have h2 := HBQ.out.size; have h3 := HB2.out; omega)
            have HB5 := hide (bl HBQ.out hb5)
            clear hb5
            obtain ⟨Q, hQ⟩ : ∃ Q, R.done n T (Mrk.kd2 s2) = Q := ⟨_, rfl⟩
            rw [hQ] at hl HM ⊢
            clear hQ
            obtain ⟨a5, m5, c5, rfl, hmm, hl⟩ := hl.view
            clear hmm
            obtain ⟨F5, hF5⟩ : ∃ x, Q.1.abs.first = x := ⟨_, rfl⟩
            obtain ⟨N5, hN5⟩ : ∃ x, Q.1.abs.next = x := ⟨_, rfl⟩
            rw [hF5, hN5] at hl ⊢
            obtain ⟨cq, hcq⟩ : ∃ x, Q.2 = x := ⟨_, rfl⟩
            try rw [hcq]
            have HCQ := hide hcq
            have HL5 := hide hl
            clear hF5 hN5 hcq hl
            have hy5 := at_then HYY.out HB5.out
            have y0 := lcell_of hy5 0 rfl
            have y1 := lcell_of hy5 1 rfl
            have y2 := lcell_of hy5 2 rfl
            have yf := lfrozen_of hy5
            have hk6 := kept3 w5wk5 Y (.int .u64 (F5 : Int)) (.int .u64 (N5 : Int)) (.slice a5 m5 c5)
            have hl6 := HL5.out.over (fun d hd x hx => by rw [HV1.out, HV2.out]; exact Mrk.made_away HM.out HAB.out d hd x hx) hy5 hk6
            have hy6 := set3 hy5 (.int .u64 (F5 : Int)) (.int .u64 (N5 : Int)) (.slice a5 m5 c5)
            have hb6 : Below W1.heap.size W1 (((w5wk5.setCell ⟨Y, 0, none⟩ (.int .u64 (F5 : Int))).setCell ⟨Y, 1, none⟩ (.int .u64 (N5 : Int))).setCell ⟨Y, 2, none⟩ (.slice a5 m5 c5)) := (HBY.out.trans (HB5.out.mono HBY.out.size)).trans (hk6.bel (fun b hb => by have := HYW.out; omega))
            obtain ⟨w6, hw6⟩ : ∃ W, (((w5wk5.setCell ⟨Y, 0, none⟩ (.int .u64 (F5 : Int))).setCell ⟨Y, 1, none⟩ (.int .u64 (N5 : Int))).setCell ⟨Y, 2, none⟩ (.slice a5 m5 c5)) = W := ⟨_, rfl⟩
            rw [hw6] at hl6 hy6 hb6 hk6
            have HL6 := hide hl6
            have HY6 := hide hy6
            have HB6 := hide hb6
            clear hy5 hl6 hy6 hb6
            go_wp2
            refine OnToQ.mk hk5 (Sub.refl _) ?_
            clear hk5
            have inh : Nonempty (GrK (fun b => b < Y ∨ b = b2) w5wk5) := GrK.some _ w5wk5
            refine growQ_plain [20, 21, 22] 2 #[true, true, true, true, true, true, true, true, true, true, true, true, true, true, true, true, true, true, true, true, true, true, true, false, false] rfl (by kernel_rfl) (by kernel_rfl) ?_
            simp only [getLK, pickLK]
            repeat (go_big_quiet_step (fail))
            refine wpQuiet_nil ?_
            clear inh
            refine growQ_one 23 _ 1 rfl rfl (by kernel_rfl) ?_
            go_wp2
            try rw [hw6]
            refine OnToQ.mk (hk6.mono (fun b hb => by have h1 : b < Y ∨ b = b2 := hb; have h3 := HB2.out; omega)) (Sub.refl _) ?_
            clear y0 y1 y2 yf hk6 hw6
            have inh : Nonempty (GrK (fun b => b < Y ∨ b = b2) w6) := GrK.some _ w6
            refine growQ_plain [24] 0 #[true, true, true, true, true, true, true, true, true, true, true, true, true, true, true, true, true, true, true, true, true, true, true, true, true] rfl (by kernel_rfl) (by kernel_rfl) ?_
            simp only [getLK, pickLK]
            repeat (go_big_quiet_step (fail))
            refine wpQuiet_nil ?_
            clear inh
            refine growQ_end (by kernel_rfl) (by kernel_rfl) ?_
            go_upto_region 18 with fail
            by_cases hc0 : cq = 0
            · subst hc0
              have HKW := hide (HRK.out.then HB6.out)
              have hA1 := HM.out.one (by rw [HCQ.out])
              have hxb := HKW.out.box.cell
              have y0 := lcell_of HY6.out 0 rfl
              have y1 := lcell_of HY6.out 1 rfl
              have y2 := lcell_of HY6.out 2 rfl
              have x0 := lcell_of hxb 0 rfl
              have x1 := lcell_of hxb 1 rfl
              have x2 := lcell_of hxb 2 rfl
              have xf := lfrozen_of hxb
              have hpt := HKW.out.put (A := A) (by rw [hA1]; exact HL6.out) (fun d hd x hx => by rw [HV1.out, HV2.out]; exact HAB.out d hd x hx)
              obtain ⟨w7, hw7⟩ : ∃ W, ((w6.setCell ⟨X, 0, none⟩ (.int .u64 (F5 : Int))).setCell ⟨X, 1, none⟩ (.int .u64 (N5 : Int))).setCell ⟨X, 2, none⟩ (.slice a5 m5 c5) = W := ⟨_, rfl⟩
              rw [hw7] at hpt
              have HPT := hide hpt
              clear hpt hxb hA1
              go_wp2
              try rw [hw7]
              clear hw7
              go_roundw
              case rel => exact ⟨j + 1, F5, N5, a5, m5, c5, by go_num, by omega, by rw [HEA.out]; exact HPT⟩
              case measure => simp [intOf]; omega
            · have HKW := hide (HRK.out.then HB6.out)
              have hA1 := HM.out.no (by rw [HCQ.out]; exact hc0)
              have HA1 := hide hA1
              have hcb : (((cq : Nat) : Int) == 0) = false := beq_eq_false_iff_ne.2 (by omega)
              clear hA1 hc0
              go_wp2
              go_roundw
              case rel => exact ⟨j + 1, F, N, a, m, c, by go_num, by omega, by rw [HEA.out, HA1.out]; exact HKW⟩
              case measure => simp [intOf]; omega
      
      · go_wp2
        have hk2 := kinds2 wq s2 hs2l
        have hbn := bnew wq (.cells #[.int .u8 97, .int .u8 114] 5)
        have hsl : Y < wq.heap.size ∧ wq.heap.size < (wq.alloc (.cells #[.int .u8 97, .int .u8 114] 5)).heap.size := ⟨by have h2 := HBQ.out.size; omega, by simp⟩
        have hb2 : wy.heap.size ≤ wq.heap.size := HBQ.out.size
        refine OnToQ.mk (B' := fun b => b < Y ∨ b = wq.heap.size) ?_ (fun b hb => .inl hb) ?_
        · exact Kept.of_below hbn (fun b hb => by have h1 : b < Y := hb; have h2 := HBQ.out.size; omega)
        have HRQ := hide (HRQ.out.then hbn)
        have HBQ := hide (HBQ.out.trans (hbn.mono HBQ.out.size))
        obtain ⟨b2, hB2⟩ : ∃ y, wq.heap.size = y := ⟨_, rfl⟩
        obtain ⟨wk6, hW⟩ : ∃ z, wq.alloc (.cells #[.int .u8 97, .int .u8 114] 5) = z := ⟨_, rfl⟩
        rw [hB2, hW] at hk2 hsl
        rw [hW] at HRQ HBQ
        try rw [hB2]
        try rw [hW]
        have HB2 := hide hsl
        clear hbn hsl hW hB2
        refine growQ_one 7 _ 11 rfl rfl (by kernel_rfl) ?_
        · go_wp2_with fail
          refine (mpick_any sq 20 _ HX.out.sq0 HX.out.sq1 (by omega) (by omega)).mono ?_
          rintro e w3 ⟨rfl, hw3⟩
          rw [hw3, HS20.out]
          clear hw3
          go_wp2
          refine OnToQ.mk (Kept.refl _ _) (Sub.refl _) ?_
          have inh : Nonempty (GrK (fun b => b < Y ∨ b = b2) wk6) := GrK.some _ wk6
          refine growQ_plain [8, 9] 9 #[true, true, true, true, true, true, true, true, true, true, true, true, true, true, true, true, false, false, false, false, false, false, false, false, false] rfl (by kernel_rfl) (by kernel_rfl) ?_
          simp only [getLK, pickLK]
          repeat (go_big_quiet_step (fail))
          refine wpQuiet_nil ?_
          clear inh
          refine growQ_one 16 _ 8 rfl rfl (by kernel_rfl) ?_
          · go_wp2_with fail
            refine (mpick_any sq 2 _ HX.out.sq0 HX.out.sq1 (by omega) (by omega)).mono ?_
            rintro e w3 ⟨rfl, hw3⟩
            rw [hw3, HS2.out]
            clear hw3
            go_wp2
            refine OnToQ.mk (Kept.refl _ _) (Sub.refl _) ?_
            refine growQ_plain [17, 18] 6 #[true, true, true, true, true, true, true, true, true, true, true, true, true, true, true, true, true, true, true, false, false, false, false, false, false] rfl (by kernel_rfl) (by kernel_rfl) ?_
            simp only [getLK, pickLK]
            have inh : Nonempty (GrK (fun b => b < Y ∨ b = b2) wk6) := GrK.some _ wk6
            have xk := fun z : GrK (fun b => b < Y ∨ b = b2) wk6 => z.cell (a := ⟨b2, s2, none⟩) (.inr rfl) hk2
            repeat (go_big_quiet_step (fail))
            refine wpQuiet_nil ?_
            clear inh xk hk2
            refine growQ_one 19 _ 5 rfl rfl (by kernel_rfl) ?_
            go_wp2_with fail
            refine (ldone_any HRQ.out.box.led HF.out n T (Mrk.kd2 s2)).mono ?_
            rintro e w5wk6 ⟨rv, rfl, hl, hb5⟩
            rw [Ldg.done_abs HRO.out] at hl ⊢
            have hk5 : Kept (fun b => b < Y ∨ b = b2) wk6 w5wk6 := Kept.of_below hb5 (fun b hb => by have h1 : b < Y ∨ b = b2 := hb; have h2 := HBQ.out.size; have h3 := HB2.out; omega)
            have HB5 := hide (bl HBQ.out hb5)
            clear hb5
            obtain ⟨Q, hQ⟩ : ∃ Q, R.done n T (Mrk.kd2 s2) = Q := ⟨_, rfl⟩
            rw [hQ] at hl HM ⊢
            clear hQ
            obtain ⟨a5, m5, c5, rfl, hmm, hl⟩ := hl.view
            clear hmm
            obtain ⟨F5, hF5⟩ : ∃ x, Q.1.abs.first = x := ⟨_, rfl⟩
            obtain ⟨N5, hN5⟩ : ∃ x, Q.1.abs.next = x := ⟨_, rfl⟩
            rw [hF5, hN5] at hl ⊢
            obtain ⟨cq, hcq⟩ : ∃ x, Q.2 = x := ⟨_, rfl⟩
            try rw [hcq]
            have HCQ := hide hcq
            have HL5 := hide hl
            clear hF5 hN5 hcq hl
            have hy5 := at_then HYY.out HB5.out
            have y0 := lcell_of hy5 0 rfl
            have y1 := lcell_of hy5 1 rfl
            have y2 := lcell_of hy5 2 rfl
            have yf := lfrozen_of hy5
            have hk6 := kept3 w5wk6 Y (.int .u64 (F5 : Int)) (.int .u64 (N5 : Int)) (.slice a5 m5 c5)
            have hl6 := HL5.out.over (fun d hd x hx => by rw [HV1.out, HV2.out]; exact Mrk.made_away HM.out HAB.out d hd x hx) hy5 hk6
            have hy6 := set3 hy5 (.int .u64 (F5 : Int)) (.int .u64 (N5 : Int)) (.slice a5 m5 c5)
            have hb6 : Below W1.heap.size W1 (((w5wk6.setCell ⟨Y, 0, none⟩ (.int .u64 (F5 : Int))).setCell ⟨Y, 1, none⟩ (.int .u64 (N5 : Int))).setCell ⟨Y, 2, none⟩ (.slice a5 m5 c5)) := (HBY.out.trans (HB5.out.mono HBY.out.size)).trans (hk6.bel (fun b hb => by have := HYW.out; omega))
            obtain ⟨w6, hw6⟩ : ∃ W, (((w5wk6.setCell ⟨Y, 0, none⟩ (.int .u64 (F5 : Int))).setCell ⟨Y, 1, none⟩ (.int .u64 (N5 : Int))).setCell ⟨Y, 2, none⟩ (.slice a5 m5 c5)) = W := ⟨_, rfl⟩
            rw [hw6] at hl6 hy6 hb6 hk6
            have HL6 := hide hl6
            have HY6 := hide hy6
            have HB6 := hide hb6
            clear hy5 hl6 hy6 hb6
            go_wp2
            refine OnToQ.mk hk5 (Sub.refl _) ?_
            clear hk5
            have inh : Nonempty (GrK (fun b => b < Y ∨ b = b2) w5wk6) := GrK.some _ w5wk6
            refine growQ_plain [20, 21, 22] 2 #[true, true, true, true, true, true, true, true, true, true, true, true, true, true, true, true, true, true, true, true, true, true, true, false, false] rfl (by kernel_rfl) (by kernel_rfl) ?_
            simp only [getLK, pickLK]
            repeat (go_big_quiet_step (fail))
            refine wpQuiet_nil ?_
            clear inh
            refine growQ_one 23 _ 1 rfl rfl (by kernel_rfl) ?_
            go_wp2
            try rw [hw6]
            refine OnToQ.mk (hk6.mono (fun b hb => by have h1 : b < Y ∨ b = b2 := hb; have h3 := HB2.out; omega)) (Sub.refl _) ?_
            clear y0 y1 y2 yf hk6 hw6
            have inh : Nonempty (GrK (fun b => b < Y ∨ b = b2) w6) := GrK.some _ w6
            refine growQ_plain [24] 0 #[true, true, true, true, true, true, true, true, true, true, true, true, true, true, true, true, true, true, true, true, true, true, true, true, true] rfl (by kernel_rfl) (by kernel_rfl) ?_
            simp only [getLK, pickLK]
            repeat (go_big_quiet_step (fail))
            refine wpQuiet_nil ?_
            clear inh
            refine growQ_end (by kernel_rfl) (by kernel_rfl) ?_
            go_upto_region 18 with fail
            by_cases hc0 : cq = 0
            · subst hc0
              have HKW := hide (HRK.out.then HB6.out)
              have hA1 := HM.out.one (by rw [HCQ.out])
              have hxb := HKW.out.box.cell
              have y0 := lcell_of HY6.out 0 rfl
              have y1 := lcell_of HY6.out 1 rfl
              have y2 := lcell_of HY6.out 2 rfl
              have x0 := lcell_of hxb 0 rfl
              have x1 := lcell_of hxb 1 rfl
              have x2 := lcell_of hxb 2 rfl
              have xf := lfrozen_of hxb
              have hpt := HKW.out.put (A := A) (by rw [hA1]; exact HL6.out) (fun d hd x hx => by rw [HV1.out, HV2.out]; exact HAB.out d hd x hx)
              obtain ⟨w7, hw7⟩ : ∃ W, ((w6.setCell ⟨X, 0, none⟩ (.int .u64 (F5 : Int))).setCell ⟨X, 1, none⟩ (.int .u64 (N5 : Int))).setCell ⟨X, 2, none⟩ (.slice a5 m5 c5) = W := ⟨_, rfl⟩
              rw [hw7] at hpt
              have HPT := hide hpt
              clear hpt hxb hA1
              go_wp2
              try rw [hw7]
              clear hw7
              go_roundw
              case rel => exact ⟨j + 1, F5, N5, a5, m5, c5, by go_num, by omega, by rw [HEA.out]; exact HPT⟩
              case measure => simp [intOf]; omega
            · have HKW := hide (HRK.out.then HB6.out)
              have hA1 := HM.out.no (by rw [HCQ.out]; exact hc0)
              have HA1 := hide hA1
              have hcb : (((cq : Nat) : Int) == 0) = false := beq_eq_false_iff_ne.2 (by omega)
              clear hA1 hc0
              go_wp2
              go_roundw
              case rel => exact ⟨j + 1, F, N, a, m, c, by go_num, by omega, by rw [HEA.out, HA1.out]; exact HKW⟩
              case measure => simp [intOf]; omega
      
    obtain ⟨s3, hs3⟩ : ∃ s, pk sq 3 = s := ⟨_, rfl⟩
    have hs3l : s3 < 3 := by rw [← hs3]; exact pk_lt sq (by omega)
    obtain ⟨T, hT⟩ : ∃ T, F + s3 = T := ⟨_, rfl⟩
    have hsT : Mrk.seqOf R k sq = T := by unfold Mrk.seqOf; rw [if_neg n3, hs3, ← HV1.out, hT]
    have hF7 : F ≤ 10000000 := by rw [HV1.out]; have h1 := HRO.out.fn; have h2 := HRO.out.nb; omega
    have q1 : IntKind.u64.wrap ((s3 : Nat) : Int) = (s3 : Int) := by rw [IntKind.wrap_u64]; omega
    have q2 : ((F : Nat) : Int) + (s3 : Int) = (T : Int) := by omega
    have q3 : IntKind.u64.wrap ((T : Nat) : Int) = (T : Int) := by rw [IntKind.wrap_u64]; omega
    have HS3 := hide hs3
    have HM := hide (show Ldg.Made R A (R.evict T) from ⟨by rw [← HACT.out]; unfold Ldg.Rl.act Ldg.Rl.does; rw [if_neg n0, if_neg n1, if_neg n2, if_neg n3, hsT], fun h => Ldg.evict_ok HRO.out h, fun h => Ldg.evict_bad h⟩)
    clear hs3 hT hsT
    go_wp2_with fail
    refine wp_region_growQ (fun b => b < Y) 17 rfl (by kernel_rfl) ?_
    intro wq hbq
    have HRQ := hide ((HRK.out.then HBY.out).then hbq)
    have HBQ := hide hbq
    have inh : Nonempty (GrK (fun b => b < Y) wq) := GrK.some _ wq
    have x0 := fun z : GrK (fun b => b < Y) wq => z.cell (a := ⟨X, 0, none⟩) hXY (lcell_of HRQ.out.box.cell 0 rfl)
    have x1 := fun z : GrK (fun b => b < Y) wq => z.cell (a := ⟨X, 1, none⟩) hXY (lcell_of HRQ.out.box.cell 1 rfl)
    have x2 := fun z : GrK (fun b => b < Y) wq => z.cell (a := ⟨X, 2, none⟩) hXY (lcell_of HRQ.out.box.cell 2 rfl)
    have d2 := fun z : GrK (fun b => b < Y) wq => z.cell (a := ⟨g, o + j * 3 + 2, none⟩) hgY ((hbq.cell (p := ⟨g, o + j * 3 + 2, none⟩) hgy).trans HC.out.c2)
    clear hbq
    refine growQ_plain [0, 1, 2, 3, 4, 5, 6, 7] 9 #[true, true, true, true, true, true, true, true, false, false, false, false, false, false, false, false, false] rfl (by kernel_rfl) (by kernel_rfl) ?_
    simp only [getLK, pickLK]
    repeat (go_big_quiet_step (fail))
    refine wpQuiet_nil ?_
    clear x0 x1 x2 d2 inh
    refine growQ_one 8 _ 8 rfl rfl (by kernel_rfl) ?_
    go_wp2_with fail
    refine (mpick_any sq 3 _ HX.out.sq0 HX.out.sq1 (by omega) (by omega)).mono ?_
    rintro e w3 ⟨rfl, hw3⟩
    rw [hw3, HS3.out]
    clear hw3
    go_wp2
    refine OnToQ.mk (Kept.refl _ _) (Sub.refl _) ?_
    have inh : Nonempty (GrK (fun b => b < Y) wq) := GrK.some _ wq
    refine growQ_plain [9, 10] 6 #[true, true, true, true, true, true, true, true, true, true, true, false, false, false, false, false, false] rfl (by kernel_rfl) (by kernel_rfl) ?_
    simp only [getLK, pickLK]
    repeat (go_big_quiet_step (fail))
    refine wpQuiet_nil ?_
    clear inh q1 q2 q3
    refine growQ_one 11 _ 5 rfl rfl (by kernel_rfl) ?_
    go_wp2_with fail
    refine (levict_any HRQ.out.box.led HF.out T).mono ?_
    rintro e w5 ⟨rv, rfl, hl, hb5⟩
    rw [Ldg.evict_abs HRO.out] at hl ⊢
    have hk5 : Kept (fun b => b < Y) wq w5 := Kept.of_below hb5 (fun b hb => by have h1 : b < Y := hb; have h2 := HBQ.out.size; omega)
    have HB5 := hide (bl HBQ.out hb5)
    clear hb5
    obtain ⟨Q, hQ⟩ : ∃ Q, R.evict T = Q := ⟨_, rfl⟩
    rw [hQ] at hl HM ⊢
    clear hQ
    obtain ⟨a5, m5, c5, rfl, hmm, hl⟩ := hl.view
    clear hmm
    obtain ⟨F5, hF5⟩ : ∃ x, Q.1.abs.first = x := ⟨_, rfl⟩
    obtain ⟨N5, hN5⟩ : ∃ x, Q.1.abs.next = x := ⟨_, rfl⟩
    rw [hF5, hN5] at hl ⊢
    obtain ⟨cq, hcq⟩ : ∃ x, Q.2 = x := ⟨_, rfl⟩
    try rw [hcq]
    have HCQ := hide hcq
    have HL5 := hide hl
    clear hF5 hN5 hcq hl
    have hy5 := at_then HYY.out HB5.out
    have y0 := lcell_of hy5 0 rfl
    have y1 := lcell_of hy5 1 rfl
    have y2 := lcell_of hy5 2 rfl
    have yf := lfrozen_of hy5
    have hk6 := kept3 w5 Y (.int .u64 (F5 : Int)) (.int .u64 (N5 : Int)) (.slice a5 m5 c5)
    have hl6 := HL5.out.over (fun d hd x hx => by rw [HV1.out, HV2.out]; exact Mrk.made_away HM.out HAB.out d hd x hx) hy5 hk6
    have hy6 := set3 hy5 (.int .u64 (F5 : Int)) (.int .u64 (N5 : Int)) (.slice a5 m5 c5)
    have hb6 : Below W1.heap.size W1 (((w5.setCell ⟨Y, 0, none⟩ (.int .u64 (F5 : Int))).setCell ⟨Y, 1, none⟩ (.int .u64 (N5 : Int))).setCell ⟨Y, 2, none⟩ (.slice a5 m5 c5)) := (HBY.out.trans (HB5.out.mono HBY.out.size)).trans (hk6.bel (fun b hb => by have := HYW.out; omega))
    obtain ⟨w6, hw6⟩ : ∃ W, (((w5.setCell ⟨Y, 0, none⟩ (.int .u64 (F5 : Int))).setCell ⟨Y, 1, none⟩ (.int .u64 (N5 : Int))).setCell ⟨Y, 2, none⟩ (.slice a5 m5 c5)) = W := ⟨_, rfl⟩
    rw [hw6] at hl6 hy6 hb6 hk6
    have HL6 := hide hl6
    have HY6 := hide hy6
    have HB6 := hide hb6
    clear hy5 hl6 hy6 hb6
    go_wp2
    refine OnToQ.mk hk5 (Sub.refl _) ?_
    clear hk5
    have inh : Nonempty (GrK (fun b => b < Y) w5) := GrK.some _ w5
    refine growQ_plain [12, 13, 14] 2 #[true, true, true, true, true, true, true, true, true, true, true, true, true, true, true, false, false] rfl (by kernel_rfl) (by kernel_rfl) ?_
    simp only [getLK, pickLK]
    repeat (go_big_quiet_step (fail))
    refine wpQuiet_nil ?_
    clear inh
    refine growQ_one 15 _ 1 rfl rfl (by kernel_rfl) ?_
    go_wp2
    try rw [hw6]
    refine OnToQ.mk (hk6.mono (fun b hb => by have h1 : b < Y := hb; omega)) (Sub.refl _) ?_
    clear y0 y1 y2 yf hk6 hw6
    have inh : Nonempty (GrK (fun b => b < Y) w6) := GrK.some _ w6
    refine growQ_plain [16] 0 #[true, true, true, true, true, true, true, true, true, true, true, true, true, true, true, true, true] rfl (by kernel_rfl) (by kernel_rfl) ?_
    simp only [getLK, pickLK]
    repeat (go_big_quiet_step (fail))
    refine wpQuiet_nil ?_
    clear inh
    refine growQ_end (by kernel_rfl) (by kernel_rfl) ?_
    go_upto_region 18 with fail
    by_cases hc0 : cq = 0
    · subst hc0
      have HKW := hide (HRK.out.then HB6.out)
      have hA1 := HM.out.one (by rw [HCQ.out])
      have hxb := HKW.out.box.cell
      have y0 := lcell_of HY6.out 0 rfl
      have y1 := lcell_of HY6.out 1 rfl
      have y2 := lcell_of HY6.out 2 rfl
      have x0 := lcell_of hxb 0 rfl
      have x1 := lcell_of hxb 1 rfl
      have x2 := lcell_of hxb 2 rfl
      have xf := lfrozen_of hxb
      have hpt := HKW.out.put (A := A) (by rw [hA1]; exact HL6.out) (fun d hd x hx => by rw [HV1.out, HV2.out]; exact HAB.out d hd x hx)
      obtain ⟨w7, hw7⟩ : ∃ W, ((w6.setCell ⟨X, 0, none⟩ (.int .u64 (F5 : Int))).setCell ⟨X, 1, none⟩ (.int .u64 (N5 : Int))).setCell ⟨X, 2, none⟩ (.slice a5 m5 c5) = W := ⟨_, rfl⟩
      rw [hw7] at hpt
      have HPT := hide hpt
      clear hpt hxb hA1
      go_wp2
      try rw [hw7]
      clear hw7
      go_roundw
      case rel => exact ⟨j + 1, F5, N5, a5, m5, c5, by go_num, by omega, by rw [HEA.out]; exact HPT⟩
      case measure => simp [intOf]; omega
    · have HKW := hide (HRK.out.then HB6.out)
      have hA1 := HM.out.no (by rw [HCQ.out]; exact hc0)
      have HA1 := hide hA1
      have hcb : (((cq : Nat) : Int) == 0) = false := beq_eq_false_iff_ne.2 (by omega)
      clear hA1 hc0
      go_wp2
      go_roundw
      case rel => exact ⟨j + 1, F, N, a, m, c, by go_num, by omega, by rw [HEA.out, HA1.out]; exact HKW⟩
      case measure => simp [intOf]; omega
end Go.Proofs.Ytjbdofjheeljkaa
