/-
  The statements' own does: an act, by the program and by the document.
-/
import Derived.Test.YtjbdofjheeljkaaLdgPutW
import Derived.Test.YtjbdofjheeljkaaLdgLeaveW
namespace Go.Proofs.Ytjbdofjheeljkaa
open Go.RowKit
open Ldg (De Le Rd Rl)

/-- What an act makes, and what comes of it. -/
structure Ldg.Made (R A : Rl) (Q : Rl × Nat) : Prop where
  act : A = if Q.2 = 0 then Q.1 else R
  ok : Q.2 = 0 → Q.1.Ok
  bad : Q.2 ≠ 0 → Q.1 = Rl.none
theorem Ldg.Made.sz {R A : Rl} {Q : Rl × Nat} (h : Ldg.Made R A Q) : Q.1.Sz := by
  by_cases e : Q.2 = 0
  · exact sz_of (h.ok e)
  · rw [h.bad e]; exact sz_none
theorem Ldg.Made.pos {R A : Rl} {Q : Rl × Nat} (h : Ldg.Made R A Q) : ∀ d ∈ Q.1.abs.dests, ∀ x ∈ d.above, x ≠ 0 := by
  by_cases e : Q.2 = 0
  · exact above_pos (h.ok e)
  · rw [h.bad e]; exact none_pos
theorem Ldg.Made.one {R A : Rl} {Q : Rl × Nat} (h : Ldg.Made R A Q) (e : Q.2 = 0) : A = Q.1 := by rw [h.act, if_pos e]
theorem Ldg.Made.no {R A : Rl} {Q : Rl × Nat} (h : Ldg.Made R A Q) (e : Q.2 ≠ 0) : A = R := by rw [h.act, if_neg e]
/-- What does tells. -/
def DoesE (w : World) (R : Rl) (e : Ending) (w' : World) : Prop := ∃ x y, e = .returned (.tuple #[x, y, .bool true]) ∧ LedAt w' x R.abs ∧ RlAt w' y R ∧ Below w.heap.size w w'
set_option maxRecDepth 100000 in
set_option maxHeartbeats 3200000 in
theorem does_any {w : World} {x y : Value} {R : Rl} (hx : LedAt w x R.abs) (hy : RlAt w y R) (hR : R.Ok) (hn : R.next < 10000000) (op nm sq kd : Int)
    (ho0 : -9223372036854775808 ≤ op) (ho1 : op ≤ 9223372036854775807) (hm0 : -9223372036854775808 ≤ nm) (hm1 : nm ≤ 9223372036854775807) (hk0 : -9223372036854775808 ≤ kd) (hk1 : kd ≤ 9223372036854775807) :
    Calls Try.prog 18 #[x, y, .agg #[.int .i64 op, .int .i64 nm, .int .i64 sq, .int .i64 kd]] w (DoesE w (R.act (pk op 11) (nameAt (pk nm 6)) (IntKind.u64.wrap sq).toNat (kindOf (pk kd 8)))) := by
  have HX := hide hx
  have HY := hide hy
  have HR := hide hR
  have HF := hide (Ldg.abs_fit hR)
  obtain ⟨a, c, ps, rfl, hc, hd, hds⟩ := hx
  obtain ⟨a2, c2, qs, rfl, hc2, hd2, hrs⟩ := hy
  have hF : R.first ≤ 10000000 := by have := hR.fn; have := hR.nb; omega
  have hN : R.next ≤ 10000000 := hR.nb
  have hmn : ps.length ≤ 4 := many_of HF.out hd
  have hmn2 : qs.length ≤ 4 := rmany_of hR hd2
  have eF : R.abs.first = R.first := rfl
  have eN : R.abs.next = R.next := rfl
  rw [eF, eN] at HX ⊢
  obtain ⟨F, hFF⟩ : ∃ F, R.first = F := ⟨_, rfl⟩
  obtain ⟨N, hNN⟩ : ∃ N, R.next = N := ⟨_, rfl⟩
  rw [hFF, hNN] at HX HY ⊢
  rw [hFF] at hF
  rw [hNN] at hN
  obtain ⟨m, hm⟩ : ∃ m, ps.length = m := ⟨_, rfl⟩
  obtain ⟨m2, hm2⟩ : ∃ m, qs.length = m := ⟨_, rfl⟩
  rw [hm] at HX hmn hc ⊢
  rw [hm2] at HY hmn2 hc2 ⊢
  obtain ⟨k, hk⟩ : ∃ k, pk op 11 = k := ⟨_, rfl⟩
  have hk11 : k < 11 := by rw [← hk]; exact pk_lt op (by omega)
  obtain ⟨n, hnn⟩ : ∃ n, nameAt (pk nm 6) = n := ⟨_, rfl⟩
  have hns : n.size ≤ 1000000000 := by rw [← hnn, nameAt_size]; omega
  obtain ⟨kk, hkk⟩ : ∃ q, kindOf (pk kd 8) = q := ⟨_, rfl⟩
  obtain ⟨s, hs⟩ : ∃ s : Nat, IntKind.u64.wrap sq = (s : Int) := ⟨(IntKind.u64.wrap sq).toNat, (Int.toNat_of_nonneg (wrap_u64_nonneg sq)).symm⟩
  rw [hk, hnn, hkk, hs, Int.toNat_natCast]
  have HK := hide hk
  have HN := hide hnn
  have HKK := hide hkk
  have HNX := hide hn
  obtain ⟨wA, hwA⟩ : ∃ W, ((((w.alloc (.cells #[.int .u64 (F : Int), .int .u64 (N : Int), .slice a m c] 27)).alloc (.cells #[.int .u64 (F : Int), .int .u64 (N : Int), .slice a2 m2 c2] 31)).alloc (.cells #[.int .i64 op, .int .i64 nm, .int .i64 sq, .int .i64 kd] 36)).alloc (.cells #[.int .u64 0, .int .u64 0, .slice none 0 0] 27)).alloc (.cells #[.int .u64 0, .int .u64 0, .slice none 0 0] 31) = W := ⟨_, rfl⟩
  have HWA := hide hwA
  have act1 := lcell_of (five_at w _ _ _ _ _ hwA).2.2.1 1 rfl
  clear hds hrs hd hd2 hR hk hnn hkk hn eF eN hFF hNN hm hm2
  go_enter Try.func18, Try.ntmps18
  go_wp2_with fail
  refine (lname_any nm _ hm0 hm1).mono ?_
  rintro e w1 ⟨rfl, hb1⟩
  rw [HN.out]
  clear hwA act1
  obtain ⟨X, hX⟩ : ∃ X, w1.heap.size = X := ⟨_, rfl⟩
  have HBX := hide (BoxD.made hX HWA.out hb1)
  have act0 := lcell_of HBX.out.c2 0 rfl
  clear hb1
  go_wp2_with fail
  refine (pick_any op 11 _ ho0 ho1 (by omega) (by omega)).mono ?_
  rintro e w2 ⟨rfl, hw2⟩
  rw [hw2, HK.out]
  clear hw2 act0
  obtain ⟨wB, hwB⟩ : ∃ W, (w1.alloc (.cells #[.int .u64 0, .int .u64 0, .slice none 0 0] 27)).alloc (.cells #[.int .u64 0, .int .u64 0, .slice none 0 0] 31) = W := ⟨_, rfl⟩
  rw [hwB] at HBX ⊢
  clear hwB
  -- CASES
  by_cases n0 : k < 4
  · have HM := hide (show Ldg.Made R (R.act k n s kk) (R.add, 0) from ⟨by unfold Ldg.Rl.act Ldg.Rl.does; rw [if_pos n0], fun _ => Ldg.add_ok HR.out HNX.out, fun h => absurd rfl h⟩)
    obtain ⟨A, hA⟩ : ∃ A, R.act k n s kk = A := ⟨_, rfl⟩
    obtain ⟨Q, hQ⟩ : ∃ Q, R.add = Q := ⟨_, rfl⟩
    rw [hA, hQ] at HM
    have HA := hide hA
    have HQ := hide hQ
    clear hQ hA
    have l0 := lcell_of HBX.out.c0 0 rfl
    have l1 := lcell_of HBX.out.c0 1 rfl
    have l2 := lcell_of HBX.out.c0 2 rfl
    go_wp2_with fail
    clear l0 l1 l2
    refine (add_any (HX.out.below HBX.out.bel) HF.out).mono ?_
    rintro e w3 ⟨rv, rfl, hled, hb3⟩
    rw [← Ldg.add_abs, HQ.out] at hled
    have HB3 := hide (HBX.out.then hb3)
    have HL3 := hide hled
    obtain ⟨a3, c3, ps3, rfl, hc3, hd3, hds3⟩ := hled
    have eF3 : Q.abs.first = Q.first := rfl
    have eN3 : Q.abs.next = Q.next := rfl
    rw [eF3, eN3] at HL3 ⊢
    obtain ⟨F3, hF3⟩ : ∃ x, Q.first = x := ⟨_, rfl⟩
    obtain ⟨N3, hN3⟩ : ∃ x, Q.next = x := ⟨_, rfl⟩
    obtain ⟨m3, hm3⟩ : ∃ x, ps3.length = x := ⟨_, rfl⟩
    rw [hF3, hN3, hm3] at HL3 ⊢
    have HF3 := hide hF3
    have HN3 := hide hN3
    clear hc3 hd3 hds3 hb3 eF3 eN3 hF3 hN3 hm3
    have x0 := lcell_of HB3.out.x 0 rfl
    have x1 := lcell_of HB3.out.x 1 rfl
    have x2 := lcell_of HB3.out.x 2 rfl
    have xf := lfrozen_of HB3.out.x
    have hb4 := HB3.out.setx (.int .u64 (F3 : Int)) (.int .u64 (N3 : Int)) (.slice a3 m3 c3)
    have hl4 := HL3.out.put HM.out.pos HB3.out.x (kept3 w3 X (.int .u64 (F3 : Int)) (.int .u64 (N3 : Int)) (.slice a3 m3 c3))
    obtain ⟨w4, hw4⟩ : ∃ W, ((w3.setCell ⟨X, 0, none⟩ (.int .u64 (F3 : Int))).setCell ⟨X, 1, none⟩ (.int .u64 (N3 : Int))).setCell ⟨X, 2, none⟩ (.slice a3 m3 c3) = W := ⟨_, rfl⟩
    rw [hw4] at hb4 hl4
    have HB4 := hide hb4
    have HL4 := hide hl4
    clear hb4 hl4
    have l0 := lcell_of HB4.out.c1 0 rfl
    have l1 := lcell_of HB4.out.c1 1 rfl
    have l2 := lcell_of HB4.out.c1 2 rfl
    go_wp2_with fail
    clear x0 x1 x2 xf hw4 l0 l1 l2
    refine (radd_any (HY.out.below HB4.out.bel) HR.out).mono ?_
    rintro e w5 ⟨rv2, rfl, hrl, hb5⟩
    rw [HQ.out] at hrl
    have HB5 := hide (HB4.out.then hb5)
    have HL5 := hide (HL4.out.below hb5)
    have HR5 := hide hrl
    obtain ⟨a5, c5, ps5, rfl, hc5, hd5, hds5⟩ := hrl
    obtain ⟨m5, hm5⟩ : ∃ x, ps5.length = x := ⟨_, rfl⟩
    rw [HF3.out, HN3.out, hm5] at HR5 ⊢
    clear hc5 hd5 hds5 hb5 hm5
    have x0 := lcell_of HB5.out.y 0 rfl
    have x1 := lcell_of HB5.out.y 1 rfl
    have x2 := lcell_of HB5.out.y 2 rfl
    have xf := lfrozen_of HB5.out.y
    have hb6 := HB5.out.sety (.int .u64 (F3 : Int)) (.int .u64 (N3 : Int)) (.slice a5 m5 c5)
    have hl6 := HL5.out.put HM.out.pos HB5.out.y (kept3 w5 (X + 1) (.int .u64 (F3 : Int)) (.int .u64 (N3 : Int)) (.slice a5 m5 c5))
    have hr6 := HR5.out.put HB5.out.y (kept3 w5 (X + 1) (.int .u64 (F3 : Int)) (.int .u64 (N3 : Int)) (.slice a5 m5 c5))
    obtain ⟨w6, hw6⟩ : ∃ W, ((w5.setCell ⟨X + 1, 0, none⟩ (.int .u64 (F3 : Int))).setCell ⟨X + 1, 1, none⟩ (.int .u64 (N3 : Int))).setCell ⟨X + 1, 2, none⟩ (.slice a5 m5 c5) = W := ⟨_, rfl⟩
    rw [hw6] at hb6 hl6 hr6
    have HB6 := hide hb6
    have HL6 := hide hl6
    have HR6 := hide hr6
    clear hb6 hl6 hr6
    have l0 := lcell_of HB6.out.x 0 rfl
    have l1 := lcell_of HB6.out.x 1 rfl
    have l2 := lcell_of HB6.out.x 2 rfl
    have r0 := lcell_of HB6.out.y 0 rfl
    have r1 := lcell_of HB6.out.y 1 rfl
    have r2 := lcell_of HB6.out.y 2 rfl
    go_wp2_with fail
    clear x0 x1 x2 xf hw6 l0 l1 l2 r0 r1 r2
    refine (as_any HL6.out HR6.out HM.out.sz).mono ?_
    rintro e w7 ⟨rfl, hb7⟩
    have HB7 := hide (HB6.out.then hb7)
    have HL7 := hide (HL6.out.below hb7)
    have HR7 := hide (HR6.out.below hb7)
    clear hb7
    have l0 := lcell_of HB7.out.x 0 rfl
    have l1 := lcell_of HB7.out.x 1 rfl
    have l2 := lcell_of HB7.out.x 2 rfl
    have r0 := lcell_of HB7.out.y 0 rfl
    have r1 := lcell_of HB7.out.y 1 rfl
    have r2 := lcell_of HB7.out.y 2 rfl
    go_wp2_with fail
    clear l0 l1 l2 r0 r1 r2
    have l0 := lcell_of HB7.out.x 0 rfl
    have l1 := lcell_of HB7.out.x 1 rfl
    have l2 := lcell_of HB7.out.x 2 rfl
    have r0 := lcell_of HB7.out.y 0 rfl
    have r1 := lcell_of HB7.out.y 1 rfl
    have r2 := lcell_of HB7.out.y 2 rfl
    have s0 := lcell_of HB7.out.c3 0 rfl
    have s1 := lcell_of HB7.out.c3 1 rfl
    have s2 := lcell_of HB7.out.c3 2 rfl
    have sf := lfrozen_of HB7.out.c3
    have t0 := lcell_of HB7.out.c4 0 rfl
    have t1 := lcell_of HB7.out.c4 1 rfl
    have t2 := lcell_of HB7.out.c4 2 rfl
    have tf := lfrozen_of HB7.out.c4
    have hX5 : w.heap.size + 5 ≤ X := HB7.out.lo
    have hA3 : ¬ (w.heap.size + 1 + 1 + 1 = X + 1) := by omega
    have hB3 : ¬ (X + 1 = w.heap.size + 1 + 1 + 1) := by omega
    go_region
    all_goals go_wp2
    have k1 := kept3 w7 (w.heap.size + 1 + 1 + 1) (.int .u64 (F3 : Int)) (.int .u64 (N3 : Int)) (.slice a3 m3 c3)
    have hx3 := set3 HB7.out.c3 (.int .u64 (F3 : Int)) (.int .u64 (N3 : Int)) (.slice a3 m3 c3)
    have hl8 := HL7.out.put HM.out.pos HB7.out.c3 k1
    have hr8 := HR7.out.put HB7.out.c3 k1
    have hx4 := (k1.block (w.heap.size + 1 + 1 + 1 + 1) (by omega)).trans HB7.out.c4
    have k2 := kept3 (((w7.setCell ⟨w.heap.size + 1 + 1 + 1, 0, none⟩ (.int .u64 (F3 : Int))).setCell ⟨w.heap.size + 1 + 1 + 1, 1, none⟩ (.int .u64 (N3 : Int))).setCell ⟨w.heap.size + 1 + 1 + 1, 2, none⟩ (.slice a3 m3 c3)) (w.heap.size + 1 + 1 + 1 + 1) (.int .u64 (F3 : Int)) (.int .u64 (N3 : Int)) (.slice a5 m5 c5)
    have hl9 := hl8.put HM.out.pos hx4 k2
    have hr9 := hr8.put hx4 k2
    have hy3 := (k2.block (w.heap.size + 1 + 1 + 1) (by omega)).trans hx3
    have hy4 := set3 hx4 (.int .u64 (F3 : Int)) (.int .u64 (N3 : Int)) (.slice a5 m5 c5)
    have hb9 := (HB7.out.bel.trans (k1.bel (B := w.heap.size) (fun b hb => by omega))).trans (k2.bel (B := w.heap.size) (fun b hb => by omega))
    obtain ⟨w9, hw9⟩ : ∃ W, (((((((w7.setCell ⟨w.heap.size + 1 + 1 + 1, 0, none⟩ (.int .u64 (F3 : Int))).setCell ⟨w.heap.size + 1 + 1 + 1, 1, none⟩ (.int .u64 (N3 : Int))).setCell ⟨w.heap.size + 1 + 1 + 1, 2, none⟩ (.slice a3 m3 c3)).setCell ⟨w.heap.size + 1 + 1 + 1 + 1, 0, none⟩ (.int .u64 (F3 : Int))).setCell ⟨w.heap.size + 1 + 1 + 1 + 1, 1, none⟩ (.int .u64 (N3 : Int))).setCell ⟨w.heap.size + 1 + 1 + 1 + 1, 2, none⟩ (.slice a5 m5 c5))) = W := ⟨_, rfl⟩
    rw [hw9] at hl9 hr9 hy3 hy4 hb9 ⊢
    have d0 := lcell_of hy3 0 rfl
    have d1 := lcell_of hy3 1 rfl
    have d2 := lcell_of hy3 2 rfl
    have e0 := lcell_of hy4 0 rfl
    have e1 := lcell_of hy4 1 rfl
    have e2 := lcell_of hy4 2 rfl
    refine bodyPost_ret (v := .tuple #[.agg #[.int .u64 (F3 : Int), .int .u64 (N3 : Int), .slice a3 m3 c3], .agg #[.int .u64 (F3 : Int), .int .u64 (N3 : Int), .slice a5 m5 c5], .bool true]) (by simp [results, Try.results18, go_sem, d0, d1, d2, e0, e1, e2]) rfl ?_
    rw [HA.out, HM.out.one rfl]
    exact ⟨_, _, rfl, hl9.below (Below.refl _ w9).drew, hr9.below (Below.refl _ w9).drew, hb9.drew⟩
  by_cases n1 : k = 4
  · subst n1
    have HM := hide (show Ldg.Made R (R.act 4 n s kk) (R.join n) from ⟨by unfold Ldg.Rl.act Ldg.Rl.does; rw [if_neg n0, if_pos rfl], fun h => Ldg.join_ok HR.out h, fun h => Ldg.join_bad h⟩)
    obtain ⟨A, hA⟩ : ∃ A, R.act 4 n s kk = A := ⟨_, rfl⟩
    obtain ⟨Q, hQ⟩ : ∃ Q, R.join n = Q := ⟨_, rfl⟩
    rw [hA, hQ] at HM
    have HA := hide hA
    have HQ := hide hQ
    clear hQ hA
    have l0 := lcell_of HBX.out.c0 0 rfl
    have l1 := lcell_of HBX.out.c0 1 rfl
    have l2 := lcell_of HBX.out.c0 2 rfl
    have v2 := lcell_of HBX.out.c2 2 rfl
    have v3 := lcell_of HBX.out.c2 3 rfl
    go_wp2_with fail
    clear l0 l1 l2 v2 v3
    refine (ljoin_any (HX.out.below HBX.out.bel) HF.out n hns).mono ?_
    rintro e w3 ⟨rv, rfl, hled, hb3⟩
    rw [Ldg.join_abs, HQ.out] at hled ⊢
    obtain ⟨cq, hcq⟩ : ∃ x, Q.2 = x := ⟨_, rfl⟩
    rw [hcq]
    have HCQ := hide hcq
    clear hcq
    have HB3 := hide (HBX.out.then hb3)
    have HL3 := hide hled
    obtain ⟨a3, c3, ps3, rfl, hc3, hd3, hds3⟩ := hled
    have eF3 : Q.1.abs.first = Q.1.first := rfl
    have eN3 : Q.1.abs.next = Q.1.next := rfl
    rw [eF3, eN3] at HL3 ⊢
    obtain ⟨F3, hF3⟩ : ∃ x, Q.1.first = x := ⟨_, rfl⟩
    obtain ⟨N3, hN3⟩ : ∃ x, Q.1.next = x := ⟨_, rfl⟩
    obtain ⟨m3, hm3⟩ : ∃ x, ps3.length = x := ⟨_, rfl⟩
    rw [hF3, hN3, hm3] at HL3 ⊢
    have HF3 := hide hF3
    have HN3 := hide hN3
    clear hc3 hd3 hds3 hb3 eF3 eN3 hF3 hN3 hm3
    have x0 := lcell_of HB3.out.x 0 rfl
    have x1 := lcell_of HB3.out.x 1 rfl
    have x2 := lcell_of HB3.out.x 2 rfl
    have xf := lfrozen_of HB3.out.x
    have hb4 := HB3.out.setx (.int .u64 (F3 : Int)) (.int .u64 (N3 : Int)) (.slice a3 m3 c3)
    have hl4 := HL3.out.put HM.out.pos HB3.out.x (kept3 w3 X (.int .u64 (F3 : Int)) (.int .u64 (N3 : Int)) (.slice a3 m3 c3))
    obtain ⟨w4, hw4⟩ : ∃ W, ((w3.setCell ⟨X, 0, none⟩ (.int .u64 (F3 : Int))).setCell ⟨X, 1, none⟩ (.int .u64 (N3 : Int))).setCell ⟨X, 2, none⟩ (.slice a3 m3 c3) = W := ⟨_, rfl⟩
    rw [hw4] at hb4 hl4
    have HB4 := hide hb4
    have HL4 := hide hl4
    clear hb4 hl4
    have l0 := lcell_of HB4.out.c1 0 rfl
    have l1 := lcell_of HB4.out.c1 1 rfl
    have l2 := lcell_of HB4.out.c1 2 rfl
    have v2 := lcell_of HB4.out.c2 2 rfl
    have v3 := lcell_of HB4.out.c2 3 rfl
    go_wp2_with fail
    clear x0 x1 x2 xf hw4 l0 l1 l2 v2 v3
    refine (rjoin_any (HY.out.below HB4.out.bel) HR.out n hns).mono ?_
    rintro e w5 ⟨rv2, rfl, hrl, hb5⟩
    rw [HQ.out] at hrl ⊢
    rw [HCQ.out]
    have HB5 := hide (HB4.out.then hb5)
    have HL5 := hide (HL4.out.below hb5)
    have HR5 := hide hrl
    obtain ⟨a5, c5, ps5, rfl, hc5, hd5, hds5⟩ := hrl
    obtain ⟨m5, hm5⟩ : ∃ x, ps5.length = x := ⟨_, rfl⟩
    rw [HF3.out, HN3.out, hm5] at HR5 ⊢
    clear hc5 hd5 hds5 hb5 hm5
    have x0 := lcell_of HB5.out.y 0 rfl
    have x1 := lcell_of HB5.out.y 1 rfl
    have x2 := lcell_of HB5.out.y 2 rfl
    have xf := lfrozen_of HB5.out.y
    have hb6 := HB5.out.sety (.int .u64 (F3 : Int)) (.int .u64 (N3 : Int)) (.slice a5 m5 c5)
    have hl6 := HL5.out.put HM.out.pos HB5.out.y (kept3 w5 (X + 1) (.int .u64 (F3 : Int)) (.int .u64 (N3 : Int)) (.slice a5 m5 c5))
    have hr6 := HR5.out.put HB5.out.y (kept3 w5 (X + 1) (.int .u64 (F3 : Int)) (.int .u64 (N3 : Int)) (.slice a5 m5 c5))
    obtain ⟨w6, hw6⟩ : ∃ W, ((w5.setCell ⟨X + 1, 0, none⟩ (.int .u64 (F3 : Int))).setCell ⟨X + 1, 1, none⟩ (.int .u64 (N3 : Int))).setCell ⟨X + 1, 2, none⟩ (.slice a5 m5 c5) = W := ⟨_, rfl⟩
    rw [hw6] at hb6 hl6 hr6
    have HB6 := hide hb6
    have HL6 := hide hl6
    have HR6 := hide hr6
    clear hb6 hl6 hr6
    have l0 := lcell_of HB6.out.x 0 rfl
    have l1 := lcell_of HB6.out.x 1 rfl
    have l2 := lcell_of HB6.out.x 2 rfl
    have r0 := lcell_of HB6.out.y 0 rfl
    have r1 := lcell_of HB6.out.y 1 rfl
    have r2 := lcell_of HB6.out.y 2 rfl
    go_wp2_with fail
    clear x0 x1 x2 xf hw6 l0 l1 l2 r0 r1 r2
    refine (as_any HL6.out HR6.out HM.out.sz).mono ?_
    rintro e w7 ⟨rfl, hb7⟩
    have HB7 := hide (HB6.out.then hb7)
    have HL7 := hide (HL6.out.below hb7)
    have HR7 := hide (HR6.out.below hb7)
    clear hb7
    by_cases hc0 : cq = 0
    · subst hc0
      have l0 := lcell_of HB7.out.x 0 rfl
      have l1 := lcell_of HB7.out.x 1 rfl
      have l2 := lcell_of HB7.out.x 2 rfl
      have r0 := lcell_of HB7.out.y 0 rfl
      have r1 := lcell_of HB7.out.y 1 rfl
      have r2 := lcell_of HB7.out.y 2 rfl
      go_wp2_with fail
      clear l0 l1 l2 r0 r1 r2
      have l0 := lcell_of HB7.out.x 0 rfl
      have l1 := lcell_of HB7.out.x 1 rfl
      have l2 := lcell_of HB7.out.x 2 rfl
      have r0 := lcell_of HB7.out.y 0 rfl
      have r1 := lcell_of HB7.out.y 1 rfl
      have r2 := lcell_of HB7.out.y 2 rfl
      have s0 := lcell_of HB7.out.c3 0 rfl
      have s1 := lcell_of HB7.out.c3 1 rfl
      have s2 := lcell_of HB7.out.c3 2 rfl
      have sf := lfrozen_of HB7.out.c3
      have t0 := lcell_of HB7.out.c4 0 rfl
      have t1 := lcell_of HB7.out.c4 1 rfl
      have t2 := lcell_of HB7.out.c4 2 rfl
      have tf := lfrozen_of HB7.out.c4
      have hX5 : w.heap.size + 5 ≤ X := HB7.out.lo
      have hA3 : ¬ (w.heap.size + 1 + 1 + 1 = X + 1) := by omega
      have hB3 : ¬ (X + 1 = w.heap.size + 1 + 1 + 1) := by omega
      go_region
      all_goals go_wp2
      have k1 := kept3 w7 (w.heap.size + 1 + 1 + 1) (.int .u64 (F3 : Int)) (.int .u64 (N3 : Int)) (.slice a3 m3 c3)
      have hx3 := set3 HB7.out.c3 (.int .u64 (F3 : Int)) (.int .u64 (N3 : Int)) (.slice a3 m3 c3)
      have hl8 := HL7.out.put HM.out.pos HB7.out.c3 k1
      have hr8 := HR7.out.put HB7.out.c3 k1
      have hx4 := (k1.block (w.heap.size + 1 + 1 + 1 + 1) (by omega)).trans HB7.out.c4
      have k2 := kept3 (((w7.setCell ⟨w.heap.size + 1 + 1 + 1, 0, none⟩ (.int .u64 (F3 : Int))).setCell ⟨w.heap.size + 1 + 1 + 1, 1, none⟩ (.int .u64 (N3 : Int))).setCell ⟨w.heap.size + 1 + 1 + 1, 2, none⟩ (.slice a3 m3 c3)) (w.heap.size + 1 + 1 + 1 + 1) (.int .u64 (F3 : Int)) (.int .u64 (N3 : Int)) (.slice a5 m5 c5)
      have hl9 := hl8.put HM.out.pos hx4 k2
      have hr9 := hr8.put hx4 k2
      have hy3 := (k2.block (w.heap.size + 1 + 1 + 1) (by omega)).trans hx3
      have hy4 := set3 hx4 (.int .u64 (F3 : Int)) (.int .u64 (N3 : Int)) (.slice a5 m5 c5)
      have hb9 := (HB7.out.bel.trans (k1.bel (B := w.heap.size) (fun b hb => by omega))).trans (k2.bel (B := w.heap.size) (fun b hb => by omega))
      obtain ⟨w9, hw9⟩ : ∃ W, (((((((w7.setCell ⟨w.heap.size + 1 + 1 + 1, 0, none⟩ (.int .u64 (F3 : Int))).setCell ⟨w.heap.size + 1 + 1 + 1, 1, none⟩ (.int .u64 (N3 : Int))).setCell ⟨w.heap.size + 1 + 1 + 1, 2, none⟩ (.slice a3 m3 c3)).setCell ⟨w.heap.size + 1 + 1 + 1 + 1, 0, none⟩ (.int .u64 (F3 : Int))).setCell ⟨w.heap.size + 1 + 1 + 1 + 1, 1, none⟩ (.int .u64 (N3 : Int))).setCell ⟨w.heap.size + 1 + 1 + 1 + 1, 2, none⟩ (.slice a5 m5 c5))) = W := ⟨_, rfl⟩
      rw [hw9] at hl9 hr9 hy3 hy4 hb9 ⊢
      have d0 := lcell_of hy3 0 rfl
      have d1 := lcell_of hy3 1 rfl
      have d2 := lcell_of hy3 2 rfl
      have e0 := lcell_of hy4 0 rfl
      have e1 := lcell_of hy4 1 rfl
      have e2 := lcell_of hy4 2 rfl
      refine bodyPost_ret (v := .tuple #[.agg #[.int .u64 (F3 : Int), .int .u64 (N3 : Int), .slice a3 m3 c3], .agg #[.int .u64 (F3 : Int), .int .u64 (N3 : Int), .slice a5 m5 c5], .bool true]) (by simp [results, Try.results18, go_sem, d0, d1, d2, e0, e1, e2]) rfl ?_
      rw [HA.out, HM.out.one HCQ.out]
      exact ⟨_, _, rfl, hl9.below (Below.refl _ w9).drew, hr9.below (Below.refl _ w9).drew, hb9.drew⟩
    · have hcz : ((cq : Int) == 0) = false := beq_eq_false_iff_ne.2 (by omega)
      have l0 := lcell_of HB7.out.c0 0 rfl
      have l1 := lcell_of HB7.out.c0 1 rfl
      have l2 := lcell_of HB7.out.c0 2 rfl
      have r0 := lcell_of HB7.out.c1 0 rfl
      have r1 := lcell_of HB7.out.c1 1 rfl
      have r2 := lcell_of HB7.out.c1 2 rfl
      have s0 := lcell_of HB7.out.c3 0 rfl
      have s1 := lcell_of HB7.out.c3 1 rfl
      have s2 := lcell_of HB7.out.c3 2 rfl
      have sf := lfrozen_of HB7.out.c3
      have t0 := lcell_of HB7.out.c4 0 rfl
      have t1 := lcell_of HB7.out.c4 1 rfl
      have t2 := lcell_of HB7.out.c4 2 rfl
      have tf := lfrozen_of HB7.out.c4
      have hX5 : w.heap.size + 5 ≤ X := HB7.out.lo
      go_wp2_with fail
      go_region
      all_goals go_wp2
      have k1 := kept3 w7 (w.heap.size + 1 + 1 + 1) (.int .u64 (F : Int)) (.int .u64 (N : Int)) (.slice a m c)
      have hx3 := set3 HB7.out.c3 (.int .u64 (F : Int)) (.int .u64 (N : Int)) (.slice a m c)
      have hx4 := (k1.block (w.heap.size + 1 + 1 + 1 + 1) (by omega)).trans HB7.out.c4
      have k2 := kept3 (((w7.setCell ⟨w.heap.size + 1 + 1 + 1, 0, none⟩ (.int .u64 (F : Int))).setCell ⟨w.heap.size + 1 + 1 + 1, 1, none⟩ (.int .u64 (N : Int))).setCell ⟨w.heap.size + 1 + 1 + 1, 2, none⟩ (.slice a m c)) (w.heap.size + 1 + 1 + 1 + 1) (.int .u64 (F : Int)) (.int .u64 (N : Int)) (.slice a2 m2 c2)
      have hy3 := (k2.block (w.heap.size + 1 + 1 + 1) (by omega)).trans hx3
      have hy4 := set3 hx4 (.int .u64 (F : Int)) (.int .u64 (N : Int)) (.slice a2 m2 c2)
      have hb9 := (HB7.out.bel.trans (k1.bel (B := w.heap.size) (fun b hb => by omega))).trans (k2.bel (B := w.heap.size) (fun b hb => by omega))
      obtain ⟨w9, hw9⟩ : ∃ W, (((((((w7.setCell ⟨w.heap.size + 1 + 1 + 1, 0, none⟩ (.int .u64 (F : Int))).setCell ⟨w.heap.size + 1 + 1 + 1, 1, none⟩ (.int .u64 (N : Int))).setCell ⟨w.heap.size + 1 + 1 + 1, 2, none⟩ (.slice a m c)).setCell ⟨w.heap.size + 1 + 1 + 1 + 1, 0, none⟩ (.int .u64 (F : Int))).setCell ⟨w.heap.size + 1 + 1 + 1 + 1, 1, none⟩ (.int .u64 (N : Int))).setCell ⟨w.heap.size + 1 + 1 + 1 + 1, 2, none⟩ (.slice a2 m2 c2))) = W := ⟨_, rfl⟩
      rw [hw9] at hy3 hy4 hb9 ⊢
      have d0 := lcell_of hy3 0 rfl
      have d1 := lcell_of hy3 1 rfl
      have d2 := lcell_of hy3 2 rfl
      have e0 := lcell_of hy4 0 rfl
      have e1 := lcell_of hy4 1 rfl
      have e2 := lcell_of hy4 2 rfl
      refine bodyPost_ret (v := .tuple #[.agg #[.int .u64 (F : Int), .int .u64 (N : Int), .slice a m c], .agg #[.int .u64 (F : Int), .int .u64 (N : Int), .slice a2 m2 c2], .bool true]) (by simp [results, Try.results18, go_sem, d0, d1, d2, e0, e1, e2]) rfl ?_
      rw [HA.out, HM.out.no (by rw [HCQ.out]; exact hc0)]
      exact ⟨_, _, rfl, HX.out.below hb9.drew, HY.out.below hb9.drew, hb9.drew⟩
  by_cases n2 : k = 5
  · subst n2
    have HM := hide (show Ldg.Made R (R.act 5 n s kk) (R.leave n) from ⟨by unfold Ldg.Rl.act Ldg.Rl.does; rw [if_neg n0, if_neg (show ¬ (5 : Nat) = 4 by decide), if_pos (show (5 : Nat) = 5 from rfl)], fun h => Ldg.leave_ok HR.out h, fun h => Ldg.leave_bad h⟩)
    obtain ⟨A, hA⟩ : ∃ A, R.act 5 n s kk = A := ⟨_, rfl⟩
    obtain ⟨Q, hQ⟩ : ∃ Q, R.leave n = Q := ⟨_, rfl⟩
    rw [hA, hQ] at HM
    have HA := hide hA
    have HQ := hide hQ
    clear hQ hA
    have l0 := lcell_of HBX.out.c0 0 rfl
    have l1 := lcell_of HBX.out.c0 1 rfl
    have l2 := lcell_of HBX.out.c0 2 rfl
    have v2 := lcell_of HBX.out.c2 2 rfl
    have v3 := lcell_of HBX.out.c2 3 rfl
    go_wp2_with fail
    clear l0 l1 l2 v2 v3
    refine (lleave_any (HX.out.below HBX.out.bel) HF.out n).mono ?_
    rintro e w3 ⟨rv, rfl, hled, hb3⟩
    rw [Ldg.leave_abs, HQ.out] at hled ⊢
    obtain ⟨cq, hcq⟩ : ∃ x, Q.2 = x := ⟨_, rfl⟩
    rw [hcq]
    have HCQ := hide hcq
    clear hcq
    have HB3 := hide (HBX.out.then hb3)
    have HL3 := hide hled
    obtain ⟨a3, c3, ps3, rfl, hc3, hd3, hds3⟩ := hled
    have eF3 : Q.1.abs.first = Q.1.first := rfl
    have eN3 : Q.1.abs.next = Q.1.next := rfl
    rw [eF3, eN3] at HL3 ⊢
    obtain ⟨F3, hF3⟩ : ∃ x, Q.1.first = x := ⟨_, rfl⟩
    obtain ⟨N3, hN3⟩ : ∃ x, Q.1.next = x := ⟨_, rfl⟩
    obtain ⟨m3, hm3⟩ : ∃ x, ps3.length = x := ⟨_, rfl⟩
    rw [hF3, hN3, hm3] at HL3 ⊢
    have HF3 := hide hF3
    have HN3 := hide hN3
    clear hc3 hd3 hds3 hb3 eF3 eN3 hF3 hN3 hm3
    have x0 := lcell_of HB3.out.x 0 rfl
    have x1 := lcell_of HB3.out.x 1 rfl
    have x2 := lcell_of HB3.out.x 2 rfl
    have xf := lfrozen_of HB3.out.x
    have hb4 := HB3.out.setx (.int .u64 (F3 : Int)) (.int .u64 (N3 : Int)) (.slice a3 m3 c3)
    have hl4 := HL3.out.put HM.out.pos HB3.out.x (kept3 w3 X (.int .u64 (F3 : Int)) (.int .u64 (N3 : Int)) (.slice a3 m3 c3))
    obtain ⟨w4, hw4⟩ : ∃ W, ((w3.setCell ⟨X, 0, none⟩ (.int .u64 (F3 : Int))).setCell ⟨X, 1, none⟩ (.int .u64 (N3 : Int))).setCell ⟨X, 2, none⟩ (.slice a3 m3 c3) = W := ⟨_, rfl⟩
    rw [hw4] at hb4 hl4
    have HB4 := hide hb4
    have HL4 := hide hl4
    clear hb4 hl4
    have l0 := lcell_of HB4.out.c1 0 rfl
    have l1 := lcell_of HB4.out.c1 1 rfl
    have l2 := lcell_of HB4.out.c1 2 rfl
    have v2 := lcell_of HB4.out.c2 2 rfl
    have v3 := lcell_of HB4.out.c2 3 rfl
    go_wp2_with fail
    clear x0 x1 x2 xf hw4 l0 l1 l2 v2 v3
    refine (rleave_any (HY.out.below HB4.out.bel) HR.out n).mono ?_
    rintro e w5 ⟨rv2, rfl, hrl, hb5⟩
    rw [HQ.out] at hrl ⊢
    rw [HCQ.out]
    have HB5 := hide (HB4.out.then hb5)
    have HL5 := hide (HL4.out.below hb5)
    have HR5 := hide hrl
    obtain ⟨a5, c5, ps5, rfl, hc5, hd5, hds5⟩ := hrl
    obtain ⟨m5, hm5⟩ : ∃ x, ps5.length = x := ⟨_, rfl⟩
    rw [HF3.out, HN3.out, hm5] at HR5 ⊢
    clear hc5 hd5 hds5 hb5 hm5
    have x0 := lcell_of HB5.out.y 0 rfl
    have x1 := lcell_of HB5.out.y 1 rfl
    have x2 := lcell_of HB5.out.y 2 rfl
    have xf := lfrozen_of HB5.out.y
    have hb6 := HB5.out.sety (.int .u64 (F3 : Int)) (.int .u64 (N3 : Int)) (.slice a5 m5 c5)
    have hl6 := HL5.out.put HM.out.pos HB5.out.y (kept3 w5 (X + 1) (.int .u64 (F3 : Int)) (.int .u64 (N3 : Int)) (.slice a5 m5 c5))
    have hr6 := HR5.out.put HB5.out.y (kept3 w5 (X + 1) (.int .u64 (F3 : Int)) (.int .u64 (N3 : Int)) (.slice a5 m5 c5))
    obtain ⟨w6, hw6⟩ : ∃ W, ((w5.setCell ⟨X + 1, 0, none⟩ (.int .u64 (F3 : Int))).setCell ⟨X + 1, 1, none⟩ (.int .u64 (N3 : Int))).setCell ⟨X + 1, 2, none⟩ (.slice a5 m5 c5) = W := ⟨_, rfl⟩
    rw [hw6] at hb6 hl6 hr6
    have HB6 := hide hb6
    have HL6 := hide hl6
    have HR6 := hide hr6
    clear hb6 hl6 hr6
    have l0 := lcell_of HB6.out.x 0 rfl
    have l1 := lcell_of HB6.out.x 1 rfl
    have l2 := lcell_of HB6.out.x 2 rfl
    have r0 := lcell_of HB6.out.y 0 rfl
    have r1 := lcell_of HB6.out.y 1 rfl
    have r2 := lcell_of HB6.out.y 2 rfl
    go_wp2_with fail
    clear x0 x1 x2 xf hw6 l0 l1 l2 r0 r1 r2
    refine (as_any HL6.out HR6.out HM.out.sz).mono ?_
    rintro e w7 ⟨rfl, hb7⟩
    have HB7 := hide (HB6.out.then hb7)
    have HL7 := hide (HL6.out.below hb7)
    have HR7 := hide (HR6.out.below hb7)
    clear hb7
    by_cases hc0 : cq = 0
    · subst hc0
      have l0 := lcell_of HB7.out.x 0 rfl
      have l1 := lcell_of HB7.out.x 1 rfl
      have l2 := lcell_of HB7.out.x 2 rfl
      have r0 := lcell_of HB7.out.y 0 rfl
      have r1 := lcell_of HB7.out.y 1 rfl
      have r2 := lcell_of HB7.out.y 2 rfl
      go_wp2_with fail
      clear l0 l1 l2 r0 r1 r2
      have l0 := lcell_of HB7.out.x 0 rfl
      have l1 := lcell_of HB7.out.x 1 rfl
      have l2 := lcell_of HB7.out.x 2 rfl
      have r0 := lcell_of HB7.out.y 0 rfl
      have r1 := lcell_of HB7.out.y 1 rfl
      have r2 := lcell_of HB7.out.y 2 rfl
      have s0 := lcell_of HB7.out.c3 0 rfl
      have s1 := lcell_of HB7.out.c3 1 rfl
      have s2 := lcell_of HB7.out.c3 2 rfl
      have sf := lfrozen_of HB7.out.c3
      have t0 := lcell_of HB7.out.c4 0 rfl
      have t1 := lcell_of HB7.out.c4 1 rfl
      have t2 := lcell_of HB7.out.c4 2 rfl
      have tf := lfrozen_of HB7.out.c4
      have hX5 : w.heap.size + 5 ≤ X := HB7.out.lo
      have hA3 : ¬ (w.heap.size + 1 + 1 + 1 = X + 1) := by omega
      have hB3 : ¬ (X + 1 = w.heap.size + 1 + 1 + 1) := by omega
      go_region
      all_goals go_wp2
      have k1 := kept3 w7 (w.heap.size + 1 + 1 + 1) (.int .u64 (F3 : Int)) (.int .u64 (N3 : Int)) (.slice a3 m3 c3)
      have hx3 := set3 HB7.out.c3 (.int .u64 (F3 : Int)) (.int .u64 (N3 : Int)) (.slice a3 m3 c3)
      have hl8 := HL7.out.put HM.out.pos HB7.out.c3 k1
      have hr8 := HR7.out.put HB7.out.c3 k1
      have hx4 := (k1.block (w.heap.size + 1 + 1 + 1 + 1) (by omega)).trans HB7.out.c4
      have k2 := kept3 (((w7.setCell ⟨w.heap.size + 1 + 1 + 1, 0, none⟩ (.int .u64 (F3 : Int))).setCell ⟨w.heap.size + 1 + 1 + 1, 1, none⟩ (.int .u64 (N3 : Int))).setCell ⟨w.heap.size + 1 + 1 + 1, 2, none⟩ (.slice a3 m3 c3)) (w.heap.size + 1 + 1 + 1 + 1) (.int .u64 (F3 : Int)) (.int .u64 (N3 : Int)) (.slice a5 m5 c5)
      have hl9 := hl8.put HM.out.pos hx4 k2
      have hr9 := hr8.put hx4 k2
      have hy3 := (k2.block (w.heap.size + 1 + 1 + 1) (by omega)).trans hx3
      have hy4 := set3 hx4 (.int .u64 (F3 : Int)) (.int .u64 (N3 : Int)) (.slice a5 m5 c5)
      have hb9 := (HB7.out.bel.trans (k1.bel (B := w.heap.size) (fun b hb => by omega))).trans (k2.bel (B := w.heap.size) (fun b hb => by omega))
      obtain ⟨w9, hw9⟩ : ∃ W, (((((((w7.setCell ⟨w.heap.size + 1 + 1 + 1, 0, none⟩ (.int .u64 (F3 : Int))).setCell ⟨w.heap.size + 1 + 1 + 1, 1, none⟩ (.int .u64 (N3 : Int))).setCell ⟨w.heap.size + 1 + 1 + 1, 2, none⟩ (.slice a3 m3 c3)).setCell ⟨w.heap.size + 1 + 1 + 1 + 1, 0, none⟩ (.int .u64 (F3 : Int))).setCell ⟨w.heap.size + 1 + 1 + 1 + 1, 1, none⟩ (.int .u64 (N3 : Int))).setCell ⟨w.heap.size + 1 + 1 + 1 + 1, 2, none⟩ (.slice a5 m5 c5))) = W := ⟨_, rfl⟩
      rw [hw9] at hl9 hr9 hy3 hy4 hb9 ⊢
      have d0 := lcell_of hy3 0 rfl
      have d1 := lcell_of hy3 1 rfl
      have d2 := lcell_of hy3 2 rfl
      have e0 := lcell_of hy4 0 rfl
      have e1 := lcell_of hy4 1 rfl
      have e2 := lcell_of hy4 2 rfl
      refine bodyPost_ret (v := .tuple #[.agg #[.int .u64 (F3 : Int), .int .u64 (N3 : Int), .slice a3 m3 c3], .agg #[.int .u64 (F3 : Int), .int .u64 (N3 : Int), .slice a5 m5 c5], .bool true]) (by simp [results, Try.results18, go_sem, d0, d1, d2, e0, e1, e2]) rfl ?_
      rw [HA.out, HM.out.one HCQ.out]
      exact ⟨_, _, rfl, hl9.below (Below.refl _ w9).drew, hr9.below (Below.refl _ w9).drew, hb9.drew⟩
    · have hcz : ((cq : Int) == 0) = false := beq_eq_false_iff_ne.2 (by omega)
      have l0 := lcell_of HB7.out.c0 0 rfl
      have l1 := lcell_of HB7.out.c0 1 rfl
      have l2 := lcell_of HB7.out.c0 2 rfl
      have r0 := lcell_of HB7.out.c1 0 rfl
      have r1 := lcell_of HB7.out.c1 1 rfl
      have r2 := lcell_of HB7.out.c1 2 rfl
      have s0 := lcell_of HB7.out.c3 0 rfl
      have s1 := lcell_of HB7.out.c3 1 rfl
      have s2 := lcell_of HB7.out.c3 2 rfl
      have sf := lfrozen_of HB7.out.c3
      have t0 := lcell_of HB7.out.c4 0 rfl
      have t1 := lcell_of HB7.out.c4 1 rfl
      have t2 := lcell_of HB7.out.c4 2 rfl
      have tf := lfrozen_of HB7.out.c4
      have hX5 : w.heap.size + 5 ≤ X := HB7.out.lo
      go_wp2_with fail
      go_region
      all_goals go_wp2
      have k1 := kept3 w7 (w.heap.size + 1 + 1 + 1) (.int .u64 (F : Int)) (.int .u64 (N : Int)) (.slice a m c)
      have hx3 := set3 HB7.out.c3 (.int .u64 (F : Int)) (.int .u64 (N : Int)) (.slice a m c)
      have hx4 := (k1.block (w.heap.size + 1 + 1 + 1 + 1) (by omega)).trans HB7.out.c4
      have k2 := kept3 (((w7.setCell ⟨w.heap.size + 1 + 1 + 1, 0, none⟩ (.int .u64 (F : Int))).setCell ⟨w.heap.size + 1 + 1 + 1, 1, none⟩ (.int .u64 (N : Int))).setCell ⟨w.heap.size + 1 + 1 + 1, 2, none⟩ (.slice a m c)) (w.heap.size + 1 + 1 + 1 + 1) (.int .u64 (F : Int)) (.int .u64 (N : Int)) (.slice a2 m2 c2)
      have hy3 := (k2.block (w.heap.size + 1 + 1 + 1) (by omega)).trans hx3
      have hy4 := set3 hx4 (.int .u64 (F : Int)) (.int .u64 (N : Int)) (.slice a2 m2 c2)
      have hb9 := (HB7.out.bel.trans (k1.bel (B := w.heap.size) (fun b hb => by omega))).trans (k2.bel (B := w.heap.size) (fun b hb => by omega))
      obtain ⟨w9, hw9⟩ : ∃ W, (((((((w7.setCell ⟨w.heap.size + 1 + 1 + 1, 0, none⟩ (.int .u64 (F : Int))).setCell ⟨w.heap.size + 1 + 1 + 1, 1, none⟩ (.int .u64 (N : Int))).setCell ⟨w.heap.size + 1 + 1 + 1, 2, none⟩ (.slice a m c)).setCell ⟨w.heap.size + 1 + 1 + 1 + 1, 0, none⟩ (.int .u64 (F : Int))).setCell ⟨w.heap.size + 1 + 1 + 1 + 1, 1, none⟩ (.int .u64 (N : Int))).setCell ⟨w.heap.size + 1 + 1 + 1 + 1, 2, none⟩ (.slice a2 m2 c2))) = W := ⟨_, rfl⟩
      rw [hw9] at hy3 hy4 hb9 ⊢
      have d0 := lcell_of hy3 0 rfl
      have d1 := lcell_of hy3 1 rfl
      have d2 := lcell_of hy3 2 rfl
      have e0 := lcell_of hy4 0 rfl
      have e1 := lcell_of hy4 1 rfl
      have e2 := lcell_of hy4 2 rfl
      refine bodyPost_ret (v := .tuple #[.agg #[.int .u64 (F : Int), .int .u64 (N : Int), .slice a m c], .agg #[.int .u64 (F : Int), .int .u64 (N : Int), .slice a2 m2 c2], .bool true]) (by simp [results, Try.results18, go_sem, d0, d1, d2, e0, e1, e2]) rfl ?_
      rw [HA.out, HM.out.no (by rw [HCQ.out]; exact hc0)]
      exact ⟨_, _, rfl, HX.out.below hb9.drew, HY.out.below hb9.drew, hb9.drew⟩
  by_cases n3 : ¬ k < 10
  · have n10 : k = 10 := by omega
    subst n10
    have HM := hide (show Ldg.Made R (R.act 10 n s kk) (R.evict s) from ⟨by unfold Ldg.Rl.act Ldg.Rl.does; rw [if_neg n0, if_neg (show ¬ (10 : Nat) = 4 by decide), if_neg (show ¬ (10 : Nat) = 5 by decide), if_neg (show ¬ (10 : Nat) < 10 by decide)], fun h => Ldg.evict_ok HR.out h, fun h => Ldg.evict_bad h⟩)
    obtain ⟨A, hA⟩ : ∃ A, R.act 10 n s kk = A := ⟨_, rfl⟩
    obtain ⟨Q, hQ⟩ : ∃ Q, R.evict s = Q := ⟨_, rfl⟩
    rw [hA, hQ] at HM
    have HA := hide hA
    have HQ := hide hQ
    clear hQ hA
    have l0 := lcell_of HBX.out.c0 0 rfl
    have l1 := lcell_of HBX.out.c0 1 rfl
    have l2 := lcell_of HBX.out.c0 2 rfl
    have v2 := lcell_of HBX.out.c2 2 rfl
    have v3 := lcell_of HBX.out.c2 3 rfl
    go_wp2_with fail
    clear l0 l1 l2 v2 v3
    refine (levict_any (HX.out.below HBX.out.bel) HF.out s).mono ?_
    rintro e w3 ⟨rv, rfl, hled, hb3⟩
    rw [Ldg.evict_abs HR.out, HQ.out] at hled ⊢
    obtain ⟨cq, hcq⟩ : ∃ x, Q.2 = x := ⟨_, rfl⟩
    rw [hcq]
    have HCQ := hide hcq
    clear hcq
    have HB3 := hide (HBX.out.then hb3)
    have HL3 := hide hled
    obtain ⟨a3, c3, ps3, rfl, hc3, hd3, hds3⟩ := hled
    have eF3 : Q.1.abs.first = Q.1.first := rfl
    have eN3 : Q.1.abs.next = Q.1.next := rfl
    rw [eF3, eN3] at HL3 ⊢
    obtain ⟨F3, hF3⟩ : ∃ x, Q.1.first = x := ⟨_, rfl⟩
    obtain ⟨N3, hN3⟩ : ∃ x, Q.1.next = x := ⟨_, rfl⟩
    obtain ⟨m3, hm3⟩ : ∃ x, ps3.length = x := ⟨_, rfl⟩
    rw [hF3, hN3, hm3] at HL3 ⊢
    have HF3 := hide hF3
    have HN3 := hide hN3
    clear hc3 hd3 hds3 hb3 eF3 eN3 hF3 hN3 hm3
    have x0 := lcell_of HB3.out.x 0 rfl
    have x1 := lcell_of HB3.out.x 1 rfl
    have x2 := lcell_of HB3.out.x 2 rfl
    have xf := lfrozen_of HB3.out.x
    have hb4 := HB3.out.setx (.int .u64 (F3 : Int)) (.int .u64 (N3 : Int)) (.slice a3 m3 c3)
    have hl4 := HL3.out.put HM.out.pos HB3.out.x (kept3 w3 X (.int .u64 (F3 : Int)) (.int .u64 (N3 : Int)) (.slice a3 m3 c3))
    obtain ⟨w4, hw4⟩ : ∃ W, ((w3.setCell ⟨X, 0, none⟩ (.int .u64 (F3 : Int))).setCell ⟨X, 1, none⟩ (.int .u64 (N3 : Int))).setCell ⟨X, 2, none⟩ (.slice a3 m3 c3) = W := ⟨_, rfl⟩
    rw [hw4] at hb4 hl4
    have HB4 := hide hb4
    have HL4 := hide hl4
    clear hb4 hl4
    have l0 := lcell_of HB4.out.c1 0 rfl
    have l1 := lcell_of HB4.out.c1 1 rfl
    have l2 := lcell_of HB4.out.c1 2 rfl
    have v2 := lcell_of HB4.out.c2 2 rfl
    have v3 := lcell_of HB4.out.c2 3 rfl
    go_wp2_with fail
    clear x0 x1 x2 xf hw4 l0 l1 l2 v2 v3
    refine (revict_any (HY.out.below HB4.out.bel) HR.out s).mono ?_
    rintro e w5 ⟨rv2, rfl, hrl, hb5⟩
    rw [HQ.out] at hrl ⊢
    rw [HCQ.out]
    have HB5 := hide (HB4.out.then hb5)
    have HL5 := hide (HL4.out.below hb5)
    have HR5 := hide hrl
    obtain ⟨a5, c5, ps5, rfl, hc5, hd5, hds5⟩ := hrl
    obtain ⟨m5, hm5⟩ : ∃ x, ps5.length = x := ⟨_, rfl⟩
    rw [HF3.out, HN3.out, hm5] at HR5 ⊢
    clear hc5 hd5 hds5 hb5 hm5
    have x0 := lcell_of HB5.out.y 0 rfl
    have x1 := lcell_of HB5.out.y 1 rfl
    have x2 := lcell_of HB5.out.y 2 rfl
    have xf := lfrozen_of HB5.out.y
    have hb6 := HB5.out.sety (.int .u64 (F3 : Int)) (.int .u64 (N3 : Int)) (.slice a5 m5 c5)
    have hl6 := HL5.out.put HM.out.pos HB5.out.y (kept3 w5 (X + 1) (.int .u64 (F3 : Int)) (.int .u64 (N3 : Int)) (.slice a5 m5 c5))
    have hr6 := HR5.out.put HB5.out.y (kept3 w5 (X + 1) (.int .u64 (F3 : Int)) (.int .u64 (N3 : Int)) (.slice a5 m5 c5))
    obtain ⟨w6, hw6⟩ : ∃ W, ((w5.setCell ⟨X + 1, 0, none⟩ (.int .u64 (F3 : Int))).setCell ⟨X + 1, 1, none⟩ (.int .u64 (N3 : Int))).setCell ⟨X + 1, 2, none⟩ (.slice a5 m5 c5) = W := ⟨_, rfl⟩
    rw [hw6] at hb6 hl6 hr6
    have HB6 := hide hb6
    have HL6 := hide hl6
    have HR6 := hide hr6
    clear hb6 hl6 hr6
    have l0 := lcell_of HB6.out.x 0 rfl
    have l1 := lcell_of HB6.out.x 1 rfl
    have l2 := lcell_of HB6.out.x 2 rfl
    have r0 := lcell_of HB6.out.y 0 rfl
    have r1 := lcell_of HB6.out.y 1 rfl
    have r2 := lcell_of HB6.out.y 2 rfl
    go_wp2_with fail
    clear x0 x1 x2 xf hw6 l0 l1 l2 r0 r1 r2
    refine (as_any HL6.out HR6.out HM.out.sz).mono ?_
    rintro e w7 ⟨rfl, hb7⟩
    have HB7 := hide (HB6.out.then hb7)
    have HL7 := hide (HL6.out.below hb7)
    have HR7 := hide (HR6.out.below hb7)
    clear hb7
    by_cases hc0 : cq = 0
    · subst hc0
      have l0 := lcell_of HB7.out.x 0 rfl
      have l1 := lcell_of HB7.out.x 1 rfl
      have l2 := lcell_of HB7.out.x 2 rfl
      have r0 := lcell_of HB7.out.y 0 rfl
      have r1 := lcell_of HB7.out.y 1 rfl
      have r2 := lcell_of HB7.out.y 2 rfl
      go_wp2_with fail
      clear l0 l1 l2 r0 r1 r2
      have l0 := lcell_of HB7.out.x 0 rfl
      have l1 := lcell_of HB7.out.x 1 rfl
      have l2 := lcell_of HB7.out.x 2 rfl
      have r0 := lcell_of HB7.out.y 0 rfl
      have r1 := lcell_of HB7.out.y 1 rfl
      have r2 := lcell_of HB7.out.y 2 rfl
      have s0 := lcell_of HB7.out.c3 0 rfl
      have s1 := lcell_of HB7.out.c3 1 rfl
      have s2 := lcell_of HB7.out.c3 2 rfl
      have sf := lfrozen_of HB7.out.c3
      have t0 := lcell_of HB7.out.c4 0 rfl
      have t1 := lcell_of HB7.out.c4 1 rfl
      have t2 := lcell_of HB7.out.c4 2 rfl
      have tf := lfrozen_of HB7.out.c4
      have hX5 : w.heap.size + 5 ≤ X := HB7.out.lo
      have hA3 : ¬ (w.heap.size + 1 + 1 + 1 = X + 1) := by omega
      have hB3 : ¬ (X + 1 = w.heap.size + 1 + 1 + 1) := by omega
      go_region
      all_goals go_wp2
      have k1 := kept3 w7 (w.heap.size + 1 + 1 + 1) (.int .u64 (F3 : Int)) (.int .u64 (N3 : Int)) (.slice a3 m3 c3)
      have hx3 := set3 HB7.out.c3 (.int .u64 (F3 : Int)) (.int .u64 (N3 : Int)) (.slice a3 m3 c3)
      have hl8 := HL7.out.put HM.out.pos HB7.out.c3 k1
      have hr8 := HR7.out.put HB7.out.c3 k1
      have hx4 := (k1.block (w.heap.size + 1 + 1 + 1 + 1) (by omega)).trans HB7.out.c4
      have k2 := kept3 (((w7.setCell ⟨w.heap.size + 1 + 1 + 1, 0, none⟩ (.int .u64 (F3 : Int))).setCell ⟨w.heap.size + 1 + 1 + 1, 1, none⟩ (.int .u64 (N3 : Int))).setCell ⟨w.heap.size + 1 + 1 + 1, 2, none⟩ (.slice a3 m3 c3)) (w.heap.size + 1 + 1 + 1 + 1) (.int .u64 (F3 : Int)) (.int .u64 (N3 : Int)) (.slice a5 m5 c5)
      have hl9 := hl8.put HM.out.pos hx4 k2
      have hr9 := hr8.put hx4 k2
      have hy3 := (k2.block (w.heap.size + 1 + 1 + 1) (by omega)).trans hx3
      have hy4 := set3 hx4 (.int .u64 (F3 : Int)) (.int .u64 (N3 : Int)) (.slice a5 m5 c5)
      have hb9 := (HB7.out.bel.trans (k1.bel (B := w.heap.size) (fun b hb => by omega))).trans (k2.bel (B := w.heap.size) (fun b hb => by omega))
      obtain ⟨w9, hw9⟩ : ∃ W, (((((((w7.setCell ⟨w.heap.size + 1 + 1 + 1, 0, none⟩ (.int .u64 (F3 : Int))).setCell ⟨w.heap.size + 1 + 1 + 1, 1, none⟩ (.int .u64 (N3 : Int))).setCell ⟨w.heap.size + 1 + 1 + 1, 2, none⟩ (.slice a3 m3 c3)).setCell ⟨w.heap.size + 1 + 1 + 1 + 1, 0, none⟩ (.int .u64 (F3 : Int))).setCell ⟨w.heap.size + 1 + 1 + 1 + 1, 1, none⟩ (.int .u64 (N3 : Int))).setCell ⟨w.heap.size + 1 + 1 + 1 + 1, 2, none⟩ (.slice a5 m5 c5))) = W := ⟨_, rfl⟩
      rw [hw9] at hl9 hr9 hy3 hy4 hb9 ⊢
      have d0 := lcell_of hy3 0 rfl
      have d1 := lcell_of hy3 1 rfl
      have d2 := lcell_of hy3 2 rfl
      have e0 := lcell_of hy4 0 rfl
      have e1 := lcell_of hy4 1 rfl
      have e2 := lcell_of hy4 2 rfl
      refine bodyPost_ret (v := .tuple #[.agg #[.int .u64 (F3 : Int), .int .u64 (N3 : Int), .slice a3 m3 c3], .agg #[.int .u64 (F3 : Int), .int .u64 (N3 : Int), .slice a5 m5 c5], .bool true]) (by simp [results, Try.results18, go_sem, d0, d1, d2, e0, e1, e2]) rfl ?_
      rw [HA.out, HM.out.one HCQ.out]
      exact ⟨_, _, rfl, hl9.below (Below.refl _ w9).drew, hr9.below (Below.refl _ w9).drew, hb9.drew⟩
    · have hcz : ((cq : Int) == 0) = false := beq_eq_false_iff_ne.2 (by omega)
      have l0 := lcell_of HB7.out.c0 0 rfl
      have l1 := lcell_of HB7.out.c0 1 rfl
      have l2 := lcell_of HB7.out.c0 2 rfl
      have r0 := lcell_of HB7.out.c1 0 rfl
      have r1 := lcell_of HB7.out.c1 1 rfl
      have r2 := lcell_of HB7.out.c1 2 rfl
      have s0 := lcell_of HB7.out.c3 0 rfl
      have s1 := lcell_of HB7.out.c3 1 rfl
      have s2 := lcell_of HB7.out.c3 2 rfl
      have sf := lfrozen_of HB7.out.c3
      have t0 := lcell_of HB7.out.c4 0 rfl
      have t1 := lcell_of HB7.out.c4 1 rfl
      have t2 := lcell_of HB7.out.c4 2 rfl
      have tf := lfrozen_of HB7.out.c4
      have hX5 : w.heap.size + 5 ≤ X := HB7.out.lo
      go_wp2_with fail
      go_region
      all_goals go_wp2
      have k1 := kept3 w7 (w.heap.size + 1 + 1 + 1) (.int .u64 (F : Int)) (.int .u64 (N : Int)) (.slice a m c)
      have hx3 := set3 HB7.out.c3 (.int .u64 (F : Int)) (.int .u64 (N : Int)) (.slice a m c)
      have hx4 := (k1.block (w.heap.size + 1 + 1 + 1 + 1) (by omega)).trans HB7.out.c4
      have k2 := kept3 (((w7.setCell ⟨w.heap.size + 1 + 1 + 1, 0, none⟩ (.int .u64 (F : Int))).setCell ⟨w.heap.size + 1 + 1 + 1, 1, none⟩ (.int .u64 (N : Int))).setCell ⟨w.heap.size + 1 + 1 + 1, 2, none⟩ (.slice a m c)) (w.heap.size + 1 + 1 + 1 + 1) (.int .u64 (F : Int)) (.int .u64 (N : Int)) (.slice a2 m2 c2)
      have hy3 := (k2.block (w.heap.size + 1 + 1 + 1) (by omega)).trans hx3
      have hy4 := set3 hx4 (.int .u64 (F : Int)) (.int .u64 (N : Int)) (.slice a2 m2 c2)
      have hb9 := (HB7.out.bel.trans (k1.bel (B := w.heap.size) (fun b hb => by omega))).trans (k2.bel (B := w.heap.size) (fun b hb => by omega))
      obtain ⟨w9, hw9⟩ : ∃ W, (((((((w7.setCell ⟨w.heap.size + 1 + 1 + 1, 0, none⟩ (.int .u64 (F : Int))).setCell ⟨w.heap.size + 1 + 1 + 1, 1, none⟩ (.int .u64 (N : Int))).setCell ⟨w.heap.size + 1 + 1 + 1, 2, none⟩ (.slice a m c)).setCell ⟨w.heap.size + 1 + 1 + 1 + 1, 0, none⟩ (.int .u64 (F : Int))).setCell ⟨w.heap.size + 1 + 1 + 1 + 1, 1, none⟩ (.int .u64 (N : Int))).setCell ⟨w.heap.size + 1 + 1 + 1 + 1, 2, none⟩ (.slice a2 m2 c2))) = W := ⟨_, rfl⟩
      rw [hw9] at hy3 hy4 hb9 ⊢
      have d0 := lcell_of hy3 0 rfl
      have d1 := lcell_of hy3 1 rfl
      have d2 := lcell_of hy3 2 rfl
      have e0 := lcell_of hy4 0 rfl
      have e1 := lcell_of hy4 1 rfl
      have e2 := lcell_of hy4 2 rfl
      refine bodyPost_ret (v := .tuple #[.agg #[.int .u64 (F : Int), .int .u64 (N : Int), .slice a m c], .agg #[.int .u64 (F : Int), .int .u64 (N : Int), .slice a2 m2 c2], .bool true]) (by simp [results, Try.results18, go_sem, d0, d1, d2, e0, e1, e2]) rfl ?_
      rw [HA.out, HM.out.no (by rw [HCQ.out]; exact hc0)]
      exact ⟨_, _, rfl, HX.out.below hb9.drew, HY.out.below hb9.drew, hb9.drew⟩
  · have n10 : k < 10 := by omega
    have HM := hide (show Ldg.Made R (R.act k n s kk) (R.done n s kk) from ⟨by unfold Ldg.Rl.act Ldg.Rl.does; rw [if_neg n0, if_neg n1, if_neg n2, if_pos n10], fun h => Ldg.done_ok HR.out h, fun h => Ldg.done_bad h⟩)
    obtain ⟨A, hA⟩ : ∃ A, R.act k n s kk = A := ⟨_, rfl⟩
    obtain ⟨Q, hQ⟩ : ∃ Q, R.done n s kk = Q := ⟨_, rfl⟩
    rw [hA, hQ] at HM
    have HA := hide hA
    have HQ := hide hQ
    clear hQ hA
    have l0 := lcell_of HBX.out.c0 0 rfl
    have l1 := lcell_of HBX.out.c0 1 rfl
    have l2 := lcell_of HBX.out.c0 2 rfl
    have v2 := lcell_of HBX.out.c2 2 rfl
    have v3 := lcell_of HBX.out.c2 3 rfl
    clear l0 l1 l2 v2 v3
    go_wp2_with fail
    refine wp_region_growK (fun x => x < X) [([0, 1, 2, 3, 4, 5, 6], 7), ([], 8), ([9, 10, 11], 12)] [13] [] (by kernel_rfl) (by kernel_rfl) (by kernel_rfl) (by kernel_rfl) ?_
    intro wq hbq
    simp only [stagesOfK, getLK, pickLK]
    have HQX := hide (HBX.out.then hbq)
    clear hbq
    have inh : Nonempty (GrK (fun x => x < X) wq) := GrK.some _ wq
    have z0 := fun z : GrK (fun x => x < X) wq => z.cell (a := ⟨w.heap.size, 0, none⟩) (by show w.heap.size < X; have := HQX.out.lo; omega) (lcell_of HQX.out.c0 0 rfl)
    have z1 := fun z : GrK (fun x => x < X) wq => z.cell (a := ⟨w.heap.size, 1, none⟩) (by show w.heap.size < X; have := HQX.out.lo; omega) (lcell_of HQX.out.c0 1 rfl)
    have z2 := fun z : GrK (fun x => x < X) wq => z.cell (a := ⟨w.heap.size, 2, none⟩) (by show w.heap.size < X; have := HQX.out.lo; omega) (lcell_of HQX.out.c0 2 rfl)
    have q2 := fun z : GrK (fun x => x < X) wq => z.cell (a := ⟨w.heap.size + 1 + 1, 2, none⟩) (by show w.heap.size + 1 + 1 < X; have := HQX.out.lo; omega) (lcell_of HQX.out.c2 2 rfl)
    have q3 := fun z : GrK (fun x => x < X) wq => z.cell (a := ⟨w.heap.size + 1 + 1, 3, none⟩) (by show w.heap.size + 1 + 1 < X; have := HQX.out.lo; omega) (lcell_of HQX.out.c2 3 rfl)
    refine wpG_stageK ?_
    repeat (go_big_quiet_step (fail))
    refine wpQuiet_nil ?_
    clear z0 z1 z2 q2 q3 inh
    go_wp2_with fail
    refine (kind_any kd _ hk0 hk1).mono ?_
    rintro e wk ⟨rfl, hwk⟩
    rw [hwk, HKK.out]
    clear hwk
    go_wp2
    refine OnToK.mk (Kept.refl _ _) (Sub.refl _) ?_
    refine wpG_stageK (wpQuiet_nil ?_)
    go_wp2_with fail
    refine (ldone_any (HX.out.below HQX.out.bel) HF.out n s kk).mono ?_
    rintro e w3 ⟨rv, rfl, hled, hb3⟩
    rw [Ldg.done_abs HR.out, HQ.out] at hled ⊢
    obtain ⟨cq, hcq⟩ : ∃ x, Q.2 = x := ⟨_, rfl⟩
    rw [hcq]
    have HCQ := hide hcq
    clear hcq
    have HB3 := hide (HQX.out.then hb3)
    have hk3 : Kept (fun x => x < X) wq w3 := Kept.of_below hb3 (fun x hx => by have := HQX.out.sz; omega)
    have HL3 := hide hled
    obtain ⟨a3, c3, ps3, rfl, hc3, hd3, hds3⟩ := hled
    have eF3 : Q.1.abs.first = Q.1.first := rfl
    have eN3 : Q.1.abs.next = Q.1.next := rfl
    rw [eF3, eN3] at HL3 ⊢
    obtain ⟨F3, hF3⟩ : ∃ x, Q.1.first = x := ⟨_, rfl⟩
    obtain ⟨N3, hN3⟩ : ∃ x, Q.1.next = x := ⟨_, rfl⟩
    obtain ⟨m3, hm3⟩ : ∃ x, ps3.length = x := ⟨_, rfl⟩
    rw [hF3, hN3, hm3] at HL3 ⊢
    have HF3 := hide hF3
    have HN3 := hide hN3
    clear hc3 hd3 hds3 hb3 eF3 eN3 hF3 hN3 hm3
    have x0 := lcell_of HB3.out.x 0 rfl
    have x1 := lcell_of HB3.out.x 1 rfl
    have x2 := lcell_of HB3.out.x 2 rfl
    have xf := lfrozen_of HB3.out.x
    have hb4 := HB3.out.setx (.int .u64 (F3 : Int)) (.int .u64 (N3 : Int)) (.slice a3 m3 c3)
    have hl4 := HL3.out.put HM.out.pos HB3.out.x (kept3 w3 X (.int .u64 (F3 : Int)) (.int .u64 (N3 : Int)) (.slice a3 m3 c3))
    obtain ⟨w4, hw4⟩ : ∃ W, ((w3.setCell ⟨X, 0, none⟩ (.int .u64 (F3 : Int))).setCell ⟨X, 1, none⟩ (.int .u64 (N3 : Int))).setCell ⟨X, 2, none⟩ (.slice a3 m3 c3) = W := ⟨_, rfl⟩
    have hs4 := kept3 w3 X (.int .u64 (F3 : Int)) (.int .u64 (N3 : Int)) (.slice a3 m3 c3)
    rw [hw4] at hb4 hl4 hs4
    have HB4 := hide hb4
    have HL4 := hide hl4
    clear hb4 hl4
    have l0 := lcell_of HB4.out.c1 0 rfl
    have l1 := lcell_of HB4.out.c1 1 rfl
    have l2 := lcell_of HB4.out.c1 2 rfl
    have v2 := lcell_of HB4.out.c2 2 rfl
    have v3 := lcell_of HB4.out.c2 3 rfl
    clear l0 l1 l2 v2 v3
    go_wp2
    refine OnToK.mk hk3 (Sub.refl _) ?_
    clear hk3
    have inh : Nonempty (GrK (fun x => x < X) w3) := GrK.some _ w3
    refine wpG_stageK ?_
    repeat (go_big_quiet_step (fail))
    refine wpQuiet_nil ?_
    clear inh
    go_wp2_with fail
    refine OnToK.mk (hs4.mono (fun x hx => by omega)) (Sub.refl _) ?_
    refine wpG_lastK ?_
    repeat (go_big_quiet_step (fail))
    refine wpQuiet_nil ?_
    go_wp2_with fail
    clear x0 x1 x2 xf hw4
    refine wp_region_growK (fun x => x < X) [([0, 1, 2, 3, 4, 5, 6], 7), ([], 8), ([9, 10, 11], 12)] [13] [] (by kernel_rfl) (by kernel_rfl) (by kernel_rfl) (by kernel_rfl) ?_
    intro wp hbp
    simp only [stagesOfK, getLK, pickLK]
    have HPX := hide (HB4.out.then hbp)
    have HPL := hide (HL4.out.below hbp)
    clear hbp
    have inh : Nonempty (GrK (fun x => x < X) wp) := GrK.some _ wp
    have z0 := fun z : GrK (fun x => x < X) wp => z.cell (a := ⟨w.heap.size + 1, 0, none⟩) (by show w.heap.size + 1 < X; have := HPX.out.lo; omega) (lcell_of HPX.out.c1 0 rfl)
    have z1 := fun z : GrK (fun x => x < X) wp => z.cell (a := ⟨w.heap.size + 1, 1, none⟩) (by show w.heap.size + 1 < X; have := HPX.out.lo; omega) (lcell_of HPX.out.c1 1 rfl)
    have z2 := fun z : GrK (fun x => x < X) wp => z.cell (a := ⟨w.heap.size + 1, 2, none⟩) (by show w.heap.size + 1 < X; have := HPX.out.lo; omega) (lcell_of HPX.out.c1 2 rfl)
    have q2 := fun z : GrK (fun x => x < X) wp => z.cell (a := ⟨w.heap.size + 1 + 1, 2, none⟩) (by show w.heap.size + 1 + 1 < X; have := HPX.out.lo; omega) (lcell_of HPX.out.c2 2 rfl)
    have q3 := fun z : GrK (fun x => x < X) wp => z.cell (a := ⟨w.heap.size + 1 + 1, 3, none⟩) (by show w.heap.size + 1 + 1 < X; have := HPX.out.lo; omega) (lcell_of HPX.out.c2 3 rfl)
    refine wpG_stageK ?_
    repeat (go_big_quiet_step (fail))
    refine wpQuiet_nil ?_
    clear z0 z1 z2 q2 q3 inh
    go_wp2_with fail
    refine (kind_any kd _ hk0 hk1).mono ?_
    rintro e wk ⟨rfl, hwk⟩
    rw [hwk, HKK.out]
    clear hwk
    go_wp2
    refine OnToK.mk (Kept.refl _ _) (Sub.refl _) ?_
    refine wpG_stageK (wpQuiet_nil ?_)
    go_wp2_with fail
    refine (rdone_any (HY.out.below HPX.out.bel) HR.out n s kk).mono ?_
    rintro e w5 ⟨rv2, rfl, hrl, hb5⟩
    rw [HQ.out] at hrl ⊢
    rw [HCQ.out]
    have HB5 := hide (HPX.out.then hb5)
    have HL5 := hide (HPL.out.below hb5)
    have hk5 : Kept (fun x => x < X) wp w5 := Kept.of_below hb5 (fun x hx => by have := HPX.out.sz; omega)
    have HR5 := hide hrl
    obtain ⟨a5, c5, ps5, rfl, hc5, hd5, hds5⟩ := hrl
    obtain ⟨m5, hm5⟩ : ∃ x, ps5.length = x := ⟨_, rfl⟩
    rw [HF3.out, HN3.out, hm5] at HR5 ⊢
    clear hc5 hd5 hds5 hb5 hm5
    have x0 := lcell_of HB5.out.y 0 rfl
    have x1 := lcell_of HB5.out.y 1 rfl
    have x2 := lcell_of HB5.out.y 2 rfl
    have xf := lfrozen_of HB5.out.y
    have hb6 := HB5.out.sety (.int .u64 (F3 : Int)) (.int .u64 (N3 : Int)) (.slice a5 m5 c5)
    have hl6 := HL5.out.put HM.out.pos HB5.out.y (kept3 w5 (X + 1) (.int .u64 (F3 : Int)) (.int .u64 (N3 : Int)) (.slice a5 m5 c5))
    have hr6 := HR5.out.put HB5.out.y (kept3 w5 (X + 1) (.int .u64 (F3 : Int)) (.int .u64 (N3 : Int)) (.slice a5 m5 c5))
    obtain ⟨w6, hw6⟩ : ∃ W, ((w5.setCell ⟨X + 1, 0, none⟩ (.int .u64 (F3 : Int))).setCell ⟨X + 1, 1, none⟩ (.int .u64 (N3 : Int))).setCell ⟨X + 1, 2, none⟩ (.slice a5 m5 c5) = W := ⟨_, rfl⟩
    have hs6 := kept3 w5 (X + 1) (.int .u64 (F3 : Int)) (.int .u64 (N3 : Int)) (.slice a5 m5 c5)
    rw [hw6] at hb6 hl6 hr6 hs6
    have HB6 := hide hb6
    have HL6 := hide hl6
    have HR6 := hide hr6
    clear hb6 hl6 hr6
    have l0 := lcell_of HB6.out.x 0 rfl
    have l1 := lcell_of HB6.out.x 1 rfl
    have l2 := lcell_of HB6.out.x 2 rfl
    have r0 := lcell_of HB6.out.y 0 rfl
    have r1 := lcell_of HB6.out.y 1 rfl
    have r2 := lcell_of HB6.out.y 2 rfl
    go_wp2
    refine OnToK.mk hk5 (Sub.refl _) ?_
    clear hk5
    have inh : Nonempty (GrK (fun x => x < X) w5) := GrK.some _ w5
    refine wpG_stageK ?_
    repeat (go_big_quiet_step (fail))
    refine wpQuiet_nil ?_
    clear inh
    go_wp2_with fail
    refine OnToK.mk (hs6.mono (fun x hx => by omega)) (Sub.refl _) ?_
    refine wpG_lastK ?_
    repeat (go_big_quiet_step (fail))
    refine wpQuiet_nil ?_
    go_wp2_with fail
    clear x0 x1 x2 xf hw6 l0 l1 l2 r0 r1 r2
    refine (as_any HL6.out HR6.out HM.out.sz).mono ?_
    rintro e w7 ⟨rfl, hb7⟩
    have HB7 := hide (HB6.out.then hb7)
    have HL7 := hide (HL6.out.below hb7)
    have HR7 := hide (HR6.out.below hb7)
    clear hb7
    by_cases hc0 : cq = 0
    · subst hc0
      have l0 := lcell_of HB7.out.x 0 rfl
      have l1 := lcell_of HB7.out.x 1 rfl
      have l2 := lcell_of HB7.out.x 2 rfl
      have r0 := lcell_of HB7.out.y 0 rfl
      have r1 := lcell_of HB7.out.y 1 rfl
      have r2 := lcell_of HB7.out.y 2 rfl
      go_wp2_with fail
      clear l0 l1 l2 r0 r1 r2
      have l0 := lcell_of HB7.out.x 0 rfl
      have l1 := lcell_of HB7.out.x 1 rfl
      have l2 := lcell_of HB7.out.x 2 rfl
      have r0 := lcell_of HB7.out.y 0 rfl
      have r1 := lcell_of HB7.out.y 1 rfl
      have r2 := lcell_of HB7.out.y 2 rfl
      have s0 := lcell_of HB7.out.c3 0 rfl
      have s1 := lcell_of HB7.out.c3 1 rfl
      have s2 := lcell_of HB7.out.c3 2 rfl
      have sf := lfrozen_of HB7.out.c3
      have t0 := lcell_of HB7.out.c4 0 rfl
      have t1 := lcell_of HB7.out.c4 1 rfl
      have t2 := lcell_of HB7.out.c4 2 rfl
      have tf := lfrozen_of HB7.out.c4
      have hX5 : w.heap.size + 5 ≤ X := HB7.out.lo
      have hA3 : ¬ (w.heap.size + 1 + 1 + 1 = X + 1) := by omega
      have hB3 : ¬ (X + 1 = w.heap.size + 1 + 1 + 1) := by omega
      go_region
      all_goals go_wp2
      have k1 := kept3 w7 (w.heap.size + 1 + 1 + 1) (.int .u64 (F3 : Int)) (.int .u64 (N3 : Int)) (.slice a3 m3 c3)
      have hx3 := set3 HB7.out.c3 (.int .u64 (F3 : Int)) (.int .u64 (N3 : Int)) (.slice a3 m3 c3)
      have hl8 := HL7.out.put HM.out.pos HB7.out.c3 k1
      have hr8 := HR7.out.put HB7.out.c3 k1
      have hx4 := (k1.block (w.heap.size + 1 + 1 + 1 + 1) (by omega)).trans HB7.out.c4
      have k2 := kept3 (((w7.setCell ⟨w.heap.size + 1 + 1 + 1, 0, none⟩ (.int .u64 (F3 : Int))).setCell ⟨w.heap.size + 1 + 1 + 1, 1, none⟩ (.int .u64 (N3 : Int))).setCell ⟨w.heap.size + 1 + 1 + 1, 2, none⟩ (.slice a3 m3 c3)) (w.heap.size + 1 + 1 + 1 + 1) (.int .u64 (F3 : Int)) (.int .u64 (N3 : Int)) (.slice a5 m5 c5)
      have hl9 := hl8.put HM.out.pos hx4 k2
      have hr9 := hr8.put hx4 k2
      have hy3 := (k2.block (w.heap.size + 1 + 1 + 1) (by omega)).trans hx3
      have hy4 := set3 hx4 (.int .u64 (F3 : Int)) (.int .u64 (N3 : Int)) (.slice a5 m5 c5)
      have hb9 := (HB7.out.bel.trans (k1.bel (B := w.heap.size) (fun b hb => by omega))).trans (k2.bel (B := w.heap.size) (fun b hb => by omega))
      obtain ⟨w9, hw9⟩ : ∃ W, (((((((w7.setCell ⟨w.heap.size + 1 + 1 + 1, 0, none⟩ (.int .u64 (F3 : Int))).setCell ⟨w.heap.size + 1 + 1 + 1, 1, none⟩ (.int .u64 (N3 : Int))).setCell ⟨w.heap.size + 1 + 1 + 1, 2, none⟩ (.slice a3 m3 c3)).setCell ⟨w.heap.size + 1 + 1 + 1 + 1, 0, none⟩ (.int .u64 (F3 : Int))).setCell ⟨w.heap.size + 1 + 1 + 1 + 1, 1, none⟩ (.int .u64 (N3 : Int))).setCell ⟨w.heap.size + 1 + 1 + 1 + 1, 2, none⟩ (.slice a5 m5 c5))) = W := ⟨_, rfl⟩
      rw [hw9] at hl9 hr9 hy3 hy4 hb9 ⊢
      have d0 := lcell_of hy3 0 rfl
      have d1 := lcell_of hy3 1 rfl
      have d2 := lcell_of hy3 2 rfl
      have e0 := lcell_of hy4 0 rfl
      have e1 := lcell_of hy4 1 rfl
      have e2 := lcell_of hy4 2 rfl
      refine bodyPost_ret (v := .tuple #[.agg #[.int .u64 (F3 : Int), .int .u64 (N3 : Int), .slice a3 m3 c3], .agg #[.int .u64 (F3 : Int), .int .u64 (N3 : Int), .slice a5 m5 c5], .bool true]) (by simp [results, Try.results18, go_sem, d0, d1, d2, e0, e1, e2]) rfl ?_
      rw [HA.out, HM.out.one HCQ.out]
      exact ⟨_, _, rfl, hl9.below (Below.refl _ w9).drew, hr9.below (Below.refl _ w9).drew, hb9.drew⟩
    · have hcz : ((cq : Int) == 0) = false := beq_eq_false_iff_ne.2 (by omega)
      have l0 := lcell_of HB7.out.c0 0 rfl
      have l1 := lcell_of HB7.out.c0 1 rfl
      have l2 := lcell_of HB7.out.c0 2 rfl
      have r0 := lcell_of HB7.out.c1 0 rfl
      have r1 := lcell_of HB7.out.c1 1 rfl
      have r2 := lcell_of HB7.out.c1 2 rfl
      have s0 := lcell_of HB7.out.c3 0 rfl
      have s1 := lcell_of HB7.out.c3 1 rfl
      have s2 := lcell_of HB7.out.c3 2 rfl
      have sf := lfrozen_of HB7.out.c3
      have t0 := lcell_of HB7.out.c4 0 rfl
      have t1 := lcell_of HB7.out.c4 1 rfl
      have t2 := lcell_of HB7.out.c4 2 rfl
      have tf := lfrozen_of HB7.out.c4
      have hX5 : w.heap.size + 5 ≤ X := HB7.out.lo
      go_wp2_with fail
      go_region
      all_goals go_wp2
      have k1 := kept3 w7 (w.heap.size + 1 + 1 + 1) (.int .u64 (F : Int)) (.int .u64 (N : Int)) (.slice a m c)
      have hx3 := set3 HB7.out.c3 (.int .u64 (F : Int)) (.int .u64 (N : Int)) (.slice a m c)
      have hx4 := (k1.block (w.heap.size + 1 + 1 + 1 + 1) (by omega)).trans HB7.out.c4
      have k2 := kept3 (((w7.setCell ⟨w.heap.size + 1 + 1 + 1, 0, none⟩ (.int .u64 (F : Int))).setCell ⟨w.heap.size + 1 + 1 + 1, 1, none⟩ (.int .u64 (N : Int))).setCell ⟨w.heap.size + 1 + 1 + 1, 2, none⟩ (.slice a m c)) (w.heap.size + 1 + 1 + 1 + 1) (.int .u64 (F : Int)) (.int .u64 (N : Int)) (.slice a2 m2 c2)
      have hy3 := (k2.block (w.heap.size + 1 + 1 + 1) (by omega)).trans hx3
      have hy4 := set3 hx4 (.int .u64 (F : Int)) (.int .u64 (N : Int)) (.slice a2 m2 c2)
      have hb9 := (HB7.out.bel.trans (k1.bel (B := w.heap.size) (fun b hb => by omega))).trans (k2.bel (B := w.heap.size) (fun b hb => by omega))
      obtain ⟨w9, hw9⟩ : ∃ W, (((((((w7.setCell ⟨w.heap.size + 1 + 1 + 1, 0, none⟩ (.int .u64 (F : Int))).setCell ⟨w.heap.size + 1 + 1 + 1, 1, none⟩ (.int .u64 (N : Int))).setCell ⟨w.heap.size + 1 + 1 + 1, 2, none⟩ (.slice a m c)).setCell ⟨w.heap.size + 1 + 1 + 1 + 1, 0, none⟩ (.int .u64 (F : Int))).setCell ⟨w.heap.size + 1 + 1 + 1 + 1, 1, none⟩ (.int .u64 (N : Int))).setCell ⟨w.heap.size + 1 + 1 + 1 + 1, 2, none⟩ (.slice a2 m2 c2))) = W := ⟨_, rfl⟩
      rw [hw9] at hy3 hy4 hb9 ⊢
      have d0 := lcell_of hy3 0 rfl
      have d1 := lcell_of hy3 1 rfl
      have d2 := lcell_of hy3 2 rfl
      have e0 := lcell_of hy4 0 rfl
      have e1 := lcell_of hy4 1 rfl
      have e2 := lcell_of hy4 2 rfl
      refine bodyPost_ret (v := .tuple #[.agg #[.int .u64 (F : Int), .int .u64 (N : Int), .slice a m c], .agg #[.int .u64 (F : Int), .int .u64 (N : Int), .slice a2 m2 c2], .bool true]) (by simp [results, Try.results18, go_sem, d0, d1, d2, e0, e1, e2]) rfl ?_
      rw [HA.out, HM.out.no (by rw [HCQ.out]; exact hc0)]
      exact ⟨_, _, rfl, HX.out.below hb9.drew, HY.out.below hb9.drew, hb9.drew⟩
end Go.Proofs.Ytjbdofjheeljkaa
