/-
  The statements' own shown: chapter 10's examples.
-/
import Derived.Test.YtjbdofjheeljkaaLdgBoxW
namespace Go.Proofs.Ytjbdofjheeljkaa
open Go.RowKit
open Ldg (De Le Rd Rl actL runL aN)

theorem u64_built (w : World) (l : List Nat) : U64In anyB (w.alloc (.cells (uV l).toArray 23)) (some ⟨w.heap.size, 0, none⟩) l :=
  (SlIn.row (c := l.length) (r := []) (X := anyB) (by rw [List.append_nil]; exact alloc_new _ _) trivial (Nat.le_refl _)).u
theorem U64In.later {X : Nat → Prop} {w w' : World} {a : Option Addr} {l : List Nat} (h : U64In X w a l) (hb : Below w.heap.size w w') : U64In X w' a l := h.keep hb.size (fun b hl _ => hb.block b hl)
theorem U64In.up {X : Nat → Prop} {w : World} {a : Option Addr} {l : List Nat} (h : U64In X w a l) : U64In anyB w a l := fun i hi => by
  obtain ⟨b, off, h1, h2, _, h4⟩ := h i hi
  exact ⟨b, off, h1, h2, trivial, h4⟩
theorem usame_yes {X Y : Nat → Prop} {w : World} {a b : Option Addr} {ca cb n : Nat} {l : List Nat} (h : U64In X w a l) (k : U64In Y w b l) (hl : l.length ≤ 1000000000) (hn : n = l.length) :
    Calls Try.prog 22 #[.slice a n ca, .slice b n cb] w fun e w' => e = .returned (.bool true) ∧ Below w.heap.size w w' := by
  subst hn
  refine (usame_any h k hl hl).mono ?_
  rintro e w' ⟨rfl, hb⟩
  exact ⟨by rw [decide_eq_true rfl], hb⟩
set_option maxRecDepth 100000 in
set_option maxHeartbeats 1600000 in
theorem lshown_any (w : World) : Calls Try.prog 15 #[] w fun e w' => e = .returned (.bool true) ∧ Below w.heap.size w w' := by
  have HF1 := hide (Ldg.abs_fit Ldg.x1_ok)
  have HF4 := hide (Ldg.abs_fit Ldg.x4_ok)
  have HFM := hide (Ldg.abs_fit Ldg.xm_ok)
  have HFN := hide (Ldg.abs_fit Ldg.xn_ok)
  have HF0 := hide (Ldg.abs_fit Ldg.new_ok)
  go_enter Try.func15, Try.ntmps15
  go_wp2_with fail
  refine (new_any _).mono ?_
  rintro e w1 ⟨rv, rfl, hl1, hb1⟩
  have HB := hide hb1
  clear hb1
  go_wp2_with fail
  refine (ljoin_any (L := (⟨1, 1, []⟩ : Rl).abs) hl1 HF0.out aN (by decide)).mono ?_
  rintro e w2 ⟨rv2, rfl, hl2, hb2⟩
  rw [Ldg.join_abs, Ldg.x1_is] at hl2 ⊢
  have HB := hide (HB.out.trans (hb2.mono HB.out.size))
  clear hb2 hl1
  have HB0 := HB
  obtain ⟨a1, m1, c1, rfl, hm1, hl⟩ := hl2.view
  have hbx := LBox.new hl
  obtain ⟨X, hX⟩ : ∃ X, w2.heap.size = X := ⟨_, rfl⟩
  obtain ⟨F1, hF⟩ : ∃ x, (Ldg.x1.abs).first = x := ⟨_, rfl⟩
  obtain ⟨N1, hN⟩ : ∃ x, (Ldg.x1.abs).next = x := ⟨_, rfl⟩
  rw [hF, hN] at hbx ⊢
  have hb := bnew w2 (.cells #[.int .u64 (F1 : Int), .int .u64 (N1 : Int), .slice a1 m1 c1] 27)
  obtain ⟨w3, hww3⟩ : ∃ W, w2.alloc (.cells #[.int .u64 (F1 : Int), .int .u64 (N1 : Int), .slice a1 m1 c1] 27) = W := ⟨_, rfl⟩
  rw [hww3] at hbx hb
  rw [hX] at hbx
  have HBX1 := hide hbx
  have HB := hide (HB.out.trans (hb.mono HB.out.size))
  have HHB := hide hb
  have x0 := lcell_of HBX1.out.cell 0 rfl
  have x1 := lcell_of HBX1.out.cell 1 rfl
  have x2 := lcell_of HBX1.out.cell 2 rfl
  have z0 := x0
  have z1 := x1
  have z2 := x2
  rw [← hww3] at z0 z1 z2
  clear hl hm1 hF hN hb hbx
  go_wp2_with fail
  try rw [hww3]
  try rw [hX]
  have HXE := hide hX
  clear x0 x1 x2 z0 z1 z2 hww3 hX
  have HLT := hide (show w.heap.size ≤ X by have := HB0.out.size; have := HXE.out; omega)
  refine (add_any HBX1.out.led HF1.out).mono ?_
  rintro e w4 ⟨v4, rfl, hl4, hb4⟩
  rw [← Ldg.add_abs] at hl4
  have HB := hide (HB.out.trans (hb4.mono HB.out.size))
  have HBX := hide (HBX1.out.then hb4)
  clear hb4
  go_wp2_with fail
  refine (add_any hl4 (Ldg.abs_fit (Ldg.add_ok Ldg.x1_ok (by decide)))).mono ?_
  rintro e w5 ⟨v5, rfl, hl5, hb5⟩
  rw [← Ldg.add_abs] at hl5
  have HB := hide (HB.out.trans (hb5.mono HB.out.size))
  have HBX := hide (HBX.out.then hb5)
  clear hb5 hl4
  go_wp2_with fail
  refine (add_any hl5 (Ldg.abs_fit (Ldg.add_ok (Ldg.add_ok Ldg.x1_ok (by decide)) (by decide)))).mono ?_
  rintro e w6 ⟨v6, rfl, hl6, hb6⟩
  rw [← Ldg.add_abs, Ldg.x4_is] at hl6
  have HB := hide (HB.out.trans (hb6.mono HB.out.size))
  have HBX := hide (HBX.out.then hb6)
  clear hb6 hl5
  obtain ⟨a4, m4, c4, rfl, hm4, hl⟩ := hl6.view
  obtain ⟨F4, hF⟩ : ∃ x, (Ldg.x4.abs).first = x := ⟨_, rfl⟩
  obtain ⟨N4, hN⟩ : ∃ x, (Ldg.x4.abs).next = x := ⟨_, rfl⟩
  rw [hF, hN] at hl ⊢
  have hbx := HBX.out.write hl (fun d hd x hx => by
    obtain ⟨r, hr, rfl⟩ := List.mem_map.1 hd
    obtain rfl := List.mem_singleton.1 hr
    cases hx)
  have hs := kept3 w6 X (.int .u64 (F4 : Int)) (.int .u64 (N4 : Int)) (.slice a4 m4 c4)
  have x0 := lcell_of HBX.out.cell 0 rfl
  have x1 := lcell_of HBX.out.cell 1 rfl
  have x2 := lcell_of HBX.out.cell 2 rfl
  have xf := lfrozen_of HBX.out.cell
  obtain ⟨w7, hw7⟩ : ∃ W, ((w6.setCell ⟨X, 0, none⟩ (.int .u64 (F4 : Int))).setCell ⟨X, 1, none⟩ (.int .u64 (N4 : Int))).setCell ⟨X, 2, none⟩ (.slice a4 m4 c4) = W := ⟨_, rfl⟩
  rw [hw7] at hbx hs
  have hb7 := HB.out.trans (hs.bel (fun b hb => by have := HLT.out; omega))
  have HB := hide hb7
  have HBX := hide hbx
  have y0 := lcell_of HBX.out.cell 0 rfl
  have y1 := lcell_of HBX.out.cell 1 rfl
  have y2 := lcell_of HBX.out.cell 2 rfl
  clear hl hl6 hm4 hF hN hbx hs hb7
  go_wp2_with fail
  clear x0 x1 x2 xf y0 y1 y2 hw7
  refine (ldone_any HBX.out.led HF4.out aN 2 97).mono ?_
  rintro e w8 ⟨v8, rfl, hl8, hb8⟩
  rw [Ldg.done_abs Ldg.x4_ok, Ldg.xm_is] at hl8 ⊢
  have HB := hide (HB.out.trans (hb8.mono HB.out.size))
  clear hb8 HBX
  obtain ⟨a8, m8, c8, rfl, hm8, hl⟩ := hl8.view
  have hbx := LBox.new hl
  obtain ⟨Y, hX⟩ : ∃ X, w8.heap.size = X := ⟨_, rfl⟩
  obtain ⟨F8, hF⟩ : ∃ x, (Ldg.xm.abs).first = x := ⟨_, rfl⟩
  obtain ⟨N8, hN⟩ : ∃ x, (Ldg.xm.abs).next = x := ⟨_, rfl⟩
  rw [hF, hN] at hbx ⊢
  have hb := bnew w8 (.cells #[.int .u64 (F8 : Int), .int .u64 (N8 : Int), .slice a8 m8 c8] 27)
  obtain ⟨w9, hww9⟩ : ∃ W, w8.alloc (.cells #[.int .u64 (F8 : Int), .int .u64 (N8 : Int), .slice a8 m8 c8] 27) = W := ⟨_, rfl⟩
  rw [hww9] at hbx hb
  rw [hX] at hbx
  have HBX8 := hide hbx
  have HB := hide (HB.out.trans (hb.mono HB.out.size))
  have HHB := hide hb
  have x0 := lcell_of HBX8.out.cell 0 rfl
  have x1 := lcell_of HBX8.out.cell 1 rfl
  have x2 := lcell_of HBX8.out.cell 2 rfl
  have z0 := x0
  have z1 := x1
  have z2 := x2
  rw [← hww9] at z0 z1 z2
  clear hl hm8 hF hN hb hbx
  go_wp2_with fail
  try rw [hww9]
  try rw [hX]
  clear x0 x1 x2 z0 z1 z2 hww9 hX
  refine (levict_any HBX8.out.led HFM.out 3).mono ?_
  rintro e w10 ⟨v10, rfl, hl10, hb10⟩
  rw [Ldg.evict_abs Ldg.xm_ok, Ldg.xn_is] at hl10 ⊢
  have HB := hide (HB.out.trans (hb10.mono HB.out.size))
  have HBXM := hide (HBX8.out.then hb10)
  clear hb10
  obtain ⟨a10, m10, c10, rfl, hm10, hl⟩ := hl10.view
  have hbx := LBox.new hl
  obtain ⟨Z, hX⟩ : ∃ X, w10.heap.size = X := ⟨_, rfl⟩
  obtain ⟨F10, hF⟩ : ∃ x, (Ldg.xn.abs).first = x := ⟨_, rfl⟩
  obtain ⟨N10, hN⟩ : ∃ x, (Ldg.xn.abs).next = x := ⟨_, rfl⟩
  rw [hF, hN] at hbx ⊢
  have hb := bnew w10 (.cells #[.int .u64 (F10 : Int), .int .u64 (N10 : Int), .slice a10 m10 c10] 27)
  obtain ⟨w11, hww11⟩ : ∃ W, w10.alloc (.cells #[.int .u64 (F10 : Int), .int .u64 (N10 : Int), .slice a10 m10 c10] 27) = W := ⟨_, rfl⟩
  rw [hww11] at hbx hb
  rw [hX] at hbx
  have HBX10 := hide hbx
  have HB := hide (HB.out.trans (hb.mono HB.out.size))
  have HHB := hide hb
  have x0 := lcell_of HBX10.out.cell 0 rfl
  have x1 := lcell_of HBX10.out.cell 1 rfl
  have x2 := lcell_of HBX10.out.cell 2 rfl
  have z0 := x0
  have z1 := x1
  have z2 := x2
  rw [← hww11] at z0 z1 z2
  clear hl hm10 hF hN hb hbx
  have HBY := hide (HBXM.out.then HHB.out)
  have y0 := lcell_of HBY.out.cell 0 rfl
  have y1 := lcell_of HBY.out.cell 1 rfl
  have y2 := lcell_of HBY.out.cell 2 rfl
  have u0 := y0
  have u1 := y1
  have u2 := y2
  rw [← hww11] at u0 u1 u2
  go_wp2_with fail
  try rw [hww11]
  try rw [hX]
  clear x0 x1 x2 z0 z1 z2 hww11 hX y0 y1 y2 u0 u1 u2
  refine (pending_any HBY.out.led HFM.out (Ldg.abs_right Ldg.xm_ok) aN).mono ?_
  rintro e w12 ⟨pv, rfl, ho, hb12⟩
  rw [Ldg.abs_pend Ldg.xm_ok, Ldg.xm_pend] at ho
  have hs12 := ho.sl
  obtain ⟨ap, cp, rfl, _, _, hu⟩ := hs12
  have HU := hide hu
  have HB := hide (HB.out.trans (hb12.mono HB.out.size))
  have HBZ := hide (HBX10.out.then hb12)
  clear hb12 ho hu
  obtain ⟨h1, h2, h3, h4⟩ := HBZ.out.view
  obtain rfl : m10 = 1 := h3
  have hd := HBZ.out.dest (k := 0) (by decide)
  obtain ⟨b, off, sv, rfl, hbl, _, hcs⟩ := hd.out
  have g4 := hcs 4 _ rfl
  have g5 := hcs 5 _ rfl
  rw [Nat.zero_mul, Nat.add_zero] at g4 g5
  have HG4 := hide (show w12.cell? ⟨b, off + 4, none⟩ = some (.int .u64 1) from g4)
  have HG5 := hide (show w12.cell? ⟨b, off + 5, none⟩ = some (.int .u64 1) from g5)
  clear h1 h2 h4 hd hcs g4 g5
  go_wp2_with fail
  refine (usame_yes (HU.out.up.later (bnew _ _)) (u64_built w12 [1, 3]) (by decide) rfl).mono ?_
  rintro e w13 ⟨rfl, hb13⟩
  have hb13' : Below w12.heap.size w12 w13 := bl (bnew _ _) hb13
  have HB := hide (HB.out.trans (hb13'.mono HB.out.size))
  have HBZ := hide (HBZ.out.then hb13')
  have HG4 := hide ((hb13'.cell (p := ⟨b, off + 4, none⟩) hbl).trans HG4.out)
  have HG5 := hide ((hb13'.cell (p := ⟨b, off + 5, none⟩) hbl).trans HG5.out)
  have hbl := Nat.lt_of_lt_of_le hbl hb13'.size
  have z0 := lcell_of HBZ.out.cell 0 rfl
  have z1 := lcell_of HBZ.out.cell 1 rfl
  have z2 := lcell_of HBZ.out.cell 2 rfl
  clear hb13 hb13'
  go_wp2_with fail
  refine (pending_any HBZ.out.led HFN.out (Ldg.abs_right Ldg.xn_ok) aN).mono ?_
  rintro e w14 ⟨pv, rfl, ho, hb14⟩
  rw [Ldg.abs_pend Ldg.xn_ok, Ldg.xn_pend] at ho
  have hs14 := ho.sl
  obtain ⟨aq, cq, rfl, _, _, hu⟩ := hs14
  have HU := hide hu
  have HB := hide (HB.out.trans (hb14.mono HB.out.size))
  have HBZ := hide (HBZ.out.then hb14)
  have HG4 := hide ((hb14.cell (p := ⟨b, off + 4, none⟩) hbl).trans HG4.out)
  have HG5 := hide ((hb14.cell (p := ⟨b, off + 5, none⟩) hbl).trans HG5.out)
  have hbl := Nat.lt_of_lt_of_le hbl hb14.size
  clear z0 z1 z2 hb14 ho hu
  go_wp2_with fail
  refine (usame_yes (HU.out.up.later (bnew _ _)) (u64_built w14 [3]) (by decide) rfl).mono ?_
  rintro e w15 ⟨rfl, hb15⟩
  have hb15' : Below w14.heap.size w14 w15 := bl (bnew _ _) hb15
  have HB := hide (HB.out.trans (hb15'.mono HB.out.size))
  have HBZ := hide (HBZ.out.then hb15')
  have g4 := (hb15'.cell (p := ⟨b, off + 4, none⟩) hbl).trans HG4.out
  have g5 := (hb15'.cell (p := ⟨b, off + 5, none⟩) hbl).trans HG5.out
  have z0 := lcell_of HBZ.out.cell 0 rfl
  have z1 := lcell_of HBZ.out.cell 1 rfl
  have z2 := lcell_of HBZ.out.cell 2 rfl
  clear hb15 hb15'
  go_wp2
  go_ret
  exact ⟨rfl, HB.out⟩
end Go.Proofs.Ytjbdofjheeljkaa
