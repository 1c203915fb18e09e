/-
  The walk of EntryOnly.
-/
import Derived.Test.YtbjcphefaciihaaRefEntW
import Derived.Test.YtbjcphefaciihaaEntOfW
import Derived.Test.YtbjcphefaciihaaEntKinds
import Derived.Test.YtbjcphefaciihaaOnlyW
namespace Go.Proofs.Ytbjcphefaciihaa
open Go.RowKit
open Lab (Pr)
open Smp (Sm)

theorem mat_and {ms : List Mt} {l : List Pr} {k : Nat} (hk : k < ms.length) : mat (ms.take (k + 1)) l = (mat (ms.take k) l && holds1 l ms[k]) := by
  unfold mat
  rw [List.take_succ_eq_append_getElem hk, List.all_append]
  simp

set_option maxRecDepth 100000 in
set_option maxHeartbeats 3200000 in
theorem walkEntryOnly (a : Option Addr) (ca : Nat) (l : List Pr) (b : Option Addr) (cb : Nat) (t : List Sm) (ma : Option Addr) (mc : Nat) (ms : List Mt) (fr tt : Int) (w : World) (hp : EntIn w a ca l b cb t) (hs : EntSm l t) (hm : MatsAt w ma ms) (hml : ms.length ≤ 9223372036854775807) (_ : ms.length ≤ mc ∧ (ma = none → mc = 0)) (_ : ∀ p ∈ ms, p.1.size ≤ 9223372036854775807 ∧ p.2.1.size ≤ 9223372036854775807) (_hf : 0 ≤ fr ∧ fr ≤ 18446744073709551615) (_ht : 0 ≤ tt ∧ tt ≤ 18446744073709551615) :
    Calls Try.prog 4 #[.agg #[.slice a l.length ca, .slice b t.length cb], .slice ma ms.length mc, .int .u64 fr, .int .u64 tt] w fun e w' => e = .returned (.bool true) ∧ Below w.heap.size w w' := by
  have HF := hide (fun wx (hb : Below w.heap.size w wx) => efew_any a ca l b cb t.length wx (hp.1.below hb) hs.1.1 hs.2.1)
  by_cases h20 : 20 < ms.length
  · clear hp hs hm
    go_enter Try.func4, Try.ntmps4
    go_wp2_with fail
    refine (eshown_any _).mono ?_
    rintro e w1 ⟨rfl, hb1⟩
    obtain ⟨c0, c1, _, _⟩ := two_later hb1
    have hb1 := bel_al hb1
    go_wp2_with fail
    refine (HF.out _ hb1).mono ?_
    rintro e w2 ⟨⟨B, rfl, hB⟩, hb2⟩
    have hb3 := bl hb1 hb2
    clear hb1 hb2 hB
    cases B with
    | false =>
      go_wp2
      go_ret
      exact ⟨rfl, hb3⟩
    | true =>
      go_wp2
      go_ret
      exact ⟨rfl, hb3⟩
  have HON := hide (fun wx (hb : Below w.heap.size w wx) (h40 : t.length ≤ 40) => only_any a ca l b cb t ma mc ms fr tt wx (hp.below hb) hs (hm.below hb) hml (by omega))
  have HRK := hide (fun wx (hb : Below w.heap.size w wx) => recheck_any a ca l b cb t wx (hp.below hb) hs)
  have HRV := hide (fun wx nn (hb : Below w.heap.size w wx) => refValue_any a ca l nn wx (hp.1.below hb) hs.1.1)
  have HBE := hide (fun wx (hb : Below w.heap.size w wx) (h40 : t.length ≤ 40) => refBetween_any b cb t fr tt wx (hp.2.2.1.below hb) (by omega))
  have HE := hide (fun wx (hb : Below w.heap.size w wx) => hp.below hb)
  have HM := hide hm
  have hlm := hs.1.1
  clear hp hs hm
  go_enter Try.func4, Try.ntmps4
  go_wp2_with fail
  refine (eshown_any _).mono ?_
  rintro e w1 ⟨rfl, hb1⟩
  obtain ⟨c0, c1, _, _⟩ := two_later hb1
  have HB := hide hb1
  clear hb1
  go_wp2_with fail
  refine (HF.out _ (bel_al HB.out)).mono ?_
  rintro e w2 ⟨⟨B, rfl, hB⟩, hb2⟩
  have HB := hide (bl HB.out hb2)
  obtain ⟨d0, d1, _, _⟩ := two_later HB.out
  clear hb2 c0 c1
  cases B with
  | false =>
    have hb3 := bel_al HB.out
    go_wp2
    go_ret
    exact ⟨rfl, hb3⟩
  | true =>
  obtain ⟨_, h40⟩ := hB rfl
  clear hB
  go_wp2_with fail
  refine (HON.out _ (bel_al HB.out) h40).mono ?_
  rintro e w3 ⟨hO, hb2⟩
  obtain ⟨xa, xc, ya, yc, rfl, hx, _⟩ := hO
  have HX := hide hx
  have HB := hide (bl HB.out hb2)
  obtain ⟨c0, c1, f0, f1⟩ := two_later HB.out
  clear hb2 d0 d1 hx
  generalize hR : oRes l t ms fr tt = R at *
  obtain ⟨⟨X, Y⟩, is⟩ := R
  simp only at HX ⊢
  have e0 := fun o => cell_alloc c0 o
  have e1 := fun o => cell_alloc c1 o
  go_wp2_with fail
  refine (HRK.out _ (bl (bel_al HB.out) (bel_alloc _ _))).mono ?_
  rintro e w4 ⟨rfl, hb2⟩
  obtain ⟨k0, k1, f2, f3⟩ := two_later hb2
  have HX := hide (HX.out.below (bel_al hb2))
  have hz3 := HB.out.size
  have hz4 := hb2.size
  simp only [World.size_alloc] at hz3 hz4
  have HB := hide (bl HB.out (bel_al hb2))
  obtain ⟨d0, d1, _, _⟩ := two_later HB.out
  clear hb2 e0 e1 c0 c1 f0 f1
  obtain ⟨C, hC⟩ : ∃ C, (Ent.check l t == 0) = C := ⟨_, rfl⟩
  go_wp2
  go_loopw [13, 14] (fun t i wr => ∃ k : Nat, k ≤ ms.length ∧ i = .int .i64 (k : Int) ∧ t = .bool (C && mat (ms.take k) l) ∧ Below w4.heap.size w4 wr)
    (fun _ i _ => ms.length - (intOf i).toNat)
  case atStart => exact ⟨0, Nat.zero_le _, rfl, by cases C <;> rfl, Below.refl _ _⟩
  case round =>
    obtain ⟨k, hk, rfl, rfl, hnx⟩ := hrel
    have hl4 : w.heap.size < w4.heap.size := by omega
    have hl5 : w3.heap.size < w4.heap.size := by omega
    have g0 := (hnx.cell (p := ⟨w.heap.size, 0, none⟩) hl4).trans d0
    have g1 := (hnx.cell (p := ⟨w.heap.size, 1, none⟩) hl4).trans d1
    have g2 := (hnx.cell (p := ⟨w3.heap.size, 0, none⟩) hl5).trans k0
    have g3 := (hnx.cell (p := ⟨w3.heap.size, 1, none⟩) hl5).trans k1
    have hbn := bl (bel_al HB.out) hnx
    by_cases hlt : k < ms.length
    · obtain ⟨b', off, zn, zv, q, rfl, hbl, hz, hc1, hc2, hc3⟩ := (unhide HM).get hbn hlt
      obtain ⟨s, hs⟩ : ∃ s, ((Lab.value l zn).toList == zv.toList) = s := ⟨_, rfl⟩
      have HH : Hid (holds1 l ms[k] = (s != q)) := by rw [hz]; unfold holds1; rw [hs]; exact rfl
      have HN := hide (mat_and (l := l) hlt)
      have hki : (k : Int) < (ms.length : Int) := by omega
      clear hz d0 d1 k0 k1 g1 g2 g3
      obtain ⟨T, hT⟩ : ∃ T, (C && mat (ms.take k) l) = T := ⟨_, rfl⟩
      rw [hT]
      have HTT := hide hT
      clear hT
      go_wp2_with fail
      have inh : Nonempty (Ext wr) := Ext.some wr
      have x0 : ∀ x : Ext wr, x.w.cell? _ = _ := fun x => x.cell g0
      have x1 : ∀ x : Ext wr, x.w.cell? _ = _ := fun x => x.cell hc1
      have x2 : ∀ x : Ext wr, x.w.cell? _ = _ := fun x => x.cell hc2
      refine wp_region_calm (by kernel_rfl) (by kernel_rfl) ?_
      repeat (go_big_quiet_step ((go_at_call 22; exact calm_of (HRV.out _ _ (bl hbn (Ext.below _))))))
      refine wpQuiet_nil ?_
      intro _ hw'
      obtain ⟨xq, rfl⟩ := hw'
      have hbx : Below w4.heap.size w4 xq.w := bl hnx xq.below
      have e4 := xq.cell hc3
      clear x0 x1 x2 hc1 hc2 hc3 inh g0
      generalize xq.w = wc at *
      cases T
      · go_wp2
        go_roundw
        case rel => exact ⟨k + 1, by omega, by go_num, by rw [HN.out, ← Bool.and_assoc, HTT.out]; rfl, hbx⟩
        case measure => simp [intOf]; omega
      · go_wp2
        go_roundw
        case rel => exact ⟨k + 1, by omega, by go_num, by rw [HN.out, ← Bool.and_assoc, HTT.out, HH.out]; rfl, hbx⟩
        case measure => simp [intOf]; omega
    · have hful : ms.take k = ms := List.take_of_length_le (by omega)
      rw [hful]
      have HX := hide (HX.out.below hnx)
      have HB := hide (bl HB.out hnx)
      clear hful d0 d1 k0 k1
      have HCR : Hid (C = true → mat ms l = true → Lab.Right l) := hide (fun h _ => (Ent.check_zero.1 (by rw [h] at hC; simpa using hC)).1)
      by_cases hall : (C && mat ms l) = true ∧ Smp.between t fr tt ≠ []
      · have hCM := hall.1
        rw [Bool.and_eq_true] at hCM
        have hE0 : Ent.check l t = 0 := by have := hCM.1; rw [this] at hC; simpa using hC
        rw [oRes_yes hE0 hCM.2 hall.2] at hR
        simp only [Prod.mk.injEq] at hR
        obtain ⟨⟨rfl, rfl⟩, rfl⟩ := hR
        have HRR := hide (HCR.out hCM.1 hCM.2)
        have hW0 : ((Smp.between t fr tt).length == 0) = false := beq_eq_false_iff_ne.2 (fun e => hall.2 (List.length_eq_zero_iff.1 e))
        rw [hall.1]
        clear hCM hE0
        go_wp2_with fail
        refine (HBE.out _ (bel_al HB.out) h40).mono ?_
        rintro e w5 ⟨v, rfl, ho, hb2⟩
        obtain ⟨b1, cb1, rfl, hcb, hsa, _⟩ := ho.view
        have HSA := hide hsa
        have HX := hide (HX.out.below hb2)
        have g0 := (hb2.cell (p := ⟨w.heap.size, 0, none⟩) (by have := hnx.size; show w.heap.size < wr.heap.size; omega)).trans g0
        have g2 := (hb2.cell (p := ⟨w3.heap.size, 0, none⟩) (by have := hnx.size; show w3.heap.size < wr.heap.size; omega)).trans g2
        have g3 := (hb2.cell (p := ⟨w3.heap.size, 1, none⟩) (by have := hnx.size; show w3.heap.size < wr.heap.size; omega)).trans g3
        have HB := hide (bl HB.out hb2)
        have HCA := hide (fun wx (hb : Below w5.heap.size w5 wx) => ecanon_any a ca l b1 cb1 (Smp.between t fr tt) wx ⟨(HE.out wx (bl (bel_al HB.out) hb)).1, (HE.out wx (bl (bel_al HB.out) hb)).2.1, HSA.out.below hb, hcb⟩ HRR.out)
        have hbl5 := Nat.le_trans (bet_len t fr tt) (show t.length ≤ 9223372036854775807 by omega)
        have hcl5 : (Lab.canon l).length ≤ 9223372036854775807 := by rw [Lab.canon_length]; exact hlm
        have hq5 : w3.heap.size < w5.heap.size := by have h1 := hnx.size; have h2 := hb2.size; omega
        have hq6 : w3.heap.size < w5.heap.size := hq5
        clear hb2 ho hsa g1
        generalize Smp.between t fr tt = W at *
        go_upto_region 15 with fail
        go_cut [8] (fun v wc => v = .bool true ∧ Below w.heap.size w wc)
        case first =>
          go_region_with (first
            | (go_at_call 24; refine (HCA.out _ (Below.refl _ _).drew).mono ?_; rintro e w6 ⟨a6, c6, rfl, hE6, hb6⟩; have hX6 := HX.out.below (bl (Below.refl _ w5).drew hb6); have hbl6 := bl (bel_al HB.out) (bl (Below.refl _ w5).drew hb6); have g2 := (hb6.cell hq5).trans g2; have g3 := (hb6.cell hq6).trans g3)
            | (go_at_call 20; refine (esame_yes xa xc (Lab.canon l) ya yc W a6 c6 b1 cb1 _ hcl5 hbl5 hX6 hE6).mono ?_; rintro e w7 ⟨rfl, hb7⟩; have hbl7 := bl hbl6 hb7))
          all_goals (go_wp2; go_meet; case rel => exact ⟨rfl, hbl7⟩)
        case rest => 
          obtain ⟨rfl, hbc⟩ := hcut
          go_wp2
          go_ret
          exact ⟨rfl, hbc⟩
      · have hRn : oRes l t ms fr tt = (([], []), false) := oRes_no (fun h => hall ⟨by rw [h.1] at hC; rw [← hC, h.2.1]; rfl, h.2.2⟩)
        rw [hRn] at hR
        simp only [Prod.mk.injEq] at hR
        obtain ⟨⟨rfl, rfl⟩, rfl⟩ := hR
        go_wp2_with fail
        refine (HBE.out _ (bel_al HB.out) h40).mono ?_
        rintro e w5 ⟨v, rfl, ho, hb2⟩
        obtain ⟨b1, cb1, rfl, hcb, hsa, _⟩ := ho.view
        have HX := hide (HX.out.below hb2)
        have g2 := (hb2.cell (p := ⟨w3.heap.size, 0, none⟩) (by have := hnx.size; show w3.heap.size < wr.heap.size; omega)).trans g2
        have g3 := (hb2.cell (p := ⟨w3.heap.size, 1, none⟩) (by have := hnx.size; show w3.heap.size < wr.heap.size; omega)).trans g3
        have HB := hide (bl HB.out hb2)
        have HY := hide (fun wx (hb : Below w5.heap.size w5 wx) => esame_yes xa xc [] ya yc [] none 0 none 0 wx (Nat.zero_le _) (Nat.zero_le _) (HX.out.below hb) ⟨PairsAt.nil _ _, Nat.le_refl _, SmpsAt.nil _ _, Nat.le_refl _⟩)
        clear hb2 ho hsa g1
        have HAL := hide hall
        clear hall
        generalize Smp.between t fr tt = W at *
        cases hT : (C && mat ms l) with
        | false =>
          go_wp2_with fail
          refine (HY.out _ (Below.refl _ _)).mono ?_
          rintro e w7 ⟨rfl, hb7⟩
          have hbz := bl (bel_al HB.out) hb7
          go_wp2
          go_ret
          exact ⟨rfl, hbz⟩
        | true =>
          have hW : W = [] := Classical.byContradiction (fun h => HAL.out ⟨hT, h⟩)
          subst hW
          go_wp2_with fail
          refine (HY.out _ (Below.refl _ _)).mono ?_
          rintro e w7 ⟨rfl, hb7⟩
          have hbz := bl (bel_al HB.out) hb7
          go_wp2
          go_ret
          exact ⟨rfl, hbz⟩

end Go.Proofs.Ytbjcphefaciihaa
