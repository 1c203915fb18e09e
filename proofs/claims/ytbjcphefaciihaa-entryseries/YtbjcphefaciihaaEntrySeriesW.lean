/-
  The walk of EntrySeries.
-/
import Derived.Test.YtbjcphefaciihaaEntryBackW
namespace Go.Proofs.Ytbjcphefaciihaa
open Go.RowKit
open Lab (Pr)
open Smp (Sm)

theorem ser_eq {l m : List Pr} (hl : Lab.Right l) (hm : Lab.Right m) :
    ((Num.bs (Lab.putL (Lab.canon l))).toList == (Num.bs (Lab.putL (Lab.canon m))).toList) = decide (Lab.canon l = Lab.canon m) := by
  rw [Lab.eqB]
  apply decide_eq_decide.2
  constructor
  · intro h
    have h2 := congrArg (fun x : ByteArray => x.data.toList) h
    simp only [Num.bs_toList] at h2
    exact (Lab.putL_inj (x := []) (y := []) (Lab.canon_right hl) (Lab.canon_right hm) (by rw [h2])).1
  · intro h
    rw [h]
set_option maxRecDepth 100000 in
set_option maxHeartbeats 3200000 in
theorem walkEntrySeries (a0 : Option Addr) (len0 cap0 : Nat) (z0 : List Int) (a1 : Option Addr) (len1 cap1 : Nat) (z1 : List Int) (t : Int) (a2 : Option Addr) (len2 cap2 : Nat) (z2 : List Int) (by0 : Int) (w : World) (h0 : IsRow .i64 w a0 len0 cap0 z0) (h1 : IsRow .i64 w a1 len1 cap1 z1) (ht : 0 ≤ t ∧ t ≤ 18446744073709551615) (h2 : IsRow .i64 w a2 len2 cap2 z2) (hby : -9223372036854775808 ≤ by0 ∧ by0 ≤ 9223372036854775807) :
    Calls Try.prog 7 #[.slice a0 len0 cap0, .slice a1 len1 cap1, .int .u64 t, .slice a2 len2 cap2, .int .i64 by0] w fun e w' => e = .returned (.bool true) ∧ Below w.heap.size w w' := by
  obtain ⟨zl, rfl, hzl, hzp, hzw⟩ := isRow_nums h0
  obtain ⟨zm, rfl, hyl, hyp, hyw⟩ := isRow_nums h1
  obtain ⟨vs, rfl, hvl, hvp, hvw⟩ := isRow_nums h2
  clear h0 h1 h2
  have hzb : ∀ z ∈ zl, -9223372036854775808 ≤ z ∧ z ≤ 9223372036854775807 := fun z h => bounds_i64 (hzw z h)
  have hyb : ∀ z ∈ zm, -9223372036854775808 ≤ z ∧ z ≤ 9223372036854775807 := fun z h => bounds_i64 (hyw z h)
  have hvb : ∀ z ∈ vs, -9223372036854775808 ≤ z ∧ z ≤ 9223372036854775807 := fun z h => bounds_i64 (hvw z h)
  clear hzw hyw hvw
  obtain ⟨t7, ht7⟩ : ∃ t7, IntKind.u64.wrap (t + 7) = t7 := ⟨_, rfl⟩
  have ht7b : 0 ≤ t7 ∧ t7 < 18446744073709551616 := by rw [← ht7, IntKind.wrap_u64]; omega
  have HEX := hide (fun wx (hb : Below w.heap.size w wx) => entryOf_any a0 cap0 zl t a2 cap2 vs wx (hzp.below hb) hzb (by omega) (hvp.below hb) hvl hvb)
  have HEY := hide (fun wx (hb : Below w.heap.size w wx) => entryOf_any a1 cap1 zm t7 none 0 [] wx (hyp.below hb) hyb ht7b (fun i h => by simp at h) (Nat.zero_le _) (fun z h => by simp at h))
  have HRX := hide (labs_right zl)
  have HRY := hide (labs_right zm)
  have HOX := hide (smps_ok t hvb)
  have HCX := hide (smps_check t vs)
  have hsl := smps_len t vs
  have hul2 := smps_len t7 []
  clear hzp hvp hzb hvb hyp hyb
  generalize labs zl = l at *
  generalize labs zm = m at *
  generalize smps t vs = s at *
  generalize smps t7 [] = r at *
  have HSX : Hid (EntSm l s) := hide (entSm_of HRX.out (by omega) HOX.out)
  go_enter Try.func7, Try.ntmps7
  go_wp2_with fail
  refine (eshown_any _).mono ?_
  rintro e w1 ⟨rfl, hb1⟩
  go_wp2_with fail
  refine (HEX.out _ hb1).mono ?_
  rintro e w2 ⟨a, ca, b, cb, rfl, hE, hb2⟩
  have HE := hide hE
  have HB := hide (bl hb1 hb2)
  clear hb1 hb2 hE
  go_wp2_with fail
  refine (HEY.out _ (bl HB.out (bel_alloc _ _))).mono ?_
  rintro e w3 ⟨c, cc, d, cd, rfl, hF, hb3⟩
  obtain ⟨k0, k1, f0, f1⟩ := two_later hb3
  have hz3 := hb3.size
  simp only [World.size_alloc] at hz3
  have HE := hide (HE.out.below (bel_al hb3))
  have HF := hide hF
  have HB := hide (bl HB.out (bel_al hb3))
  clear hb3 hF
  obtain ⟨i0, hi, hzi0, hzi1, hzi2⟩ := info_parts info_pair
  obtain ⟨wy, hwy⟩ : ∃ wy, w3.alloc (Obj.cells #[.slice c m.length cc, .slice d r.length cd] 25) = wy := ⟨_, rfl⟩
  obtain ⟨g0, g1, f2, f3, hzy, hby2⟩ := new_two hwy
  obtain ⟨k0, k1, f0, f1⟩ := cells_keep (by omega) k0 k1 f0 f1 hby2
  have HE := hide (HE.out.below hby2)
  have HF := hide (HF.out.below hby2)
  have HB := hide (bl HB.out hby2)
  clear hby2
  obtain ⟨wz, hwz⟩ : ∃ wz, wy.alloc (Obj.cells #[.slice none 0 0, .slice d r.length cd] 25) = wz := ⟨_, rfl⟩
  obtain ⟨z0, z1, f4, f5, hzz, hbz⟩ := new_two hwz
  go_wp2
  go_loopw [15] (fun i wr => ∃ (k : Nat) (v : Value), k ≤ l.length ∧ i = .int .i64 (k : Int) ∧ wr.cell? ⟨wy.heap.size, 0, none⟩ = some v ∧ wr.cell? ⟨wy.heap.size, 1, none⟩ = some (.slice d r.length cd) ∧ wr.frozen? ⟨wy.heap.size, 0, none⟩ = false ∧ OwnP wr (wy.heap.size + 1) v ((rot l (pk by0 l.length)).take k) ∧ Below wy.heap.size wy wr)
    (fun i _ => l.length - (intOf i).toNat)
  case atStart => exact ⟨0, _, Nat.zero_le _, rfl, z0, z1, f4, OwnP.nil _ _, hbz⟩
  case round =>
    obtain ⟨k, v, hk, rfl, hv0, hv1, hfz, hro, hnx⟩ := hrel
    clear z0 z1 f4 f5 hbz
    have hxs : w2.heap.size < wy.heap.size := by omega
    have c0 := (hnx.cell (p := ⟨w2.heap.size, 0, none⟩) hxs).trans k0
    by_cases hlt : k < l.length
    · have hp := pk_lt by0 (show 0 < l.length by omega)
      have hbp := pick_any by0 l.length
      generalize hpk : pk by0 l.length = p at *
      have HPK := hide hpk
      clear hpk
      obtain ⟨j, hj⟩ : ∃ j, j = (k + p) % l.length := ⟨_, rfl⟩
      have hmod : j < l.length := by rw [hj]; exact Nat.mod_lt _ (by omega)
      have hlr := HRX.out.1
      have hyr := hnx.size
      obtain ⟨eb, eoff, zn, zv, rfl, hebl, hz, hc1, hc2⟩ := HE.out.1.get hnx hmod
      have HNX := hide (rot_next hp hlt (by rw [rot_len]; exact hlt) hj hmod hz)
      have hri := rot_mod hj
      have hnz : ((l.length : Int) == 0) = false := beq_eq_false_iff_ne.2 (by omega)
      have hwk : IntKind.i64.wrap ((k : Int) + (p : Int)) = (k : Int) + (p : Int) := by rw [IntKind.wrap_i64]; omega
      have hji : (j : Int) < (l.length : Int) := by omega
      have htk := rot_take l p hk
      unfold OwnP at hro
      rw [htk] at hro
      have HTK := hide htk
      clear hz htk hj
      have hzr : wy.heap.size + 1 ≤ wr.heap.size := World.block_lt_of_cell? wr _ hv0
      go_wp2_with fail
      refine wp_region_grow wr.heap.size [([0, 1, 2, 3, 4, 5, 6, 7, 8, 11, 12, 13], 9), ([10, 14, 15, 16], 17)] [] [18, 19, 20] (by kernel_rfl) (by kernel_rfl) (by kernel_rfl) (by kernel_rfl) ?_
      intro wq hbq
      simp only [stagesOf, getL, pickL]
      have hqs := hbq.size
      have inh : Nonempty (Gr wr.heap.size wq) := Gr.some _ wq
      have hv0 := (hbq.cell (p := ⟨wy.heap.size, 0, none⟩) hzr).trans hv0
      have hv1 := (hbq.cell (p := ⟨wy.heap.size, 1, none⟩) hzr).trans hv1
      have hfz := (hbq.frozen (p := ⟨wy.heap.size, 0, none⟩) hzr).trans hfz
      have x0 : ∀ x : Gr wr.heap.size wq, x.w.cell? _ = _ := fun x => x.cell (a := ⟨wy.heap.size, 0, none⟩) hzr hv0
      have x1 : ∀ x : Gr wr.heap.size wq, x.w.cell? _ = _ := fun x => x.cell (Nat.lt_of_lt_of_le hxs hyr) ((hbq.cell (p := ⟨w2.heap.size, 0, none⟩) (Nat.lt_of_lt_of_le hxs hyr)).trans c0)
      have x2 : ∀ x : Gr wr.heap.size wq, x.w.cell? _ = _ := fun x => x.cell (Nat.lt_of_lt_of_le hebl hyr) ((hbq.cell (p := ⟨eb, eoff + j * 2, none⟩) (Nat.lt_of_lt_of_le hebl hyr)).trans hc1)
      have x3 : ∀ x : Gr wr.heap.size wq, x.w.cell? _ = _ := fun x => x.cell (Nat.lt_of_lt_of_le hebl hyr) ((hbq.cell (p := ⟨eb, eoff + j * 2 + 1, none⟩) (Nat.lt_of_lt_of_le hebl hyr)).trans hc2)
      have hro : wq.ownsRow (wy.heap.size + 1) 53 2 v k (pcells ((rot l p).take k)) := by
        have h1 : OwnP wr (wy.heap.size + 1) v ((rot l p).take k) := by unfold OwnP; rw [HTK.out]; exact hro
        have h2 := h1.below hbq
        unfold OwnP at h2; rwa [HTK.out] at h2
      have hnx := hnx.trans (hbq.mono hyr)
      clear hbq hc1 hc2 c0
      refine wpG_stage ?_
      repeat (go_big_quiet_step (fail))
      refine wpQuiet_nil ?_
      go_wp2_with fail
      refine (pick_any by0 l.length _ hby.1 hby.2 (by omega) (by omega)).mono ?_
      rw [HPK.out]
      rintro e w5 ⟨rfl, hw5⟩
      rw [hw5]
      clear hw5
      go_wp2
      refine OnTo.mk (Below.refl _ _) (Nat.le_refl _) ?_
      refine wpG_stage ?_
      repeat (go_big_quiet_step (fail))
      refine wpQuiet_nil ?_
      go_wp2
      refine OnTo.mk ((bel_alloc wq _).mono hqs) (Nat.le_refl _) ?_
      refine wpG_last (wpQuiet_nil ?_)
      clear x0 x1 x2 x3 inh
      have hv0a := fun o => cell_alloc hv0 o
      go_wp2_with (at_builtin; refine wpList_append_own _ rfl _ _ 22 rfl (wy.heap.size + 1) 53 i0 _ 2 32 Try.underlying22 hi hzi0 hzi1 hzi2 rfl (by decide) _ _ _ rfl (hro.alloc _) ⟨wq.heap.size, 0, none⟩ 1 1 [.string zn, .string zv] rfl rfl ?c1 ?c2 ?c3 ?c4 ?c5 ?_)
      case c1 => exact cells_two_new _ _ _ _
      case c2 => intro u hu; simp at hu; rcases hu with rfl | rfl <;> rfl
      case c3 => unfold maxLen; omega
      case c4 => omega
      case c5 => simp; omega
      intro v' w4 hown' hgrow _
      have R := own_step2 HTK.out.symm (show wy.heap.size + 1 ≤ wq.heap.size by omega) (hro.alloc _) (Below.refl _ wq) hown' hgrow
      rw [← HNX.out] at R
      obtain ⟨R1, R2⟩ := R
      have q0 := (R2.cell (p := ⟨wy.heap.size, 0, none⟩) (Nat.lt_succ_self _)).trans hv0
      have q1 := (R2.cell (p := ⟨wy.heap.size, 1, none⟩) (Nat.lt_succ_self _)).trans hv1
      have q2 := (R2.frozen (p := ⟨wy.heap.size, 0, none⟩) (Nat.lt_succ_self _)).trans hfz
      clear hro hown' hgrow hv0a hv0 hv1 hfz
      obtain ⟨va, vn, vc, rfl⟩ : ∃ va vn vc, v' = .slice va vn vc := by obtain ⟨x, y, h, _⟩ := R1.view; exact ⟨_, _, _, h⟩
      go_wp2
      go_roundw
      case rel =>
        refine ⟨k + 1, _, by omega, by go_num, World.cell?_setCell_same _ _ _ q0, ?_, ?_, R1.setBelow (p := ⟨wy.heap.size, 0, none⟩) (Nat.lt_succ_self _) _, (hnx.trans (R2.mono (Nat.le_succ _))).setCell (Nat.le_refl _) _⟩
        · rw [World.cell?_setCell_other _ _ _ _ (by simp)]; exact q1
        · rw [World.frozen?_setCell]; exact q2
      case measure => simp [intOf]; omega
    · have hful : (rot l (pk by0 l.length)).take k = rot l (pk by0 l.length) := List.take_of_length_le (by rw [rot_len]; omega)
      rw [hful] at hro
      have hper := rot_perm l (pk by0 l.length)
      generalize rot l (pk by0 l.length) = T at *
      have hRt : Lab.Right T := Lab.perm_right hper HRX.out
      have hct : Lab.canon T = Lab.canon l := (Lab.canon_same hper HRX.out).symm
      obtain ⟨ta, tcap, rfl, htcap, htp, _⟩ := hro.view
      have HE := hide (HE.out.below hnx)
      have HF := hide (HF.out.below hnx)
      have HB := hide (bl HB.out hnx)
      have HTP := hide htp
      obtain ⟨k0, k1, f0, f1⟩ := cells_keep (by omega) k0 k1 f0 f1 hnx
      obtain ⟨g0, g1, f2, f3⟩ := cells_keep (by omega) g0 g1 f2 f3 hnx
      have hyr := hnx.size
      have hzr : wy.heap.size < wr.heap.size := World.block_lt_of_cell? wr _ hv0
      clear hful hper htp hro hnx c0
      have HSA := hide (fun wx (hb : Below wr.heap.size wr wx) => eseries_any a ca l b cb s wx (HE.out.1.below hb) HE.out.2.1 HSX.out.1)
      have HSB := hide (fun wx (hb : Below wr.heap.size wr wx) => eseries_any c cc m d cd r wx (HF.out.1.below hb) HF.out.2.1 (entSm_of HRY.out (s := []) (Nat.zero_le _) (fun x h => by simp at h)).1)
      have HSC := hide (fun wx (hb : Below wr.heap.size wr wx) => eseries_any ta tcap T d cd r wx (HTP.out.below hb) htcap (entSm_of hRt (s := []) (Nat.zero_le _) (fun x h => by simp at h)).1)
      have HPX := hide (fun wx (hb : Below wr.heap.size wr wx) => eput_any a ca l b cb s wx (HE.out.below hb) HSX.out)
      have HKX := hide (fun wx (hb : Below wr.heap.size wr wx) => refCanon_good a ca l wx (HE.out.1.below hb) HRX.out)
      have HKY := hide (fun wx (hb : Below wr.heap.size wr wx) => refCanon_good c cc m wx (HF.out.1.below hb) HRY.out)
      rw [Lab.check_zero.2 HRX.out, Ent.lput_ok HRX.out] at HSA
      rw [Lab.check_zero.2 HRY.out, Ent.lput_ok HRY.out] at HSB
      rw [Lab.check_zero.2 hRt, Ent.lput_ok hRt, hct] at HSC
      rw [Ent.check_zero.2 ⟨HRX.out, HCX.out⟩, ← put_join (Lab.check_zero.2 HRX.out) HCX.out, Ent.lput_ok HRX.out, putRes_ok HCX.out] at HPX
      have hAB := ser_eq HRX.out HRY.out
      have hcl : (Lab.canon l).length ≤ 9223372036854775807 := by rw [Lab.canon_length]; have := HRX.out.1; omega
      have hcm : (Lab.canon m).length ≤ 9223372036854775807 := by rw [Lab.canon_length]; have := HRY.out.1; omega
      have hS1 : (Num.bs (Lab.putL (Lab.canon l))).size ≤ 650 := by rw [Num.bs_size]; exact putL_less (Lab.canon_right HRX.out)
      have hS2 : (Num.bs (Smp.putS s)).size ≤ 500 := by rw [Num.bs_size]; exact Smp.putS_len HCX.out HOX.out
      have hS3 : 0 < (Num.bs (Smp.putS s)).size := by
        rw [Num.bs_size]
        cases s with
        | nil => simp at hsl
        | cons x xs => simp only [Smp.putS, List.length_append]; have := Num.put_pos (xs.length + 1); omega
      generalize Num.bs (Lab.putL (Lab.canon l)) = A at *
      generalize Num.bs (Lab.putL (Lab.canon m)) = B at *
      generalize Num.bs (Smp.putS s) = S at *
      have hex : (A ++ S).extract 0 A.size = A := by
        apply ByteArray.ext; simp
      go_wp2_with fail
      refine (HSA.out _ (Below.refl _ _)).mono ?_
      rintro e w5 ⟨rfl, hb5⟩
      obtain ⟨g0, g1, f2, f3⟩ := cells_keep (by omega) g0 g1 f2 f3 hb5
      obtain ⟨k0, k1, f0, f1⟩ := cells_keep (by omega) k0 k1 f0 f1 hb5
      have hv0 := (hb5.cell (p := ⟨wy.heap.size, 0, none⟩) hzr).trans hv0
      have hv1 := (hb5.cell (p := ⟨wy.heap.size, 1, none⟩) hzr).trans hv1
      have hz5 := hb5.size
      go_wp2_with fail
      refine (HSB.out _ hb5).mono ?_
      rintro e w6 ⟨rfl, hb6⟩
      obtain ⟨g0, g1, f2, f3⟩ := cells_keep (by omega) g0 g1 f2 f3 hb6
      obtain ⟨k0, k1, f0, f1⟩ := cells_keep (by omega) k0 k1 f0 f1 hb6
      have hv0 := (hb6.cell (p := ⟨wy.heap.size, 0, none⟩) (Nat.lt_of_lt_of_le hzr hz5)).trans hv0
      have hv1 := (hb6.cell (p := ⟨wy.heap.size, 1, none⟩) (Nat.lt_of_lt_of_le hzr hz5)).trans hv1
      have hz6 := hb6.size
      have hb6 := bl hb5 hb6
      clear hb5
      go_wp2_with fail
      refine (HSC.out _ hb6).mono ?_
      rintro e w7 ⟨rfl, hb7⟩
      obtain ⟨g0, g1, f2, f3⟩ := cells_keep (by omega) g0 g1 f2 f3 hb7
      obtain ⟨k0, k1, f0, f1⟩ := cells_keep (by omega) k0 k1 f0 f1 hb7
      have hz7 := hb7.size
      have hb7 := bl hb6 hb7
      clear hb6 hv0 hv1
      go_wp2_with fail
      refine (HPX.out _ hb7).mono ?_
      rintro e w8 ⟨rfl, hb8⟩
      obtain ⟨g0, g1, f2, f3⟩ := cells_keep (by omega) g0 g1 f2 f3 hb8
      obtain ⟨k0, k1, f0, f1⟩ := cells_keep (by omega) k0 k1 f0 f1 hb8
      have hz8 := hb8.size
      have hb8 := bl hb7 hb8
      clear hb7
      go_wp2_with fail
      refine (HKX.out _ hb8).mono ?_
      rintro e w9 ⟨v9, rfl, ho9, hb9⟩
      obtain ⟨pa, pc, rfl, _, hpp, _⟩ := ho9.view
      obtain ⟨g0, g1, f2, f3⟩ := cells_keep (by omega) g0 g1 f2 f3 hb9
      have hb9 := bl hb8 hb9
      have HP9 := hide hpp
      clear hb8 ho9 hpp k0 k1 f0 f1
      go_wp2_with fail
      refine (HKY.out _ hb9).mono ?_
      rintro e wa ⟨va, rfl, hoa, hba⟩
      obtain ⟨qa, qc, rfl, _, hqq, _⟩ := hoa.view
      have HPa := hide (HP9.out.below hba)
      have HQa := hide hqq
      have hba := bl hb9 hba
      clear hb9 hoa hqq g0 g1 f2 f3 HP9
      have HSM := hide (fun wx (hb : Below wa.heap.size wa wx) => same_any pa pc (Lab.canon l) qa qc (Lab.canon m) wx (HPa.out.below hb) (HQa.out.below hb) hcl hcm)
      generalize decide (Lab.canon l = Lab.canon m) = D at *
      have hbz := bl HB.out hba
      have hlt : decide ((A.size : Int) < ((A.size + S.size : Nat) : Int)) = true := decide_eq_true (by omega)
      go_wp2_with fail
      refine (HSM.out _ (Below.refl _ _)).mono ?_
      rintro e wb ⟨rfl, hbb⟩
      have hbz := bl hbz hbb
      go_wp2
      go_ret
      exact ⟨rfl, hbz⟩

end Go.Proofs.Ytbjcphefaciihaa
