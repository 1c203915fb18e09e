/-
  The walk of LabelBack.
-/
import Derived.Test.YtlhajjplkblllaaLabTurnM
import Derived.Test.YtlhajjplkblllaaLabShownW
import Derived.Test.YtlhajjplkblllaaLabTakeW
import Derived.Test.YtlhajjplkblllaaFewW
namespace Go.Proofs.Ytlhajjplkblllaa
open Go.RowKit
open Lab (Pr)

theorem ltake_back {c : List Pr} (hr : Lab.Right c) (hs : Lab.Rise c) (rest : ByteArray) (hl : rest.size ≤ 1000) (w : World) :
    Calls Try.prog 16 #[.string (Num.bs (Lab.putL c) ++ rest)] w fun e w' => ∃ v, e = .returned (.tuple #[v, .string rest, .int .i64 0]) ∧ OwnP w' w.heap.size v c ∧ Below w.heap.size w w' := by
  have h1 := Lab.putL_len hr
  have h2 : (Num.bs (Lab.putL c) ++ rest).size ≤ 100000 := by
    rw [bs_append, Num.bs_size]; simp; omega
  have h3 : Lab.takeL (Num.bs (Lab.putL c) ++ rest).data.toList = some (c, rest.data.toList) := by
    rw [bs_append, Num.bs_toList]; exact Lab.takeL_put hr hs _
  refine (ltake_any _ w h2).mono fun e w' ⟨h, hb⟩ => ?_
  rw [h3] at h
  rcases h with ⟨h, _⟩ | ⟨ps, r, v, h, he, ho⟩
  · cases h
  · simp only [Option.some.injEq, Prod.mk.injEq] at h
    obtain ⟨rfl, rfl⟩ := h
    exact ⟨v, by rw [he, Num.bs_of], ho, hb⟩
theorem same_yes (a : Option Addr) (ca n : Nat) (b : Option Addr) (cb m : Nat) (c : List Pr) (w : World) (hn : n = c.length) (hm : m = c.length) (hl : c.length ≤ 9223372036854775807) (hp : PairsAt w a c) (hq : PairsAt w b c) :
    Calls Try.prog 22 #[.slice a n ca, .slice b m cb] w fun e w' => e = .returned (.bool true) ∧ Below w.heap.size w w' := by
  subst hn; subst hm
  have := same_any a ca c b cb c w hp hq hl hl
  rwa [decide_eq_true rfl] at this
theorem lput_as (a : Option Addr) (cap n : Nat) (l c : List Pr) (w : World) (hn : n = l.length) (hp : PairsAt w a l) (hcap : l.length ≤ cap) (hr : Lab.Right l) (hc : Lab.canon l = c) :
    Calls Try.prog 14 #[.slice a n cap] w fun e w' => e = .returned (.tuple #[.string (Num.bs (Lab.putL c)), .int .i64 0]) ∧ Below w.heap.size w w' := by
  subst hn; subst hc; exact lput_good a cap l w hp hcap hr

set_option maxRecDepth 100000 in
set_option maxHeartbeats 3200000 in
theorem walkLabelBack (a0 : Option Addr) (len0 cap0 : Nat) (z0 : List Int) (rest : ByteArray) (a1 : Int) (w : World) (h0 : IsRow .i64 w a0 len0 cap0 z0) (hrm : rest.size ≤ maxLen) (h1 : -9223372036854775808 ≤ a1 ∧ a1 ≤ 9223372036854775807) :
    Calls Try.prog 5 #[.slice a0 len0 cap0, .string rest, .int .i64 a1] w fun e w' => e = .returned (.bool true) ∧ Below w.heap.size w w' := by
  obtain ⟨zs, rfl, hzm, hz, hzb⟩ := isRow_ints h0
  obtain ⟨h1a, h1b⟩ := h1
  obtain ⟨i0, hi, hz0, hz1, hz2⟩ := info_parts info_pair
  have hR := labs_right zs
  have HL := hide (fun wx (hb : Below w.heap.size w wx) => labelsOf_any a0 cap0 zs wx (hz.below hb) hzb)
  generalize labs zs = l at *
  have h8 := hR.1
  have HR := hide hR
  clear h0 hz hzb hR
  by_cases h20 : 1000 < rest.size
  · unfold maxLen at hrm
    go_enter Try.func5, Try.ntmps5
    go_wp2_with fail
    refine (lshown_any _).mono ?_
    rintro e w1 ⟨rfl, hb1⟩
    go_wp2
    go_ret
    exact ⟨rfl, hb1⟩
  clear hrm
  go_enter Try.func5, Try.ntmps5
  go_wp2_with fail
  refine (lshown_any _).mono ?_
  rintro e w1 ⟨rfl, hb1⟩
  go_wp2_with fail
  refine (HL.out _ hb1).mono ?_
  rintro e w2 ⟨v, rfl, hown, hb2⟩
  obtain ⟨oa, ocap, rfl, hocap, hop, _⟩ := hown.view
  have HOP := hide hop
  have hbz := bl hb1 hb2
  clear hown hop hb1 hb2 HL
  go_wp2
  go_loopw [9, 10] (fun v i wr => ∃ k : Nat, k ≤ l.length ∧ i = .int .i64 (k : Int) ∧ OwnP wr w2.heap.size v ((rot l (pk a1 l.length)).take k) ∧ Below w2.heap.size w2 wr)
    (fun _ i _ => l.length - (intOf i).toNat)
  case atStart => exact ⟨0, Nat.zero_le _, rfl, OwnP.nil _ _, Below.refl _ _⟩
  case round =>
    obtain ⟨k, hk, rfl, hro, hnx⟩ := hrel
    by_cases hlt : k < l.length
    · have hp := pk_lt a1 (show 0 < l.length by omega)
      generalize hpk : pk a1 l.length = r at *
      have HPK := hide hpk
      clear hpk
      obtain ⟨j, hj⟩ : ∃ j, j = (k + r) % l.length := ⟨_, rfl⟩
      have hmod : j < l.length := by rw [hj]; exact Nat.mod_lt _ (by omega)
      obtain ⟨b, off, zn, zv, rfl, hbl, hz, hc1, hc2⟩ := HOP.out.get hnx hmod
      have HNX := hide (rot_next hp hlt (by rw [rot_len]; exact hlt) hj hmod hz)
      have hri := rot_mod hj
      have hnz : ((l.length : Int) == 0) = false := beq_eq_false_iff_ne.2 (by omega)
      have hsz := hnx.size
      have htk := rot_take l r hk
      unfold OwnP at hro
      rw [htk] at hro
      have HTK := hide htk
      clear hz htk hj
      go_wp2_with fail
      refine (pick_any a1 l.length _ h1a h1b (by omega) (by omega)).mono ?_
      rw [HPK.out]
      rintro e w3 ⟨rfl, rfl⟩
      go_wp2_with (at_builtin; refine wpList_append_own _ rfl _ _ 22 rfl w2.heap.size 45 i0 _ 2 32 Try.underlying22 hi hz0 hz1 hz2 rfl (by decide) _ _ _ rfl (hro.alloc _) ⟨w3.heap.size, 0, none⟩ 1 1 [.string zn, .string zv] rfl rfl ?c1 ?c2 ?c3 ?c4 ?c5 ?_)
      case c1 => exact cells_two_new _ _ _ _
      case c2 => intro u hu; simp at hu; rcases hu with rfl | rfl <;> rfl
      case c3 => unfold maxLen; omega
      case c4 => omega
      case c5 => simp; omega
      intro v' w4 hown' hgrow _
      have R := own_step2 HTK.out.symm hsz (hro.alloc _) hnx hown' hgrow
      rw [← HNX.out] at R
      clear hro hown' hgrow
      go_wp2
      go_roundw
      case rel => exact ⟨k + 1, by omega, by go_num, R.1, R.2⟩
      case measure => simp [intOf]; omega
    · have hful : (rot l (pk a1 l.length)).take k = rot l (pk a1 l.length) := List.take_of_length_le (by rw [rot_len]; omega)
      rw [hful] at hro
      have hper := rot_perm l (pk a1 l.length)
      generalize rot l (pk a1 l.length) = t at *
      have hRt : Lab.Right t := Lab.perm_right hper HR.out
      have htl : l.length = t.length := hper.length_eq
      obtain ⟨ta, tcap, rfl, htcap, htp, _⟩ := hro.view
      have HL1 := hide (HOP.out.below hnx)
      have HT1 := hide htp
      have hct : Lab.canon t = Lab.canon l := (Lab.canon_same hper HR.out).symm
      obtain ⟨c, hc⟩ : ∃ c, c = Lab.canon l := ⟨_, rfl⟩
      have hRc : Lab.Right c := by rw [hc]; exact Lab.canon_right HR.out
      have hSc : Lab.Rise c := by rw [hc]; exact Lab.canon_rise HR.out
      have hcl : l.length = c.length := by rw [hc, Lab.canon_length]
      have hval : ∀ p ∈ c, Lab.value l p.1 = p.2 := fun p hp => by
        rw [hc] at hp
        exact Lab.value_mem HR.out.2.2 ((Lab.canon_perm l).mem_iff.1 hp)
      rw [← hc] at hct
      have hplen := Lab.putL_len hRc
      have l1 : (Num.bs (Lab.putL c)).size ≤ 50000 := by rw [Num.bs_size]; exact hplen
      have HP1 := hide (fun wx hp => lput_as oa ocap l.length l c wx rfl hp hocap HR.out hc.symm)
      have HP2 := hide (fun wx hp => lput_as ta tcap t.length t c wx rfl hp htcap hRt hct)
      have HCG := hide (fun wx hp => canon_good oa ocap l wx hp hocap HR.out)
      rw [← hc] at HCG
      have HTK := hide (fun wx => ltake_back hRc hSc rest (by omega) wx)
      have HB0 := hide (bl hbz hnx)
      have HCL := hide hcl
      have HSC := hide hSc
      have HVAL := hide hval
      clear hper hRt htl htp hro hful hbz hnx hct hc hRc hSc hcl hval hplen HOP
      go_wp2_with fail
      refine (HP1.out _ HL1.out).mono ?_
      rintro e w3 ⟨rfl, hb3⟩
      have HL3 := hide (HL1.out.below hb3)
      have HT3 := hide (HT1.out.below hb3)
      have HB3 := hide (bl HB0.out hb3)
      clear hb3 HL1 HT1 HB0
      go_wp2_with fail
      refine (HP2.out _ HT3.out).mono ?_
      rintro e w4 ⟨rfl, hb4⟩
      have HL4 := hide (HL3.out.below hb4)
      have HB4 := hide (bl HB3.out hb4)
      clear hb4 HL3 HT3 HB3
      go_wp2_with fail
      refine (HCG.out _ HL4.out).mono ?_
      rintro e w5 ⟨g, rfl, hg, hrow, hb5⟩
      have HC5 := hide hrow
      have HL5 := hide (HL4.out.below hb5)
      have HB5 := hide (bl HB4.out hb5)
      clear hb5 HL4 HB4 hrow HP1 HP2 HCG
      go_wp2_with fail
      refine (HTK.out _).mono ?_
      rintro e w6 ⟨v, rfl, hown, hb6⟩
      obtain ⟨xa, xcap, rfl, hxcap, hxp, _⟩ := hown.view
      have HX6 := hide hxp
      have HC6 := hide (HC5.out.later hb6)
      have HL6 := hide (HL5.out.below hb6)
      have HB6 := hide (bl HB5.out hb6)
      clear hb6 HC5 HL5 HB5 hown hxp
      go_wp2_with fail
      refine (same_yes xa xcap _ (some ⟨g, 0, none⟩) l.length _ c _ rfl HCL.out (by have := HCL.out; omega) HX6.out HC6.out.pairs).mono ?_
      rintro e w7 ⟨rfl, hb7⟩
      have HC7 := hide (HC6.out.later hb7)
      have HL7 := hide (HL6.out.below hb7)
      have HB7 := hide (bl HB6.out hb7)
      clear hb7 HC6 HL6 HB6 HX6
      have HVA := hide (fun wx nn V hV hp => value_as oa ocap l.length l nn V rfl hV (by omega) wx hp)
      go_wp2
      go_loopw [20] (fun i wr => ∃ k : Nat, k ≤ l.length ∧ i = .int .i64 (k : Int) ∧ Below w7.heap.size w7 wr)
        (fun i _ => l.length - (intOf i).toNat)
      case atStart => exact ⟨0, Nat.zero_le _, rfl, Below.refl _ _⟩
      case round =>
        obtain ⟨i, hi2, rfl, hnx⟩ := hrel
        by_cases hil : i < l.length
        · have hic : i < c.length := by have := HCL.out; omega
          obtain ⟨zn, zv, hz, hc1, hc2⟩ := HC7.out.get hnx hic
          have HV : Hid (Lab.value l zn = zv) := by
            have := HVAL.out c[i] (List.getElem_mem hic)
            rw [hz] at this
            exact this
          have inh : Nonempty (Ext wr) := Ext.some wr
          have x1 : ∀ x : Ext wr, x.w.cell? _ = _ := fun x => x.cell hc1
          have x2 : ∀ x : Ext wr, x.w.cell? _ = _ := fun x => x.cell hc2
          have hil2 : (i : Int) < (l.length : Int) := by omega
          cases i with
          | zero =>
            clear hz hc1 hc2
            simp only [Nat.zero_mul, Nat.zero_add] at x1 x2
            go_wp2_with fail
            refine wp_region_calm (by kernel_rfl) (by kernel_rfl) ?_
            repeat (go_big_quiet_step ((go_at_call 24; exact calm_of (HVA.out _ _ _ HV.out (HL7.out.below (bl hnx (Ext.below _)))))))
            refine wpQuiet_nil ?_
            intro _ hw'
            obtain ⟨xq, rfl⟩ := hw'
            have hbx := bl hnx xq.below
            clear x1 x2 inh
            generalize xq.w = wc at *
            go_wp2
            go_roundw
            case rel => exact ⟨1, by omega, by go_num, hbx⟩
            case measure => simp [intOf]; omega
          | succ p =>
            obtain ⟨yn, yv, hy, hd1, hd2⟩ := HC7.out.get hnx (show p < c.length by omega)
            have hlt : Lab.lt yn zn = true := by
              have := (List.pairwise_iff_getElem.1 HSC.out) p (p + 1) (by omega) hic (by omega)
              rw [hz, hy] at this
              exact this
            unfold Lab.lt at hlt
            have x3 : ∀ x : Ext wr, x.w.cell? _ = _ := fun x => x.cell hd1
            clear hz hy hc1 hc2 hd1 hd2
            go_wp2_with fail
            refine wp_region_calm (by kernel_rfl) (by kernel_rfl) ?_
            repeat (go_big_quiet_step ((go_at_call 24; exact calm_of (HVA.out _ _ _ HV.out (HL7.out.below (bl hnx (Ext.below _)))))))
            refine wpQuiet_nil ?_
            intro _ hw'
            obtain ⟨xq, rfl⟩ := hw'
            have hbx := bl hnx xq.below
            clear x1 x2 x3 inh
            generalize xq.w = wc at *
            go_wp2
            go_roundw
            case rel => exact ⟨p + 1 + 1, by omega, by go_num, hbx⟩
            case measure => simp [intOf]; omega
        · have hbe := bl HB7.out hnx
          clear hnx
          go_wp2
          go_ret
          exact ⟨rfl, hbe⟩

end Go.Proofs.Ytlhajjplkblllaa
