/-
  The walk of LabelOrder.
-/
import Derived.Test.YtlhajjplkblllaaLabTurnM
import Derived.Test.YtlhajjplkblllaaLabShownW
import Derived.Test.YtlhajjplkblllaaLabKinds
namespace Go.Proofs.Ytlhajjplkblllaa
open Go.RowKit
open Lab (Pr)

theorem mat_same {a b : List Pr} (h : ∀ n, Lab.value a n = Lab.value b n) (ms : List Mt) : mat ms a = mat ms b := by
  have : holds1 a = holds1 b := by funext m; unfold holds1; rw [h]
  unfold mat; rw [this]
theorem match_as (ma : Option Addr) (mcap : Nat) (ms : List Mt) (a : Option Addr) (cap k : Nat) (ps : List Pr) (M : Bool) (hk : k = ps.length) (hM : mat ms ps = M) (hml : ms.length ≤ 9223372036854775807) (hl : ps.length ≤ 9223372036854775807) (w : World) (hm : MatsAt w ma ms) (hp : PairsAt w a ps) :
    Calls Try.prog 25 #[.slice ma ms.length mcap, .slice a k cap] w fun e w' => e = .returned (.bool M) ∧ Below w.heap.size w w' := by
  subst hk hM; exact match_any ma mcap ms a cap ps w hm hp hml hl

set_option maxRecDepth 100000 in
set_option maxHeartbeats 3200000 in
theorem walkLabelOrder (a0 : Option Addr) (len0 cap0 : Nat) (z0 : List Int) (a1 : Int) (n : ByteArray) (a3 : Option Addr) (cap3 : Nat) (ms : List Mt) (w : World) (h0 : IsRow .i64 w a0 len0 cap0 z0) (h1 : -9223372036854775808 ≤ a1 ∧ a1 ≤ 9223372036854775807) (_ : n.size ≤ maxLen)
    (hm : MatsAt w a3 ms) (hml : ms.length ≤ 9223372036854775807) (_ : ms.length ≤ cap3 ∧ (a3 = none → cap3 = 0)) (_ : ∀ p ∈ ms, p.1.size ≤ 9223372036854775807 ∧ p.2.1.size ≤ 9223372036854775807) :
    Calls Try.prog 9 #[.slice a0 len0 cap0, .int .i64 a1, .string n, .slice a3 ms.length cap3] w fun e w' => e = .returned (.bool true) ∧ Below w.heap.size w w' := by
  obtain ⟨zs, rfl, hzm, hz, hzb⟩ := isRow_ints h0
  obtain ⟨h1a, h1b⟩ := h1
  obtain ⟨i0, hi, hz0, hz1, hz2⟩ := info_parts info_pair
  have hR := labs_right zs
  have HL := hide (fun wx (hb : Below w.heap.size w wx) => labelsOf_any a0 cap0 zs wx (hz.below hb) hzb)
  generalize labs zs = l at *
  have h8 := hR.1
  have HR := hide hR
  have HM := hide hm
  clear h0 hz hzb hR hm
  by_cases h20 : 20 < ms.length
  · go_enter Try.func9, Try.ntmps9
    go_wp2_with fail
    refine (lshown_any _).mono ?_
    rintro e w1 ⟨rfl, hb1⟩
    go_wp2
    go_ret
    exact ⟨rfl, hb1⟩
  go_enter Try.func9, Try.ntmps9
  go_wp2_with fail
  refine (lshown_any _).mono ?_
  rintro e w1 ⟨rfl, hb1⟩
  go_wp2_with fail
  refine (HL.out _ hb1).mono ?_
  rintro e w2 ⟨v, rfl, hown, hb2⟩
  obtain ⟨oa, ocap, rfl, hocap, hop, _⟩ := hown.view
  have HOP := hide hop
  have hbz := bl hb1 hb2
  clear hown hop hb1 hb2 HL
  go_wp2
  go_loopw [11, 12] (fun v i wr => ∃ k : Nat, k ≤ l.length ∧ i = .int .i64 (k : Int) ∧ OwnP wr w2.heap.size v ((rot l (pk a1 l.length)).take k) ∧ Below w2.heap.size w2 wr)
    (fun _ i _ => l.length - (intOf i).toNat)
  case atStart => exact ⟨0, Nat.zero_le _, rfl, OwnP.nil _ _, Below.refl _ _⟩
  case round =>
    obtain ⟨k, hk, rfl, hro, hnx⟩ := hrel
    by_cases hlt : k < l.length
    · have hp := pk_lt a1 (show 0 < l.length by omega)
      generalize hpk : pk a1 l.length = r at *
      have HPK := hide hpk
      clear hpk
      obtain ⟨j, hj⟩ : ∃ j, j = (k + r) % l.length := ⟨_, rfl⟩
      have hmod : j < l.length := by rw [hj]; exact Nat.mod_lt _ (by omega)
      obtain ⟨b, off, zn, zv, rfl, hbl, hz, hc1, hc2⟩ := HOP.out.get hnx hmod
      have HNX := hide (rot_next hp hlt (by rw [rot_len]; exact hlt) hj hmod hz)
      have hri := rot_mod hj
      have hnz : ((l.length : Int) == 0) = false := beq_eq_false_iff_ne.2 (by omega)
      have hsz := hnx.size
      have htk := rot_take l r hk
      unfold OwnP at hro
      rw [htk] at hro
      have HTK := hide htk
      clear hz htk hj
      go_wp2_with fail
      refine (pick_any a1 l.length _ h1a h1b (by omega) (by omega)).mono ?_
      rw [HPK.out]
      rintro e w3 ⟨rfl, rfl⟩
      go_wp2_with (at_builtin; refine wpList_append_own _ rfl _ _ 22 rfl w2.heap.size 45 i0 _ 2 32 Try.underlying22 hi hz0 hz1 hz2 rfl (by decide) _ _ _ rfl (hro.alloc _) ⟨w3.heap.size, 0, none⟩ 1 1 [.string zn, .string zv] rfl rfl ?c1 ?c2 ?c3 ?c4 ?c5 ?_)
      case c1 => exact cells_two_new _ _ _ _
      case c2 => intro u hu; simp at hu; rcases hu with rfl | rfl <;> rfl
      case c3 => unfold maxLen; omega
      case c4 => omega
      case c5 => simp; omega
      intro v' w4 hown' hgrow _
      have R := own_step2 HTK.out.symm hsz (hro.alloc _) hnx hown' hgrow
      rw [← HNX.out] at R
      clear hro hown' hgrow
      go_wp2
      go_roundw
      case rel => exact ⟨k + 1, by omega, by go_num, R.1, R.2⟩
      case measure => simp [intOf]; omega
    · have hful : (rot l (pk a1 l.length)).take k = rot l (pk a1 l.length) := List.take_of_length_le (by rw [rot_len]; omega)
      rw [hful] at hro
      have hper := rot_perm l (pk a1 l.length)
      generalize rot l (pk a1 l.length) = t at *
      have hRt : Lab.Right t := Lab.perm_right hper HR.out
      have htl : l.length = t.length := hper.length_eq
      obtain ⟨ta, tcap, rfl, htcap, htp, _⟩ := hro.view
      have HL1 := hide (HOP.out.below hnx)
      have HT1 := hide htp
      have HM1 := hide (HM.out.below (bl hbz hnx))
      obtain ⟨V, hV⟩ : ∃ V, Lab.value l n = V := ⟨_, rfl⟩
      obtain ⟨M, hM⟩ : ∃ M, mat ms l = M := ⟨_, rfl⟩
      have hvt : ∀ x, Lab.value t x = Lab.value l x := fun x => (Lab.value_perm hper HR.out.2.2 x).symm
      have hvc : ∀ x, Lab.value (Lab.canon t) x = Lab.value l x := fun x => (Lab.value_perm (hper.trans (Lab.canon_perm t).symm) HR.out.2.2 x).symm
      have HVt : Hid (Lab.value t n = V) := by rw [hvt]; exact hV
      have HVc : Hid (Lab.value (Lab.canon t) n = V) := by rw [hvc]; exact hV
      have HMt : Hid (mat ms t = M) := by rw [mat_same hvt]; exact hM
      have HMc : Hid (mat ms (Lab.canon t) = M) := by rw [mat_same hvc]; exact hM
      have HVl := hide hV
      have HMl := hide hM
      have HCG := hide (canon_good ta tcap t wr htp htcap hRt)
      have HCL : Hid (t.length = (Lab.canon t).length) := (Lab.canon_length t).symm
      have HB0 := hide (bl hbz hnx)
      have ht8 : t.length ≤ 1000 := by omega
      have hl8 : l.length ≤ 9223372036854775807 := by omega
      have ht9 : t.length ≤ 9223372036854775807 := by omega
      have hc9 : (Lab.canon t).length ≤ 9223372036854775807 := by rw [Lab.canon_length]; omega
      have HC9 := hide hc9
      clear hper hRt htl htp hV hM hvt hvc hro hful hbz hnx hc9 HOP HM
      go_wp2_with fail
      refine HCG.out.mono ?_
      rintro e w5 ⟨g, rfl, hg, hrow, hb5⟩
      have HC2 := hide hrow.pairs
      have HL2 := hide (HL1.out.below hb5)
      have HT2 := hide (HT1.out.below hb5)
      have HM2 := hide (HM1.out.below hb5)
      have HB1 := hide (bl HB0.out hb5)
      clear hrow hb5 HL1 HT1 HM1 HCG HB0
      go_wp2_with fail
      refine (value_as oa ocap _ l n V rfl HVl.out hl8 _ HL2.out).mono ?_
      rintro e w6 ⟨rfl, hb6⟩
      go_wp2_with fail
      refine (value_as (some ⟨g, 0, none⟩) t.length _ (Lab.canon t) n V HCL.out HVc.out HC9.out _ (HC2.out.below hb6)).mono ?_
      rintro e w7 ⟨rfl, hb7⟩
      have HX7 := hide (bl hb6 hb7)
      clear hb6 hb7
      go_wp2_with fail
      refine (value_as ta tcap _ t n V rfl HVt.out ht9 _ (HT2.out.below HX7.out)).mono ?_
      rintro e w8 ⟨rfl, hb8⟩
      have HX8 := hide (bl HX7.out hb8)
      clear hb8
      go_wp2_with fail
      refine (value_as (some ⟨g, 0, none⟩) t.length _ (Lab.canon t) n V HCL.out HVc.out HC9.out _ (HC2.out.below HX8.out)).mono ?_
      rintro e w9 ⟨rfl, hb9⟩
      have HX9 := hide (bl HX8.out hb9)
      clear hb9
      go_wp2_with fail
      refine (match_as a3 cap3 ms oa ocap _ l M rfl HMl.out hml hl8 _ (HM2.out.below HX9.out) (HL2.out.below HX9.out)).mono ?_
      rintro e wa ⟨rfl, hba⟩
      have HXa := hide (bl HX9.out hba)
      clear hba
      go_wp2_with fail
      refine (match_as a3 cap3 ms (some ⟨g, 0, none⟩) t.length _ (Lab.canon t) M HCL.out HMc.out hml HC9.out _ (HM2.out.below HXa.out) (HC2.out.below HXa.out)).mono ?_
      rintro e wb ⟨rfl, hbb⟩
      have HXb := hide (bl HXa.out hbb)
      clear hbb
      go_wp2_with fail
      refine (match_as a3 cap3 ms ta tcap _ t M rfl HMt.out hml ht9 _ (HM2.out.below HXb.out) (HT2.out.below HXb.out)).mono ?_
      rintro e wc ⟨rfl, hbc⟩
      have HXc := hide (bl HXb.out hbc)
      clear hbc
      go_wp2_with fail
      refine (match_as a3 cap3 ms (some ⟨g, 0, none⟩) t.length _ (Lab.canon t) M HCL.out HMc.out hml HC9.out _ (HM2.out.below HXc.out) (HC2.out.below HXc.out)).mono ?_
      rintro e wd ⟨rfl, hbd⟩
      have hbe := bl HB1.out (bl HXc.out hbd)
      clear hbd
      go_wp2
      go_ret
      exact ⟨rfl, hbe⟩

end Go.Proofs.Ytlhajjplkblllaa
