/-
  The walk of LabelOne.
-/
import Derived.Test.YtlhajjplkblllaaLabelBackW
namespace Go.Proofs.Ytlhajjplkblllaa
open Go.RowKit
open Lab (Pr)

theorem put_eq {a b : List Pr} (ha : Lab.Right a) (hb : Lab.Right b) : ((Num.bs (Lab.putL a)).toList == (Num.bs (Lab.putL b)).toList) = decide (a = b) := by
  rw [Lab.eqB]
  by_cases h : a = b
  · subst h; simp
  · rw [decide_eq_false h]
    refine decide_eq_false fun e => h ?_
    have e2 : Lab.putL a = Lab.putL b := by
      have := congrArg (fun x : ByteArray => x.data.toList) e
      simpa [Num.bs] using this
    exact (Lab.putL_inj ha hb (x := []) (y := []) (by rw [e2])).1
theorem same_as (a : Option Addr) (ca n : Nat) (b : Option Addr) (cb m : Nat) (c d : List Pr) (w : World) (hn : n = c.length) (hm : m = d.length) (hl : c.length ≤ 9223372036854775807) (hl2 : d.length ≤ 9223372036854775807) (hp : PairsAt w a c) (hq : PairsAt w b d) :
    Calls Try.prog 22 #[.slice a n ca, .slice b m cb] w fun e w' => e = .returned (.bool (decide (c = d))) ∧ Below w.heap.size w w' := by
  subst hn; subst hm
  exact same_any a ca c b cb d w hp hq hl hl2
theorem check_ok (a : Option Addr) (cap : Nat) (l : List Pr) (w : World) (hp : PairsAt w a l) (hcap : l.length ≤ cap) (hr : Lab.Right l) :
    Calls Try.prog 20 #[.slice a l.length cap] w fun e w' => e = .returned (.int .i64 0) ∧ Below w.heap.size w w' := by
  have h8 := hr.1
  have := check_any a cap l w hp (by omega) hcap (fun p h => by have := Lab.right_small hr p h; omega)
  rwa [Lab.check_zero.2 hr] at this

set_option maxRecDepth 100000 in
set_option maxHeartbeats 3200000 in
theorem walkLabelOne (a0 : Option Addr) (len0 cap0 : Nat) (z0 : List Int) (a1 : Option Addr) (len1 cap1 : Nat) (z1 : List Int) (s : ByteArray) (w : World) (h0 : IsRow .i64 w a0 len0 cap0 z0) (h1 : IsRow .i64 w a1 len1 cap1 z1) (hsm : s.size ≤ maxLen) :
    Calls Try.prog 6 #[.slice a0 len0 cap0, .slice a1 len1 cap1, .string s] w fun e w' => e = .returned (.bool true) ∧ Below w.heap.size w w' := by
  obtain ⟨zs, rfl, _, hz, hzb⟩ := isRow_ints h0
  obtain ⟨ys, rfl, _, hy, hyb⟩ := isRow_ints h1
  have hR := labs_right zs
  have hQ := labs_right ys
  have HL := hide (fun wx (hb : Below w.heap.size w wx) => labelsOf_any a0 cap0 zs wx (hz.below hb) hzb)
  have HM := hide (fun wx (hb : Below w.heap.size w wx) => labelsOf_any a1 cap1 ys wx (hy.below hb) hyb)
  generalize labs zs = l at *
  generalize labs ys = m at *
  have h8 := hR.1
  have h9 := hQ.1
  have HR := hide hR
  have HQ := hide hQ
  clear h0 h1 hz hzb hy hyb hR hQ
  by_cases h20 : 1000 < s.size
  · unfold maxLen at hsm
    go_enter Try.func6, Try.ntmps6
    go_wp2_with fail
    refine (lshown_any _).mono ?_
    rintro e w1 ⟨rfl, hb1⟩
    go_wp2
    go_ret
    exact ⟨rfl, hb1⟩
  clear hsm
  go_enter Try.func6, Try.ntmps6
  go_wp2_with fail
  refine (lshown_any _).mono ?_
  rintro e w1 ⟨rfl, hb1⟩
  have HB1 := hide hb1
  clear hb1
  go_wp2_with fail
  refine (HL.out _ HB1.out).mono ?_
  rintro e w2 ⟨v, rfl, hown, hb2⟩
  obtain ⟨oa, ocap, rfl, hocap, hop, _⟩ := hown.view
  have HB2 := hide (bl HB1.out hb2)
  have HCG := hide (canon_good oa ocap l w2 hop hocap HR.out)
  clear hb2 hown hop HB1
  go_wp2_with fail
  refine HCG.out.mono ?_
  rintro e w3 ⟨g, rfl, hg, hrow, hb3⟩
  have HB3 := hide (bl HB2.out hb3)
  have HG3 := hide hrow
  clear hb3 hrow HB2 HCG
  go_wp2_with fail
  refine (HM.out _ HB3.out).mono ?_
  rintro e w4 ⟨v, rfl, hown, hb4⟩
  obtain ⟨pa, pcap, rfl, hpcap, hpp, _⟩ := hown.view
  have HB4 := hide (bl HB3.out hb4)
  have HG4 := hide (HG3.out.later hb4)
  have HCG := hide (canon_good pa pcap m w4 hpp hpcap HQ.out)
  clear hb4 hown hpp HB3 HG3
  go_wp2_with fail
  refine HCG.out.mono ?_
  rintro e w5 ⟨k, rfl, hk, hrow, hb5⟩
  have HB5 := hide (bl HB4.out hb5)
  have HG5 := hide (HG4.out.later hb5)
  have HK5 := hide hrow
  clear hb5 hrow HB4 HG4 HCG
  go_wp2_with fail
  refine (HL.out _ HB5.out).mono ?_
  rintro e w6 ⟨v, rfl, hown, hb6⟩
  obtain ⟨qa, qcap, rfl, hqcap, hqp, _⟩ := hown.view
  have HB6 := hide (bl HB5.out hb6)
  have HG6 := hide (HG5.out.later hb6)
  have HK6 := hide (HK5.out.later hb6)
  have HPG := hide (lput_good qa qcap l w6 hqp hqcap HR.out)
  clear hb6 hown hqp HB5 HG5 HK5
  go_wp2_with fail
  refine HPG.out.mono ?_
  rintro e w7 ⟨rfl, hb7⟩
  have HB7 := hide (bl HB6.out hb7)
  have HG7 := hide (HG6.out.later hb7)
  have HK7 := hide (HK6.out.later hb7)
  clear hb7 HB6 HG6 HK6 HPG
  go_wp2_with fail
  refine (HM.out _ HB7.out).mono ?_
  rintro e w8 ⟨v, rfl, hown, hb8⟩
  obtain ⟨ra, rcap, rfl, hrcap, hrp, _⟩ := hown.view
  have HB8 := hide (bl HB7.out hb8)
  have HG8 := hide (HG7.out.later hb8)
  have HK8 := hide (HK7.out.later hb8)
  have HPG := hide (lput_good ra rcap m w8 hrp hrcap HQ.out)
  clear hb8 hown hrp HB7 HG7 HK7
  go_wp2_with fail
  refine HPG.out.mono ?_
  rintro e w9 ⟨rfl, hb9⟩
  have HB9 := hide (bl HB8.out hb9)
  have HG9 := hide (HG8.out.later hb9)
  have HK9 := hide (HK8.out.later hb9)
  clear hb9 HB8 HG8 HK8 HPG HL HM
  have hpe := put_eq (Lab.canon_right HR.out) (Lab.canon_right HQ.out)
  have HSA := hide (same_as (some ⟨g, 0, none⟩) l.length l.length (some ⟨k, 0, none⟩) m.length m.length (Lab.canon l) (Lab.canon m) w9 (Lab.canon_length l).symm (Lab.canon_length m).symm (by rw [Lab.canon_length]; omega) (by rw [Lab.canon_length]; omega) HG9.out.pairs HK9.out.pairs)
  generalize decide (Lab.canon l = Lab.canon m) = d at *
  go_wp2_with fail
  refine HSA.out.mono ?_
  rintro e wa ⟨rfl, hba⟩
  have HBa := hide (bl HB9.out hba)
  clear hba HB9 HG9 HK9 HSA
  go_wp2_with fail
  refine (ltake_any s _ (by omega)).mono ?_
  rintro e wb ⟨h | ⟨ps, r, v, hT, rfl, hown⟩, hbb⟩
  · obtain ⟨hT, rfl⟩ := h
    have HBb := hide (bl HBa.out hbb)
    clear hbb hT
    go_wp2
    go_ret
    exact ⟨rfl, HBb.out⟩
  · obtain ⟨xa, xcap, rfl, hxcap, hxp, _⟩ := hown.view
    obtain ⟨hse, hRp, hSp⟩ := Lab.takeL_of hT
    have HBb := hide (bl HBa.out hbb)
    have HP1 := hide (lput_as xa xcap ps.length ps ps wb rfl hxp hxcap hRp (Lab.canon_of_rise hSp hRp))
    have HX := hide hxp
    have HCK := hide (fun wx hp => check_ok xa xcap ps wx hp hxcap hRp)
    have hjoin : ((Num.bs (Lab.putL ps) ++ Num.bs r).toList == s.toList) = true := by
      have : Num.bs (Lab.putL ps) ++ Num.bs r = s := by rw [bs_append, Num.bs_toList, ← hse, Num.bs_of]
      rw [this]; simp
    have l1 : (Num.bs (Lab.putL ps)).size ≤ 50000 := by rw [Num.bs_size]; exact Lab.putL_len hRp
    have l2 : (Num.bs r).size ≤ 1000 := by
      have := congrArg List.length hse
      have hsl : s.data.toList.length = s.size := rfl
      rw [List.length_append] at this
      rw [Num.bs_size]; omega
    clear hbb hT hse hRp hSp hxp hown
    go_wp2_with fail
    refine HP1.out.mono ?_
    rintro e wc ⟨rfl, hbc⟩
    have HBc := hide (bl HBb.out hbc)
    have HX2 := hide (HX.out.below hbc)
    clear hbc HP1
    go_wp2_with fail
    refine (HCK.out _ HX2.out).mono ?_
    rintro e wd ⟨rfl, hbd⟩
    have hbe := bl HBc.out hbd
    clear hbd
    go_wp2
    go_ret
    exact ⟨rfl, hbe⟩

end Go.Proofs.Ytlhajjplkblllaa
