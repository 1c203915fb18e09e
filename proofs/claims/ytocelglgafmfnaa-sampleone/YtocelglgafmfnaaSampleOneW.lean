/-
  The walk of SampleOne.
-/
import Derived.Test.YtocelglgafmfnaaSmpOfW
import Derived.Test.YtocelglgafmfnaaSmpFormW
namespace Go.Proofs.Ytocelglgafmfnaa
open Go.RowKit
open Smp (Sm)

theorem putRes_ok' {l : List Sm} (h : Smp.check l = 0) : putRes l = Num.bs (Smp.putS l) := by unfold putRes; rw [if_pos h]
theorem puts_eq {x y : List Sm} (hx : Smp.check x = 0) (hy : Smp.check y = 0) (ox : ∀ a ∈ x, Smp.Ok a) (oy : ∀ a ∈ y, Smp.Ok a) : ((Num.bs (Smp.putS x)).toList == (Num.bs (Smp.putS y)).toList) = decide (x = y) := by
  by_cases h : x = y
  · subst h; simp
  · rw [decide_eq_false h]
    refine beq_eq_false_iff_ne.2 fun e => h (Smp.putS_inj hx hy ox oy ?_)
    have e' : Num.bs (Smp.putS x) = Num.bs (Smp.putS y) := by
      have h1 : ∀ b : ByteArray, b.toList = b.data.toList := fun b => by simp [ByteArray.toList_eq]
      rw [h1, h1] at e
      rw [← Num.bs_of (Num.bs (Smp.putS x)), e, Num.bs_of]
    have := congrArg (fun b : ByteArray => b.data.toList) e'
    simpa [Num.bs_toList] using this

set_option maxRecDepth 100000 in
set_option maxHeartbeats 3200000 in
theorem walkSampleOne (s : ByteArray) (t u : Int) (a1 : Option Addr) (len1 cap1 : Nat) (z1 : List Int) (a2 : Option Addr) (len2 cap2 : Nat) (z2 : List Int) (w : World) (hsm : s.size ≤ maxLen) (ht : 0 ≤ t ∧ t ≤ 18446744073709551615) (hu : 0 ≤ u ∧ u ≤ 18446744073709551615) (hr1 : IsRow .i64 w a1 len1 cap1 z1) (hr2 : IsRow .i64 w a2 len2 cap2 z2) :
    Calls Try.prog 6 #[.string s, .int .u64 t, .int .u64 u, .slice a1 len1 cap1, .slice a2 len2 cap2] w fun e w' => e = .returned (.bool true) ∧ Below w.heap.size w w' := by
  obtain ⟨zs, rfl, hzl, hzp, hzw⟩ := isRow_nums hr1
  obtain ⟨vs, rfl, hvl, hvp, hvw⟩ := isRow_nums hr2
  clear hr1 hr2
  have hzb : ∀ z ∈ zs, -9223372036854775808 ≤ z ∧ z ≤ 9223372036854775807 := fun z h => bounds_i64 (hzw z h)
  have hvb : ∀ z ∈ vs, -9223372036854775808 ≤ z ∧ z ≤ 9223372036854775807 := fun z h => bounds_i64 (hvw z h)
  clear hzw hvw
  have hsm' : s.size ≤ 9223372036854775807 := hsm
  by_cases h1000 : 1000 < s.size
  · clear hzp hvp hzb hvb
    go_enter Try.func6, Try.ntmps6
    go_wp2_with fail
    refine (shown_any _).mono ?_
    rintro e w1 ⟨rfl, hb1⟩
    go_wp2
    go_ret
    exact ⟨rfl, hb1⟩
  have HSX := hide (fun wx (hb : Below w.heap.size w wx) => samplesOf_any t a1 cap1 zs wx (by omega) (hzp.below hb) hzl hzb)
  have HSY := hide (fun wx (hb : Below w.heap.size w wx) => samplesOf_any u a2 cap2 vs wx (by omega) (hvp.below hb) hvl hvb)
  have HXO := hide (smps_ok t hzb)
  have HYO := hide (smps_ok u hvb)
  have HXC := hide (smps_check t zs)
  have HYC := hide (smps_check u vs)
  obtain ⟨hx1, hx2⟩ := smps_len t zs
  obtain ⟨hy1, hy2⟩ := smps_len u vs
  clear hzp hvp hzb hvb
  generalize smps t zs = x at *
  generalize smps u vs = y at *
  go_enter Try.func6, Try.ntmps6
  go_wp2_with fail
  refine (shown_any _).mono ?_
  rintro e w1 ⟨rfl, hb1⟩
  have HB1 := hide hb1
  clear hb1
  go_wp2_with fail
  refine (HSX.out _ HB1.out).mono ?_
  rintro e w2 ⟨v, rfl, hown, hb2⟩
  obtain ⟨xa, xcap, rfl, hxcap, hxp, _⟩ := hown.view
  have HB2 := hide (bl HB1.out hb2)
  have HX2 := hide hxp
  clear hb2 hown hxp HB1
  go_wp2_with fail
  refine (HSY.out _ HB2.out).mono ?_
  rintro e w3 ⟨v, rfl, hown, hb3⟩
  obtain ⟨ya, ycap, rfl, hycap, hyp, _⟩ := hown.view
  have HB3 := hide (bl HB2.out hb3)
  have HX3 := hide (HX2.out.below hb3)
  have HY3 := hide hyp
  clear hb3 hown hyp HB2 HX2
  have HPX := hide (fun wx (hb : Below w3.heap.size w3 wx) => put_form xa xcap x wx (HX3.out.below hb) hxcap (by omega) HXO.out)
  have HPY := hide (fun wx (hb : Below w3.heap.size w3 wx) => put_form ya ycap y wx (HY3.out.below hb) hycap (by omega) HYO.out)
  rw [HXC.out, putRes_ok' HXC.out] at HPX
  rw [HYC.out, putRes_ok' HYC.out] at HPY
  go_wp2_with fail
  refine (HPX.out _ (Below.refl _ _)).mono ?_
  rintro e w4 ⟨rfl, hb4⟩
  have HB4 := hide hb4
  clear hb4
  go_wp2_with fail
  refine (HPY.out _ HB4.out).mono ?_
  rintro e w5 ⟨rfl, hb5⟩
  have HB5 := hide (bl HB4.out hb5)
  clear hb5 HB4
  have hpe := puts_eq HXC.out HYC.out HXO.out HYO.out
  have HSA := hide (same_any xa xcap x ya ycap y w5 (HX3.out.below HB5.out) (HY3.out.below HB5.out) (by omega) (by omega))
  generalize decide (x = y) = d at *
  go_wp2_with fail
  refine HSA.out.mono ?_
  rintro e w6 ⟨rfl, hb6⟩
  have HB6 := hide (bl HB3.out (bl HB5.out hb6))
  clear hb6 HB5 HB3 HSA
  go_wp2_with fail
  refine (takeS_any s _ hsm).mono ?_
  rintro e w7 ⟨h | ⟨ps, r, v, hT, rfl, hown⟩, hb7⟩
  · obtain ⟨hT, rfl⟩ := h
    have HB7 := hide (bl HB6.out hb7)
    clear hb7 hT
    go_wp2
    go_ret
    exact ⟨rfl, HB7.out⟩
  · obtain ⟨la, lcap, rfl, hlcap, hlp, _⟩ := hown.view
    obtain ⟨hse, hck, hok⟩ := Smp.of_takeS hT
    have HB7 := hide (bl HB6.out hb7)
    have hpl := (Smp.of_check hck).2.1
    have HP1 := put_form la lcap ps w7 hlp hlcap (by omega) hok
    rw [hck, putRes_ok' hck] at HP1
    have HP2 := hide HP1
    have hjoin : ((Num.bs (Smp.putS ps) ++ Num.bs r).toList == s.toList) = true := by
      have : Num.bs (Smp.putS ps) ++ Num.bs r = s := by rw [bs_append, Num.bs_toList, ← hse, Num.bs_of]
      rw [this]; simp
    have l1 : (Num.bs (Smp.putS ps)).size ≤ 500 := by rw [Num.bs_size]; exact Smp.putS_len hck hok
    have l2 : (Num.bs r).size ≤ 1000 := by
      have := congrArg List.length hse
      have hsl : s.data.toList.length = s.size := rfl
      rw [List.length_append] at this
      rw [Num.bs_size]; omega
    clear hb7 hT hse hck hok hlp hown HP1
    go_wp2_with fail
    refine HP2.out.mono ?_
    rintro e w8 ⟨rfl, hb8⟩
    have hb9 := bl HB7.out hb8
    clear hb8
    go_wp2
    go_ret
    exact ⟨rfl, hb9⟩

end Go.Proofs.Ytocelglgafmfnaa
