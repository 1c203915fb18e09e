/-
  The walk of SampleTells.
-/
import Derived.Test.YtocelglgafmfnaaRefSmpPutW
import Derived.Test.YtocelglgafmfnaaRefSmpTakeW
import Derived.Test.YtocelglgafmfnaaSmpBetW
import Derived.Test.YtocelglgafmfnaaSmpOfW
import Derived.Test.YtocelglgafmfnaaSmpKinds
import Derived.Test.YtocelglgafmfnaaSmpFormW
namespace Go.Proofs.Ytocelglgafmfnaa
open Go.RowKit
open Smp (Sm)

set_option maxRecDepth 100000 in
set_option maxHeartbeats 3200000 in
theorem walkSampleTells (a0 : Option Addr) (cap0 : Nat) (l : List Sm) (s : ByteArray) (f t : Int) (w : World) (hp : SmpsAt w a0 l) (hl : l.length ≤ 9223372036854775807) (hcap : l.length ≤ cap0) (ho : ∀ x ∈ l, Smp.Ok x) (hsm : s.size ≤ maxLen) (_hf : 0 ≤ f ∧ f ≤ 18446744073709551615) (_ht : 0 ≤ t ∧ t ≤ 18446744073709551615) :
    Calls Try.prog 3 #[.slice a0 l.length cap0, .string s, .int .u64 f, .int .u64 t] w fun e w' => e = .returned (.bool true) ∧ Below w.heap.size w w' := by
  have hsm' : s.size ≤ 9223372036854775807 := hsm
  by_cases h40 : 40 < l.length
  · clear hp ho
    go_enter Try.func3, Try.ntmps3
    go_wp2_with fail
    refine (shown_any _).mono ?_
    rintro e w1 ⟨rfl, hb1⟩
    go_wp2
    go_ret
    exact ⟨rfl, hb1⟩
  by_cases h1000 : 1000 < s.size
  · clear hp ho
    go_enter Try.func3, Try.ntmps3
    go_wp2_with fail
    refine (shown_any _).mono ?_
    rintro e w1 ⟨rfl, hb1⟩
    go_wp2
    go_ret
    exact ⟨rfl, hb1⟩
  have HPU := hide (fun wx (hb : Below w.heap.size w wx) => put_form a0 cap0 l wx (hp.below hb) hcap hl ho)
  have HRP := hide (fun wx (hb : Below w.heap.size w wx) => refPut_form a0 cap0 l wx (hp.below hb) hl ho)
  have HCK := hide (fun wx (hb : Below w.heap.size w wx) => check_any a0 cap0 l wx (hp.below hb) hcap hl)
  have HRK := hide (fun wx (hb : Below w.heap.size w wx) => refCheck_any a0 cap0 l wx (hp.below hb) hl)
  have HT := hide (fun wx => takeS_any s wx hsm)
  have HRT := hide (fun wx => refTakeS_any s wx hsm)
  have HBE := hide (fun wx (hb : Below w.heap.size w wx) => between_any a0 cap0 l f t wx (hp.below hb) (by omega))
  have HRB := hide (fun wx (hb : Below w.heap.size w wx) => refBetween_any a0 cap0 l f t wx (hp.below hb) (by omega))
  have HTR := hide (takeRes_len s.data.toList)
  have HBL := hide (Nat.le_trans (bet_len l f t) hl)
  clear hp ho
  generalize putRes l = U at *
  generalize Smp.check l = E at *
  generalize Smp.between l f t = W at *
  go_enter Try.func3, Try.ntmps3
  go_wp2_with fail
  refine (shown_any _).mono ?_
  rintro e w1 ⟨rfl, hb1⟩
  have HB1 := hide hb1
  clear hb1
  go_wp2_with fail
  refine (HPU.out _ HB1.out).mono ?_
  rintro e w2 ⟨rfl, hb2⟩
  have HB2 := hide (bl HB1.out hb2)
  clear hb2 HB1
  go_wp2_with fail
  refine (HRP.out _ HB2.out).mono ?_
  rintro e w3 ⟨rfl, hb3⟩
  have HB3 := hide (bl HB2.out hb3)
  clear hb3 HB2
  go_wp2_with fail
  refine (HT.out _).mono ?_
  rintro e w7 ⟨hT7, hb7⟩
  obtain ⟨xa, xc, rfl, hxp⟩ := took_form hT7
  have HX7 := hide hxp
  have HB7 := hide (bl HB3.out hb7)
  clear hb7 HB3 hT7 hxp
  go_wp2_with fail
  refine (HRT.out _).mono ?_
  rintro e w8 ⟨hT8, hb8⟩
  obtain ⟨ya, yc, rfl, hyp⟩ := took_form hT8
  have HX8 := hide (HX7.out.below hb8)
  have HY8 := hide hyp
  have HB8 := hide (bl HB7.out hb8)
  clear hb8 HB7 HX7 hT8 hyp
  generalize (takeRes s.data.toList).1 = X at *
  generalize (takeRes s.data.toList).2.1 = R at *
  generalize (takeRes s.data.toList).2.2 = G at *
  go_wp2_with fail
  refine (HCK.out _ HB8.out).mono ?_
  rintro e wb ⟨rfl, hbb⟩
  have HBb := hide (bl HB8.out hbb)
  have HX9 := hide (HX8.out.below hbb)
  have HY9 := hide (HY8.out.below hbb)
  clear hbb HB8 HX8 HY8
  go_wp2_with fail
  refine (HRK.out _ HBb.out).mono ?_
  rintro e wc ⟨rfl, hbc⟩
  have HBc := hide (bl HBb.out hbc)
  have HXa := hide (HX9.out.below hbc)
  have HYa := hide (HY9.out.below hbc)
  clear hbc HBb HX9 HY9
  go_wp2_with fail
  refine (same_yes xa xc ya yc X _ HTR.out HXa.out HYa.out).mono ?_
  rintro e wd ⟨rfl, hbd⟩
  have HBd := hide (bl HBc.out hbd)
  clear hbd HBc HXa HYa
  go_wp2_with fail
  refine (HBE.out _ HBd.out).mono ?_
  rintro e we ⟨v1, rfl, ho1, hbe⟩
  obtain ⟨pa, pc, rfl, _, hpp, _⟩ := ho1.view
  have HPP := hide hpp
  have HBe := hide (bl HBd.out hbe)
  clear hbe HBd ho1 hpp
  go_wp2_with fail
  refine (HRB.out _ HBe.out).mono ?_
  rintro e wf ⟨v2, rfl, ho2, hbf⟩
  obtain ⟨qa, qc, rfl, _, hqq, _⟩ := ho2.view
  have HPQ := hide (HPP.out.below hbf)
  have HQQ := hide hqq
  have HBf := hide (bl HBe.out hbf)
  clear hbf HBe ho2 hqq HPP
  go_wp2_with fail
  refine (same_yes pa pc qa qc W _ HBL.out HPQ.out HQQ.out).mono ?_
  rintro e wg ⟨rfl, hbg⟩
  have hbz := bl HBf.out hbg
  clear hbg
  go_wp2
  go_ret
  exact ⟨rfl, hbz⟩

end Go.Proofs.Ytocelglgafmfnaa
