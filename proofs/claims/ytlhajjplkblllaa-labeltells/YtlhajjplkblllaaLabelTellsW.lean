/-
  The walk of LabelTells.
-/
import Derived.Test.YtlhajjplkblllaaRefLabTakeW
import Derived.Test.YtlhajjplkblllaaLabShownW
import Derived.Test.YtlhajjplkblllaaLabelBackW
import Derived.Test.YtlhajjplkblllaaLabKinds
namespace Go.Proofs.Ytlhajjplkblllaa
open Go.RowKit
open Lab (Pr)

/-- What Canon, Put, Take tell, good or bad, in one form. -/
def canRes (l : List Pr) : List Pr := if Lab.check l = 0 then Lab.canon l else []
def putRes (l : List Pr) : ByteArray := if Lab.check l = 0 then Num.bs (Lab.putL (Lab.canon l)) else ⟨#[]⟩
def takeRes (l : List UInt8) : List Pr × List UInt8 × Int := match Lab.takeL l with | none => ([], [], 2) | some (ps, r) => (ps, r, 0)

theorem canon_all (a : Option Addr) (cap : Nat) (l : List Pr) (w : World) (hp : PairsAt w a l) (hcap : l.length ≤ cap) (hs : Small l) :
    Calls Try.prog 12 #[.slice a l.length cap] w fun e w' => ∃ b cb, e = .returned (.tuple #[.slice b (canRes l).length cb, .int .i64 (Lab.check l : Int)]) ∧ PairsAt w' b (canRes l) ∧ Below w.heap.size w w' := by
  by_cases h : Lab.check l = 0
  · refine (canon_good a cap l w hp hcap (Lab.check_zero.1 h)).mono fun e w' ⟨g, he, _, hrow, hb⟩ => ⟨some ⟨g, 0, none⟩, l.length, ?_, ?_, hb⟩
    · rw [he, canRes, if_pos h, Lab.canon_length, h]; rfl
    · rw [canRes, if_pos h]; exact hrow.pairs
  · refine (canon_bad a cap l w hp hcap hs h).mono fun e w' ⟨he, hb⟩ => ⟨none, 0, ?_, ?_, hb⟩
    · rw [he, canRes, if_neg h]; rfl
    · rw [canRes, if_neg h]; exact PairsAt.nil _ _
theorem rcanon_all (a : Option Addr) (cap : Nat) (l : List Pr) (w : World) (hp : PairsAt w a l) (hs : Small l) :
    Calls Try.prog 13 #[.slice a l.length cap] w fun e w' => ∃ b cb, e = .returned (.tuple #[.slice b (canRes l).length cb, .int .i64 (Lab.check l : Int)]) ∧ PairsAt w' b (canRes l) ∧ Below w.heap.size w w' := by
  by_cases h : Lab.check l = 0
  · refine (refCanon_good a cap l w hp (Lab.check_zero.1 h)).mono fun e w' ⟨v, he, hown, hb⟩ => ?_
    obtain ⟨b, cb, rfl, _, hpp, _⟩ := hown.view
    refine ⟨b, cb, ?_, ?_, hb⟩
    · rw [he, canRes, if_pos h, h]; rfl
    · rw [canRes, if_pos h]; exact hpp
  · refine (refCanon_bad a cap l w hp hs.1 hs.2 h).mono fun e w' ⟨he, hb⟩ => ⟨none, 0, ?_, ?_, hb⟩
    · rw [he, canRes, if_neg h]; rfl
    · rw [canRes, if_neg h]; exact PairsAt.nil _ _
theorem put_all (a : Option Addr) (cap : Nat) (l : List Pr) (w : World) (hp : PairsAt w a l) (hcap : l.length ≤ cap) (hs : Small l) :
    Calls Try.prog 14 #[.slice a l.length cap] w fun e w' => e = .returned (.tuple #[.string (putRes l), .int .i64 (Lab.check l : Int)]) ∧ Below w.heap.size w w' := by
  by_cases h : Lab.check l = 0
  · have := lput_good a cap l w hp hcap (Lab.check_zero.1 h)
    unfold putRes; rw [if_pos h, h]; exact this
  · have := lput_bad a cap l w hp hcap hs h
    unfold putRes; rw [if_neg h]; exact this
theorem rput_all (a : Option Addr) (cap : Nat) (l : List Pr) (w : World) (hp : PairsAt w a l) (hs : Small l) :
    Calls Try.prog 15 #[.slice a l.length cap] w fun e w' => e = .returned (.tuple #[.string (putRes l), .int .i64 (Lab.check l : Int)]) ∧ Below w.heap.size w w' := by
  by_cases h : Lab.check l = 0
  · have := rlput_good a cap l w hp (Lab.check_zero.1 h)
    unfold putRes; rw [if_pos h, h]; exact this
  · have := rlput_bad a cap l w hp hs h
    unfold putRes; rw [if_neg h]; exact this
theorem take_form {s : ByteArray} {w w' : World} {e : Ending} (h : ((Lab.takeL s.data.toList = none ∧ e = .returned (.tuple #[.slice none 0 0, .string ⟨#[]⟩, .int .i64 2])) ∨ ∃ ps r v, Lab.takeL s.data.toList = some (ps, r) ∧ e = .returned (.tuple #[v, .string (Num.bs r), .int .i64 0]) ∧ OwnP w' w.heap.size v ps)) :
    ∃ b cb, e = .returned (.tuple #[.slice b (takeRes s.data.toList).1.length cb, .string (Num.bs (takeRes s.data.toList).2.1), .int .i64 (takeRes s.data.toList).2.2]) ∧ PairsAt w' b (takeRes s.data.toList).1 := by
  rcases h with ⟨hT, he⟩ | ⟨ps, r, v, hT, he, ho⟩
  · refine ⟨none, 0, ?_, ?_⟩
    · rw [he]; unfold takeRes; rw [hT]; rfl
    · unfold takeRes; rw [hT]; exact PairsAt.nil _ _
  · obtain ⟨b, cb, rfl, _, hpp, _⟩ := ho.view
    refine ⟨b, cb, ?_, ?_⟩
    · rw [he]; unfold takeRes; rw [hT]
    · unfold takeRes; rw [hT]; exact hpp

set_option maxRecDepth 100000 in
set_option maxHeartbeats 3200000 in
theorem walkLabelTells (a0 : Option Addr) (cap0 : Nat) (l : List Pr) (s : ByteArray) (w : World) (hp : PairsAt w a0 l) (hl : l.length ≤ 9223372036854775807) (hcap : l.length ≤ cap0) (hsz : ∀ p ∈ l, p.1.size ≤ 9223372036854775807 ∧ p.2.size ≤ 9223372036854775807) (hsm : s.size ≤ maxLen) :
    Calls Try.prog 3 #[.slice a0 l.length cap0, .string s] w fun e w' => e = .returned (.bool true) ∧ Below w.heap.size w w' := by
  have hS : Small l := ⟨hl, hsz⟩
  have HF := hide (fun wx (hb : Below w.heap.size w wx) => few_any a0 cap0 l wx (hp.below hb) hl)
  have HC := hide (fun wx (hb : Below w.heap.size w wx) => canon_all a0 cap0 l wx (hp.below hb) hcap hS)
  have HRC := hide (fun wx (hb : Below w.heap.size w wx) => rcanon_all a0 cap0 l wx (hp.below hb) hS)
  have HPU := hide (fun wx (hb : Below w.heap.size w wx) => put_all a0 cap0 l wx (hp.below hb) hcap hS)
  have HRP := hide (fun wx (hb : Below w.heap.size w wx) => rput_all a0 cap0 l wx (hp.below hb) hS)
  have HCK := hide (fun wx (hb : Below w.heap.size w wx) => check_any a0 cap0 l wx (hp.below hb) hl hcap hsz)
  have HRK := hide (fun wx (hb : Below w.heap.size w wx) => refCheck_any a0 cap0 l wx (hp.below hb) hl hsz)
  have HNM := hide (fun wx => name_any s wx hsm)
  have HRN := hide (fun wx => refName_any s wx hsm)
  clear hp
  by_cases h1000 : 1000 < s.size
  · unfold maxLen at hsm
    go_enter Try.func3, Try.ntmps3
    go_wp2_with fail
    refine (lshown_any _).mono ?_
    rintro e w1 ⟨rfl, hb1⟩
    go_wp2_with fail
    refine (HF.out _ hb1).mono ?_
    rintro e w2 ⟨b, rfl, _, hb2⟩
    have hbz := bl hb1 hb2
    clear hb1 hb2
    cases b
    · go_wp2
      go_ret
      exact ⟨rfl, hbz⟩
    · go_wp2
      go_ret
      exact ⟨rfl, hbz⟩
  · have HT := hide (fun wx => ltake_any s wx (by omega))
    have HRT := hide (fun wx => rltake_any s wx (by omega))
    go_enter Try.func3, Try.ntmps3
    go_wp2_with fail
    refine (lshown_any _).mono ?_
    rintro e w1 ⟨rfl, hb1⟩
    go_wp2_with fail
    refine (HF.out _ hb1).mono ?_
    rintro e w2 ⟨b, rfl, hfew, hb2⟩
    have HB2 := hide (bl hb1 hb2)
    clear hb1 hb2
    cases b
    · go_wp2
      go_ret
      exact ⟨rfl, HB2.out⟩
    · have hl20 := hfew rfl
      have HCR : Hid ((canRes l).length ≤ 9223372036854775807) := by
        unfold canRes Hid
        split
        · rw [Lab.canon_length]; omega
        · simp
      have HTR : Hid ((takeRes s.data.toList).1.length ≤ 9223372036854775807) := by
        unfold takeRes Hid
        split
        · simp
        · rename_i ps r hT
          have := (Lab.takeL_of hT).2.1.1
          simp only; omega
      generalize canRes l = C at *
      generalize putRes l = U at *
      generalize hck : (Lab.check l : Int) = E at *
      have HCKE := hide hck
      clear hck hfew
      go_wp2_with fail
      refine (HC.out _ HB2.out).mono ?_
      rintro e w3 ⟨ca, cc, rfl, hcp, hb3⟩
      have HC3 := hide hcp
      have HB3 := hide (bl HB2.out hb3)
      clear hcp hb3 HB2
      go_wp2_with fail
      refine (HRC.out _ HB3.out).mono ?_
      rintro e w4 ⟨da, dc, rfl, hdp, hb4⟩
      have HC4 := hide (HC3.out.below hb4)
      have HD4 := hide hdp
      have HB4 := hide (bl HB3.out hb4)
      clear hdp hb4 HB3 HC3
      go_wp2_with fail
      refine (HPU.out _ HB4.out).mono ?_
      rintro e w5 ⟨rfl, hb5⟩
      have HC5 := hide (HC4.out.below hb5)
      have HD5 := hide (HD4.out.below hb5)
      have HB5 := hide (bl HB4.out hb5)
      clear hb5 HB4 HC4 HD4
      go_wp2_with fail
      refine (HRP.out _ HB5.out).mono ?_
      rintro e w6 ⟨rfl, hb6⟩
      have HC6 := hide (HC5.out.below hb6)
      have HD6 := hide (HD5.out.below hb6)
      have HB6 := hide (bl HB5.out hb6)
      clear hb6 HB5 HC5 HD5
      go_wp2_with fail
      refine (HT.out _).mono ?_
      rintro e w7 ⟨hT7, hb7⟩
      obtain ⟨xa, xc, rfl, hxp⟩ := take_form hT7
      have HX7 := hide hxp
      have HC7 := hide (HC6.out.below hb7)
      have HD7 := hide (HD6.out.below hb7)
      have HB7 := hide (bl HB6.out hb7)
      clear hb7 HB6 HC6 HD6 hT7 hxp
      go_wp2_with fail
      refine (HRT.out _).mono ?_
      rintro e w8 ⟨hT8, hb8⟩
      obtain ⟨ya, yc, rfl, hyp⟩ := take_form hT8
      have HX8 := hide (HX7.out.below hb8)
      have HY8 := hide hyp
      have HC8 := hide (HC7.out.below hb8)
      have HD8 := hide (HD7.out.below hb8)
      have HB8 := hide (bl HB7.out hb8)
      clear hb8 HB7 HC7 HD7 HX7 hT8 hyp
      generalize (takeRes s.data.toList).1 = X at *
      generalize (takeRes s.data.toList).2.1 = R at *
      generalize (takeRes s.data.toList).2.2 = G at *
      go_wp2_with fail
      refine (HNM.out _).mono ?_
      rintro e w9 ⟨rfl, rfl⟩
      go_wp2_with fail
      refine (HRN.out _).mono ?_
      rintro e wa ⟨rfl, rfl⟩
      go_wp2_with fail
      refine (HCK.out _ HB8.out).mono ?_
      rintro e wb ⟨rfl, hbb⟩
      have HBb := hide (bl HB8.out hbb)
      have HX9 := hide (HX8.out.below hbb)
      have HY9 := hide (HY8.out.below hbb)
      have HC9 := hide (HC8.out.below hbb)
      have HD9 := hide (HD8.out.below hbb)
      clear hbb HB8 HX8 HY8 HC8 HD8
      go_wp2_with fail
      refine (HRK.out _ HBb.out).mono ?_
      rintro e wc ⟨rfl, hbc⟩
      have HBc := hide (bl HBb.out hbc)
      have HXa := hide (HX9.out.below hbc)
      have HYa := hide (HY9.out.below hbc)
      have HCa := hide (HC9.out.below hbc)
      have HDa := hide (HD9.out.below hbc)
      clear hbc HBb HX9 HY9 HC9 HD9
      go_wp2_with fail
      refine (same_yes ca cc _ da dc _ C _ rfl rfl HCR.out HCa.out HDa.out).mono ?_
      rintro e wd ⟨rfl, hbd⟩
      have HBd := hide (bl HBc.out hbd)
      have HXb := hide (HXa.out.below hbd)
      have HYb := hide (HYa.out.below hbd)
      clear hbd HBc HXa HYa HCa HDa
      go_wp2_with fail
      refine (same_yes xa xc _ ya yc _ X _ rfl rfl HTR.out HXb.out HYb.out).mono ?_
      rintro e we ⟨rfl, hbe⟩
      have hbz := bl HBd.out hbe
      clear hbe
      go_wp2
      go_ret
      exact ⟨rfl, hbz⟩

end Go.Proofs.Ytlhajjplkblllaa
