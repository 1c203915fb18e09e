/-
  The walk of EntryTells.
-/
import Derived.Test.YtbjcphefaciihaaRefEntW
import Derived.Test.YtbjcphefaciihaaEntOfW
import Derived.Test.YtbjcphefaciihaaEntKinds
namespace Go.Proofs.Ytbjcphefaciihaa
open Go.RowKit
open Lab (Pr)
open Smp (Sm)

set_option maxRecDepth 100000 in
set_option maxHeartbeats 3200000 in
theorem walkEntryTells (a : Option Addr) (ca : Nat) (l : List Pr) (b : Option Addr) (cb : Nat) (t : List Sm) (s : ByteArray) (w : World) (hp : EntIn w a ca l b cb t) (hs : EntSm l t) (hsm : s.size ≤ maxLen) :
    Calls Try.prog 3 #[.agg #[.slice a l.length ca, .slice b t.length cb], .string s] w fun e w' => e = .returned (.bool true) ∧ Below w.heap.size w w' := by
  have hsm' : s.size ≤ 9223372036854775807 := hsm
  have HF := hide (fun wx (hb : Below w.heap.size w wx) => efew_any a ca l b cb t.length wx (hp.1.below hb) hs.1.1 hs.2.1)
  by_cases h2000 : 2000 < s.size
  · clear hp hs
    go_enter Try.func3, Try.ntmps3
    go_wp2_with fail
    refine (eshown_any _).mono ?_
    rintro e w1 ⟨rfl, hb1⟩
    obtain ⟨c0, c1, _, _⟩ := two_later hb1
    have hb1 := bel_al hb1
    go_wp2_with fail
    refine (HF.out _ hb1).mono ?_
    rintro e w2 ⟨⟨B, rfl, hB⟩, hb2⟩
    have hb3 := bl hb1 hb2
    clear hb1 hb2 hB
    cases B with
    | false =>
      go_wp2
      go_ret
      exact ⟨rfl, hb3⟩
    | true =>
      go_wp2
      go_ret
      exact ⟨rfl, hb3⟩
  have HPU := hide (fun wx (hb : Below w.heap.size w wx) => eput_any a ca l b cb t wx (hp.below hb) hs)
  have HRP := hide (fun wx (hb : Below w.heap.size w wx) => reput_any a ca l b cb t wx (hp.below hb) hs)
  have HCK := hide (fun wx (hb : Below w.heap.size w wx) => echeck_any a ca l b cb t wx (hp.below hb) hs)
  have HRK := hide (fun wx (hb : Below w.heap.size w wx) => recheck_any a ca l b cb t wx (hp.below hb) hs)
  have HT := hide (fun wx => etake_any s wx (by omega))
  have HRT := hide (fun wx => retake_any s wx (by omega))
  have HSE := hide (fun wx (hb : Below w.heap.size w wx) => eseries_any a ca l b cb t wx (hp.1.below hb) hp.2.1 hs.1)
  have HRS := hide (fun wx (hb : Below w.heap.size w wx) => rlput_form a ca l wx (hp.1.below hb) hs.1)
  have HTR := hide (eRes_len s.data.toList)
  clear hp hs
  generalize Ent.put l t = U at *
  generalize Ent.check l t = E at *
  generalize Ent.lput l = V at *
  generalize (Lab.check l : Int) = F at *
  go_enter Try.func3, Try.ntmps3
  go_wp2_with fail
  refine (eshown_any _).mono ?_
  rintro e w1 ⟨rfl, hb1⟩
  obtain ⟨c0, c1, _, _⟩ := two_later hb1
  have HB := hide hb1
  clear hb1
  go_wp2_with fail
  refine (HF.out _ (bel_al HB.out)).mono ?_
  rintro e w2 ⟨⟨B, rfl, hB⟩, hb2⟩
  have HB := hide (bl HB.out hb2)
  obtain ⟨d0, d1, _, _⟩ := two_later HB.out
  clear hb2 hB c0 c1
  cases B with
  | false =>
    have hb3 := bel_al HB.out
    go_wp2
    go_ret
    exact ⟨rfl, hb3⟩
  | true =>
  go_wp2_with fail
  refine (HPU.out _ (bel_al HB.out)).mono ?_
  rintro e w3 ⟨rfl, hb2⟩
  have HB := hide (bl HB.out hb2)
  obtain ⟨c0, c1, _, _⟩ := two_later HB.out
  clear hb2 d0 d1
  go_wp2_with fail
  refine (HRP.out _ (bel_al HB.out)).mono ?_
  rintro e w4 ⟨rfl, hb2⟩
  have HB := hide (bl HB.out hb2)
  obtain ⟨d0, d1, _, _⟩ := two_later HB.out
  clear hb2 c0 c1
  go_wp2_with fail
  refine (HT.out _).mono ?_
  rintro e w5 ⟨hT, hb2⟩
  obtain ⟨xa, xc, ya, yc, rfl, hx⟩ := hT
  have HX := hide hx
  have HB := hide (bl HB.out hb2)
  obtain ⟨c0, c1, _, _⟩ := two_later HB.out
  clear hb2 d0 d1 hx
  generalize hX : (eRes s.data.toList).1.1 = X at *
  generalize hY : (eRes s.data.toList).1.2 = Y at *
  generalize hG : (eRes s.data.toList).2 = G at *
  go_wp2_with fail
  refine (HRT.out _).mono ?_
  rintro e w6 ⟨hT, hb2⟩
  obtain ⟨xa', xc', ya', yc', rfl, hx⟩ := hT
  rw [hX, hY, hG] at *
  clear hX hY hG
  obtain ⟨k0, k1, f0, f1⟩ := two_later hb2
  have HX := hide (HX.out.below (bel_al hb2))
  have HX' := hide hx
  have hz6 := hb2.size
  simp only [World.size_alloc] at hz6
  have HB := hide (bl HB.out (bel_al hb2))
  obtain ⟨e0, e1, _, _⟩ := two_later HB.out
  clear hb2 hx c0 c1
  have d0 := fun o => cell_alloc e0 o
  have d1 := fun o => cell_alloc e1 o
  go_wp2_with fail
  refine (HSE.out _ (bl (bel_al HB.out) (bel_alloc _ _))).mono ?_
  rintro e w7 ⟨rfl, hb2⟩
  obtain ⟨g0, g1, f2, f3⟩ := two_later hb2
  obtain ⟨k0, k1, f0, f1⟩ := cells_keep (by omega) k0 k1 f0 f1 (bel_al hb2)
  have HX := hide (HX.out.below (bel_al hb2))
  have HX' := hide (HX'.out.below (bel_al hb2))
  have hz7 := hb2.size
  simp only [World.size_alloc] at hz7
  have HB := hide (bl HB.out (bel_al hb2))
  obtain ⟨c0, c1, _, _⟩ := two_later HB.out
  clear hb2 d0 d1 e0 e1
  go_wp2_with fail
  refine (HRS.out _ (bel_al HB.out)).mono ?_
  rintro e w8 ⟨rfl, hb2⟩
  obtain ⟨g0, g1, f2, f3⟩ := cells_keep (by omega) g0 g1 f2 f3 hb2
  obtain ⟨k0, k1, f0, f1⟩ := cells_keep (by omega) k0 k1 f0 f1 hb2
  have HX := hide (HX.out.below hb2)
  have HX' := hide (HX'.out.below hb2)
  have hz8 := hb2.size
  have HB := hide (bl HB.out hb2)
  obtain ⟨d0, d1, _, _⟩ := two_later HB.out
  clear hb2 c0 c1
  have inh : Nonempty (Ext w8) := Ext.some w8
  have x0 : ∀ x : Ext w8, x.w.cell? ⟨w.heap.size, 0, none⟩ = some (.slice a l.length ca) := fun x => x.cell d0
  have x1 : ∀ x : Ext w8, x.w.cell? ⟨w.heap.size, 1, none⟩ = some (.slice b t.length cb) := fun x => x.cell d1
  have x2 : ∀ x : Ext w8, x.w.cell? ⟨w5.heap.size, 0, none⟩ = some (.slice xa X.length xc) := fun x => x.cell k0
  have x3 : ∀ x : Ext w8, x.w.cell? ⟨w5.heap.size, 1, none⟩ = some (.slice ya Y.length yc) := fun x => x.cell k1
  have x4 : ∀ x : Ext w8, x.w.cell? ⟨w6.heap.size, 0, none⟩ = some (.slice xa' X.length xc') := fun x => x.cell g0
  have x5 : ∀ x : Ext w8, x.w.cell? ⟨w6.heap.size, 1, none⟩ = some (.slice ya' Y.length yc') := fun x => x.cell g1
  have HK1 := hide (fun x : Ext w8 => HCK.out x.w (bl (bel_al HB.out) x.below))
  have HK2 := hide (fun x : Ext w8 => HRK.out x.w (bl (bel_al HB.out) x.below))
  have HK3 := hide (fun x : Ext w8 => esame_yes xa xc X ya yc Y xa' xc' ya' yc' x.w HTR.out.1 HTR.out.2 (HX.out.below x.below) (HX'.out.below x.below))
  go_wp2_with fail
  refine wp_region_calm (by kernel_rfl) (by kernel_rfl) ?_
  repeat (go_big_quiet_step (first | (go_at_call 18; exact calm_of (HK1.out _)) | (go_at_call 19; exact calm_of (HK2.out _)) | (go_at_call 20; exact calm_of (HK3.out _))))
  refine wpQuiet_nil ?_
  intro _ hw'
  obtain ⟨xq, rfl⟩ := hw'
  have hbz := bl (bel_al HB.out) xq.below
  clear x0 x1 x2 x3 x4 x5 inh HK1 HK2 HK3
  generalize xq.w = wc at *
  go_wp2
  go_ret
  exact ⟨rfl, hbz⟩

end Go.Proofs.Ytbjcphefaciihaa
