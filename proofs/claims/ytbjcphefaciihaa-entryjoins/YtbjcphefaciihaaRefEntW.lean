/-
  The document's own entries: Check, Put, Take, Canon, Same.
-/
import Derived.Test.YtbjcphefaciihaaEntTakeW
import Derived.Test.YtbjcphefaciihaaRefLabPutW
import Derived.Test.YtbjcphefaciihaaRefLabTakeW
import Derived.Test.YtbjcphefaciihaaRefSmpTakeW
namespace Go.Proofs.Ytbjcphefaciihaa
open Go.RowKit
open Lab (Pr)
open Smp (Sm)

theorem rlput_form (a : Option Addr) (cap : Nat) (l : List Pr) (w : World) (hp : PairsAt w a l) (hs : Small l) :
    Calls Try.prog 17 #[.slice a l.length cap] w fun e w' => e = .returned (.tuple #[.string (Ent.lput l), .int .i64 (Lab.check l : Int)]) ∧ Below w.heap.size w w' := by
  by_cases h : Lab.check l = 0
  · have := rlput_good a cap l w hp (Lab.check_zero.1 h)
    rw [Ent.lput_ok (Lab.check_zero.1 h), h]; exact this
  · have := rlput_bad a cap l w hp hs h
    unfold Ent.lput; rw [if_neg h]; exact this

set_option maxRecDepth 100000 in
set_option maxHeartbeats 800000 in
theorem recheck_any (a : Option Addr) (ca : Nat) (l : List Pr) (b : Option Addr) (cb : Nat) (s : List Sm) (w : World) (hp : EntIn w a ca l b cb s) (hs : EntSm l s) :
    Calls Try.prog 19 #[.agg #[.slice a l.length ca, .slice b s.length cb]] w fun e w' => e = .returned (.int .i64 (Ent.check l s)) ∧ Below w.heap.size w w' := by
  have HC := hide (fun wx (hb : Below w.heap.size w wx) => refCheck_any a ca l wx (hp.1.below hb) hs.1.1 hs.1.2)
  have HS := hide (fun wx (hb : Below w.heap.size w wx) => srefCheck_any b cb s wx (hp.2.2.1.below hb) hs.2.1)
  clear hp hs
  by_cases h : Lab.check l = 0
  · rw [Ent.check_smp h]
    rw [h] at HC
    go_enter Try.func19, Try.ntmps19
    go_wp2_with fail
    refine (HC.out _ (bel_alloc w _)).mono ?_
    rintro e w1 ⟨rfl, hb1⟩
    obtain ⟨c0, c1, _, _⟩ := two_later hb1
    have hb2 := bel_al hb1
    clear hb1
    go_wp2_with fail
    refine (HS.out _ hb2).mono ?_
    rintro e w2 ⟨rfl, hb3⟩
    have hb4 := bl hb2 hb3
    go_wp2
    go_ret
    exact ⟨rfl, hb4⟩
  · rw [Ent.check_lab h]
    have hn : ((Lab.check l : Int) != 0) = true := bne_iff_ne.2 (by omega)
    go_enter Try.func19, Try.ntmps19
    go_wp2_with fail
    refine (HC.out _ (bel_alloc w _)).mono ?_
    rintro e w1 ⟨rfl, hb1⟩
    have hb2 := bel_al hb1
    clear hb1
    go_wp2
    go_ret
    exact ⟨rfl, hb2⟩

set_option maxRecDepth 100000 in
set_option maxHeartbeats 800000 in
theorem reput_any (a : Option Addr) (ca : Nat) (l : List Pr) (b : Option Addr) (cb : Nat) (s : List Sm) (w : World) (hp : EntIn w a ca l b cb s) (hs : EntSm l s) :
    Calls Try.prog 13 #[.agg #[.slice a l.length ca, .slice b s.length cb]] w fun e w' => e = .returned (.tuple #[.string (Ent.put l s), .int .i64 (Ent.check l s)]) ∧ Below w.heap.size w w' := by
  have HK := hide (fun wx (hb : Below w.heap.size w wx) => recheck_any a ca l b cb s wx (hp.below hb) hs)
  have HC := hide (fun wx (hb : Below w.heap.size w wx) => rlput_form a ca l wx (hp.1.below hb) hs.1)
  have HS := hide (fun wx (hb : Below w.heap.size w wx) => refPut_form b cb s wx (hp.2.2.1.below hb) hs.2.1 hs.2.2)
  have hz1 := lput_size l
  have hz2 := sput_size hs.2.2
  clear hp hs
  by_cases h : Ent.check l s = 0
  · have h1 := Ent.check_zero.1 h
    rw [← put_join (Lab.check_zero.2 h1.1) h1.2, h]
    rw [h] at HK
    clear h h1
    generalize Ent.lput l = L at *
    generalize putRes s = R at *
    go_enter Try.func13, Try.ntmps13
    go_wp2_with fail
    refine (HK.out _ (bel_alloc w _)).mono ?_
    rintro e w1 ⟨rfl, hb1⟩
    obtain ⟨c0, c1, f0, f1⟩ := two_later hb1
    have hz := hb1.size
    simp only [World.size_alloc] at hz
    have hb2 := bel_al hb1
    clear hb1
    go_wp2_with fail
    refine (HC.out _ hb2).mono ?_
    rintro e w2 ⟨rfl, hb3⟩
    obtain ⟨d0, d1, _, _⟩ := cells_keep (by omega) c0 c1 f0 f1 hb3
    have hb4 := bl hb2 hb3
    clear hb3
    go_wp2_with fail
    refine (HS.out _ hb4).mono ?_
    rintro e w3 ⟨rfl, hb5⟩
    have hb6 := bl hb4 hb5
    go_wp2
    go_ret2
    exact ⟨rfl, hb6⟩
  · rw [show Ent.put l s = ⟨#[]⟩ from if_neg h]
    have hn : (Ent.check l s != 0) = true := bne_iff_ne.2 h
    go_enter Try.func13, Try.ntmps13
    go_wp2_with fail
    refine (HK.out _ (bel_alloc w _)).mono ?_
    rintro e w1 ⟨rfl, hb1⟩
    have hb2 := bel_al hb1
    clear hb1
    go_wp2
    go_ret2
    exact ⟨rfl, hb2⟩

set_option maxRecDepth 100000 in
set_option maxHeartbeats 1600000 in
theorem retake_any (s : ByteArray) (w : World) (hs : s.size ≤ 100000) :
    Calls Try.prog 15 #[.string s] w fun e w' => TookE s.data.toList e w' ∧ Below w.heap.size w w' := by
  have HT := hide (fun wx => rltake_any s wx hs)
  go_enter Try.func15, Try.ntmps15
  go_wp2_with fail
  refine (HT.out _).mono ?_
  rintro e w1 ⟨hT, hb1⟩
  obtain ⟨p1, p2, p3, p4⟩ := two_later hb1
  have hz := hb1.size
  simp only [World.size_alloc] at hz
  have hb2 := bel_al hb1
  rcases hT with ⟨hT, rfl⟩ | ⟨l, q, v, hT, rfl, ho⟩
  · clear hb1
    go_wp2
    have r1 := (set_two p1 p2 (.slice none 0 0) (.slice none 0 0)).1
    have r2 := (set_two p1 p2 (.slice none 0 0) (.slice none 0 0)).2
    refine bodyPost_ret (v := nilV) (by simp [results, Try.results15, go_sem, r1, r2, nilV]) rfl ?_
    exact ⟨tookE_no (by unfold Ent.take; rw [hT]), (hb2.setCell (Nat.le_refl _) _).setCell (Nat.le_refl _) _⟩
  · have hql : (Num.bs q).size ≤ maxLen := by
      have := congrArg List.length (Lab.takeL_of hT).1
      rw [List.length_append] at this
      have e1 : s.data.toList.length = s.size := rfl
      rw [Num.bs_size]; unfold maxLen; omega
    obtain ⟨a, ca, rfl, hca, _, _⟩ := ho.view
    have HV := hide (take_via hT)
    simp only [World.size_alloc] at ho
    have HO := hide ho
    have HS := hide (fun wx => refTakeS_any (Num.bs q) wx hql)
    clear hb1 ho hT
    go_wp2_with fail
    refine (HS.out _).mono ?_
    rintro e w2 ⟨hT, hb3⟩
    obtain ⟨s1, s2, s3, s4⟩ := cells_keep (by omega) p1 p2 p3 p4 hb3
    have hb4 := bl hb2 hb3
    rw [Num.bs_toList] at hT
    rcases hT with ⟨hT, rfl⟩ | ⟨t, r, u, hT, rfl, ht⟩
    · have HE : Hid (Ent.take s.data.toList = none) := hide (by rw [HV.out]; unfold sEnd; rw [hT]; rfl)
      clear hb3 HO HS HV
      go_wp2
      have r1 := (set_two s1 s2 (.slice none 0 0) (.slice none 0 0)).1
      have r2 := (set_two s1 s2 (.slice none 0 0) (.slice none 0 0)).2
      refine bodyPost_ret (v := nilV) (by simp [results, Try.results15, go_sem, r1, r2, nilV]) rfl ?_
      exact ⟨tookE_no HE.out, (hb4.setCell (Nat.le_refl _) _).setCell (Nat.le_refl _) _⟩
    · obtain ⟨b, cb, rfl, hcb, _, _⟩ := ht.view
      by_cases hr : r = []
      · have HE : Hid (Ent.take s.data.toList = some (l, t)) := hide (by rw [HV.out]; unfold sEnd; rw [hT]; simp [hr])
        subst hr
        have hne : (Num.bs []).toList.isEmpty = true := by rw [ByteArray.toList_eq]; rfl
        have HO2 := hide (HO.out.below hb3)
        have HS2 := hide ht
        clear hb3 HO HS HV ht hT
        go_wp2
        have r1 := (set_two s1 s2 (.slice a l.length ca) (.slice b t.length cb)).1
        have r2 := (set_two s1 s2 (.slice a l.length ca) (.slice b t.length cb)).2
        refine bodyPost_ret (v := .tuple #[.agg #[.slice a l.length ca, .slice b t.length cb], .int .i64 0]) (by simp [results, Try.results15, go_sem, r1, r2]) rfl ?_
        refine ⟨tookE_yes HE.out ?_, (hb4.setCell (Nat.le_refl _) _).setCell (Nat.le_refl _) _⟩
        obtain ⟨a', ca', e1, _, hpa, _⟩ := ((HO2.out.setBelow (p := ⟨w.heap.size, 0, none⟩) (Nat.lt_succ_self _) (.slice a l.length ca)).setBelow (p := ⟨w.heap.size, 1, none⟩) (Nat.lt_succ_self _) (.slice b t.length cb)).view
        obtain ⟨b', cb', e2, _, hpb, _⟩ := ((HS2.out.setBelow (p := ⟨w.heap.size, 0, none⟩) (by show w.heap.size < w1.heap.size; omega) (.slice a l.length ca)).setBelow (p := ⟨w.heap.size, 1, none⟩) (by show w.heap.size < w1.heap.size; omega) (.slice b t.length cb)).view
        simp only [Value.slice.injEq] at e1 e2
        obtain ⟨rfl, _, rfl⟩ := e1
        obtain ⟨rfl, _, rfl⟩ := e2
        exact ⟨hpa, hca, hpb, hcb⟩
      · have HE : Hid (Ent.take s.data.toList = none) := hide (by rw [HV.out]; unfold sEnd; rw [hT]; simp [hr])
        have hne : (Num.bs r).toList.isEmpty = false := by rw [ByteArray.toList_eq]; simpa [Num.bs] using hr
        clear hb3 HO HS HV ht hT
        go_wp2
        have r1 := (set_two s1 s2 (.slice none 0 0) (.slice none 0 0)).1
        have r2 := (set_two s1 s2 (.slice none 0 0) (.slice none 0 0)).2
        refine bodyPost_ret (v := nilV) (by simp [results, Try.results15, go_sem, r1, r2, nilV]) rfl ?_
        exact ⟨tookE_no HE.out, (hb4.setCell (Nat.le_refl _) _).setCell (Nat.le_refl _) _⟩

set_option maxRecDepth 100000 in
set_option maxHeartbeats 1600000 in
theorem esame_any (a : Option Addr) (ca : Nat) (l : List Pr) (b : Option Addr) (cb : Nat) (s : List Sm) (a' : Option Addr) (ca' : Nat) (l' : List Pr) (b' : Option Addr) (cb' : Nat) (s' : List Sm) (w : World) (hp : EntIn w a ca l b cb s) (hq : EntIn w a' ca' l' b' cb' s')
    (h1 : l.length ≤ 9223372036854775807) (h2 : l'.length ≤ 9223372036854775807) (h3 : s.length ≤ 9223372036854775807) (h4 : s'.length ≤ 9223372036854775807) :
    Calls Try.prog 20 #[.agg #[.slice a l.length ca, .slice b s.length cb], .agg #[.slice a' l'.length ca', .slice b' s'.length cb']] w fun e w' => e = .returned (.bool (decide (l = l') && decide (s = s'))) ∧ Below w.heap.size w w' := by
  have HL := hide (fun wx (hb : Below w.heap.size w wx) => same_any a ca l a' ca' l' wx (hp.1.below hb) (hq.1.below hb) h1 h2)
  have HS := hide (fun wx (hb : Below w.heap.size w wx) => ssame_any b cb s b' cb' s' wx (hp.2.2.1.below hb) (hq.2.2.1.below hb) h3 h4)
  clear hp hq
  generalize decide (l = l') = D at *
  generalize decide (s = s') = E at *
  cases D with
  | false =>
    go_enter Try.func20, Try.ntmps20
    go_wp2_with fail
    refine (HL.out _ (bl (bel_alloc w _) (bel_alloc _ _))).mono ?_
    rintro e w1 ⟨rfl, hb1⟩
    have hb2 := bel_al (bel_al hb1)
    clear hb1
    go_wp2
    go_ret
    exact ⟨rfl, hb2⟩
  | true =>
    go_enter Try.func20, Try.ntmps20
    go_wp2_with fail
    refine (HL.out _ (bl (bel_alloc w _) (bel_alloc _ _))).mono ?_
    rintro e w1 ⟨rfl, hb1⟩
    obtain ⟨⟨p1, p2, p3, p4⟩, ⟨q1, q2, q3, q4⟩, hz, hb2⟩ := twos_later hb1
    clear hb1
    go_wp2_with fail
    refine (HS.out _ hb2).mono ?_
    rintro e w2 ⟨rfl, hb3⟩
    have hb4 := bl hb2 hb3
    go_wp2
    go_ret
    exact ⟨rfl, hb4⟩

theorem eRes_len (x : List UInt8) : (eRes x).1.1.length ≤ 9223372036854775807 ∧ (eRes x).1.2.length ≤ 9223372036854775807 := by
  unfold eRes
  split
  · exact ⟨Nat.zero_le _, Nat.zero_le _⟩
  · rename_i p h
    obtain ⟨l, s⟩ := p
    obtain ⟨_, h1, _, h2, _⟩ := Ent.of_take h
    have h3 := h1.1
    have h4 := (Smp.of_check h2).2.1
    simp only
    omega
theorem esame_yes (a : Option Addr) (ca : Nat) (l : List Pr) (b : Option Addr) (cb : Nat) (s : List Sm) (a' : Option Addr) (ca' : Nat) (b' : Option Addr) (cb' : Nat) (w : World) (h1 : l.length ≤ 9223372036854775807) (h3 : s.length ≤ 9223372036854775807) (hp : EntIn w a ca l b cb s) (hq : EntIn w a' ca' l b' cb' s) :
    Calls Try.prog 20 #[.agg #[.slice a l.length ca, .slice b s.length cb], .agg #[.slice a' l.length ca', .slice b' s.length cb']] w fun e w' => e = .returned (.bool true) ∧ Below w.heap.size w w' := by
  have := esame_any a ca l b cb s a' ca' l b' cb' s w hp hq h1 h1 h3 h3
  rwa [decide_eq_true rfl, decide_eq_true rfl] at this

set_option maxRecDepth 100000 in
set_option maxHeartbeats 1600000 in
theorem ecanon_any (a : Option Addr) (ca : Nat) (l : List Pr) (b : Option Addr) (cb : Nat) (s : List Sm) (w : World) (hp : EntIn w a ca l b cb s) (hr : Lab.Right l) :
    Calls Try.prog 24 #[.agg #[.slice a l.length ca, .slice b s.length cb]] w fun e w' => ∃ a' ca', e = .returned (.agg #[.slice a' (Lab.canon l).length ca', .slice b s.length cb]) ∧ EntIn w' a' ca' (Lab.canon l) b cb s ∧ Below w.heap.size w w' := by
  have HC := hide (fun wx (hb : Below w.heap.size w wx) => refCanon_good a ca l wx (hp.1.below hb) hr)
  have HE := hide hp
  clear hp
  go_enter Try.func24, Try.ntmps24
  go_wp2_with fail
  refine (HC.out _ (bl (bel_alloc w _) (bel_alloc _ _))).mono ?_
  rintro e w1 ⟨v, rfl, ho, hb1⟩
  obtain ⟨⟨p1, p2, p3, p4⟩, ⟨q1, q2, q3, q4⟩, hz, hb2⟩ := twos_later hb1
  simp only [World.size_alloc] at ho
  obtain ⟨a1, ca1, rfl, hca, _, _⟩ := ho.view
  have HO := hide ho
  clear hb1 ho
  go_wp2
  have r1 := (set_two q1 q2 (.slice a1 (Lab.canon l).length ca1) (.slice b s.length cb)).1
  have r2 := (set_two q1 q2 (.slice a1 (Lab.canon l).length ca1) (.slice b s.length cb)).2
  refine bodyPost_ret (v := .agg #[.slice a1 (Lab.canon l).length ca1, .slice b s.length cb]) (by simp [results, Try.results24, go_sem, r1, r2]) rfl ?_
  have hb5 := (hb2.setCell (p := ⟨w.heap.size + 1, 0, none⟩) (Nat.le_succ _) (.slice a1 (Lab.canon l).length ca1)).setCell (p := ⟨w.heap.size + 1, 1, none⟩) (Nat.le_succ _) (.slice b s.length cb)
  refine ⟨a1, ca1, rfl, ?_, hb5⟩
  obtain ⟨a', ca', e1, _, hpa, _⟩ := ((HO.out.setBelow (p := ⟨w.heap.size + 1, 0, none⟩) (Nat.lt_succ_self _) (.slice a1 (Lab.canon l).length ca1)).setBelow (p := ⟨w.heap.size + 1, 1, none⟩) (Nat.lt_succ_self _) (.slice b s.length cb)).view
  simp only [Value.slice.injEq] at e1
  obtain ⟨rfl, _, rfl⟩ := e1
  have hE := HE.out.below hb5
  exact ⟨hpa, hca, hE.2.2.1, hE.2.2.2⟩

end Go.Proofs.Ytbjcphefaciihaa
