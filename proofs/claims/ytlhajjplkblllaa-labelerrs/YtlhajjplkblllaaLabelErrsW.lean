/-
  The walk of LabelErrs.
-/
import Derived.Test.YtlhajjplkblllaaLabErrsM
import Derived.Test.YtlhajjplkblllaaLabShownW
namespace Go.Proofs.Ytlhajjplkblllaa
open Go.RowKit
open Lab (Pr)

theorem lput_err (a : Option Addr) (cap n : Nat) (l : List Pr) (C : Int) (hn : n = l.length) (w : World) (hp : PairsAt w a l) (hcap : l.length ≤ cap) (hs : Small l) (hc : (Lab.check l : Int) = C) (h0 : C ≠ 0) :
    Calls Try.prog 14 #[.slice a n cap] w fun e w' => e = .returned (.tuple #[.string ⟨#[]⟩, .int .i64 C]) ∧ Below w.heap.size w w' := by
  subst hc hn; exact lput_bad a cap l w hp hcap hs (by omega)
theorem canon_err (a : Option Addr) (cap n : Nat) (l : List Pr) (C : Int) (hn : n = l.length) (w : World) (hp : PairsAt w a l) (hcap : l.length ≤ cap) (hs : Small l) (hc : (Lab.check l : Int) = C) (h0 : C ≠ 0) :
    Calls Try.prog 12 #[.slice a n cap] w fun e w' => e = .returned (.tuple #[.slice none 0 0, .int .i64 C]) ∧ Below w.heap.size w w' := by
  subst hc hn; exact canon_bad a cap l w hp hcap hs (by omega)
theorem check_err (a : Option Addr) (cap n : Nat) (l : List Pr) (C : Int) (hn : n = l.length) (w : World) (hp : PairsAt w a l) (hcap : l.length ≤ cap) (hs : Small l) (hc : (Lab.check l : Int) = C) :
    Calls Try.prog 20 #[.slice a n cap] w fun e w' => e = .returned (.int .i64 C) ∧ Below w.heap.size w w' := by
  subst hc hn; exact check_any a cap l w hp hs.1 hcap hs.2
theorem small_set {l : List Pr} (h : Lab.Right l) (k : Nat) {x : Pr} (hx : x.1.size ≤ 5000 ∧ x.2.size ≤ 5000) : Small (l.set k x) := by
  have := h.1
  refine ⟨by simp; omega, fun p hp => ?_⟩
  rcases List.mem_or_eq_of_mem_set hp with hp | rfl
  · have := Lab.right_small h p hp; omega
  · omega
theorem bd4 {z : Int} (h0 : -9223372036854775808 ≤ z) (h1 : z ≤ 9223372036854775807) : -9223372036854775808 ≤ z.tdiv 4 ∧ z.tdiv 4 ≤ 9223372036854775807 := by
  obtain ⟨t1, t2⟩ := tdiv_between z 4 (by omega)
  by_cases h : 0 ≤ z
  · have := t1 h; omega
  · have := t2 (by omega); omega

theorem bad_cell (w : World) (t : TypeId) {i : Nat} (hi : i < 5) : (w.alloc (.cells #[.string ⟨#[]⟩, .string ⟨#[49, 97]⟩, .string ⟨#[65]⟩, .string ⟨#[97, 32, 98]⟩, .string ⟨#[97, 97, 97, 97, 97, 97, 97, 97, 97, 97, 97, 97, 97, 97, 97, 97, 97, 97, 97, 97, 97]⟩] t)).cell? ⟨w.heap.size, i, none⟩ = some (.string (bad5 i)) := by
  rw [World.cell?_alloc_at _ _ _ _ rfl]
  match i, hi with
  | 0, _ => rfl
  | 1, _ => rfl
  | 2, _ => rfl
  | 3, _ => rfl
  | 4, _ => rfl

set_option maxRecDepth 100000 in
set_option maxHeartbeats 3200000 in
theorem walkLabelErrs (a0 : Option Addr) (len0 cap0 : Nat) (z0 : List Int) (a1 a2 : Int) (w : World) (h0 : IsRow .i64 w a0 len0 cap0 z0) (h1 : -9223372036854775808 ≤ a1 ∧ a1 ≤ 9223372036854775807) (h2 : -9223372036854775808 ≤ a2 ∧ a2 ≤ 9223372036854775807) :
    Calls Try.prog 7 #[.slice a0 len0 cap0, .int .i64 a1, .int .i64 a2] w fun e w' => e = .returned (.bool true) ∧ Below w.heap.size w w' := by
  obtain ⟨zs, rfl, hzm, hz, hzb⟩ := isRow_ints h0
  obtain ⟨i0, hi, hz0, hz1, hz2⟩ := info_parts info_pair
  obtain ⟨h1a, h1b⟩ := h1
  obtain ⟨h2a, h2b⟩ := h2
  have hR := labs_right zs
  have hT := labs_ne_twice zs
  have HL := hide (fun wx (hb : Below w.heap.size w wx) => labelsOf_any a0 cap0 zs wx (hz.below hb) hzb)
  generalize labs zs = l at *
  have h8 := hR.1
  have HR := hide hR
  have HT := hide hT
  clear h0 hz hzb hR hT
  by_cases hl0 : l.length = 0
  · have hl0' : l = [] := List.length_eq_zero_iff.1 hl0
    subst hl0'
    go_enter Try.func7, Try.ntmps7
    go_wp2_with fail
    refine (lshown_any _).mono ?_
    rintro e w1 ⟨rfl, hb1⟩
    go_wp2_with fail
    refine (HL.out _ hb1).mono ?_
    rintro e w2 ⟨v, rfl, hown, hb2⟩
    obtain ⟨oa, ocap, rfl, _, _, _⟩ := hown.view
    have hbz := bl hb1 hb2
    clear hb1 hb2
    go_wp2
    go_ret
    exact ⟨rfl, hbz⟩
  have hl0' : ((l.length : Int) == 0) = false := beq_eq_false_iff_ne.2 (by omega)
  have hk := pk_lt a1 (show 0 < l.length by omega)
  generalize hkk : pk a1 l.length = k at *
  have HK := hide hkk
  clear hkk
  have h4 := pk_lt a2 (show 0 < 4 by omega)
  rcases (show pk a2 4 = 0 ∨ pk a2 4 = 1 ∨ pk a2 4 = 2 ∨ pk a2 4 = 3 by omega) with hw | hw | hw | hw
  · obtain ⟨hq0, hq1⟩ := bd4 h2a h2b
    have hp5 := pk_lt (a2.tdiv 4) (show 0 < 5 by omega)
    have hp5i : ((pk (a2.tdiv 4) 5 : Nat) : Int) < 5 := by omega
    have HWH := hide hw
    clear hw h4
    go_enter Try.func7, Try.ntmps7
    go_wp2_with fail
    refine (lshown_any _).mono ?_
    rintro e w1 ⟨rfl, hb1⟩
    go_wp2_with fail
    refine (HL.out _ hb1).mono ?_
    rintro e w2 ⟨v, rfl, hown, hb2⟩
    obtain ⟨oa, ocap, rfl, hocap, _, hor⟩ := hown.view
    obtain ⟨g, rfl, hBg, hrow⟩ : ∃ g, oa = some ⟨g, 0, none⟩ ∧ w1.heap.size ≤ g ∧ RowAt w2 g l := by
      rcases hor with ⟨_, e⟩ | h
      · exfalso; rw [e] at hl0; exact hl0 rfl
      · exact h
    have hbz := bl hb1 hb2
    have hgl := hrow.1
    have hBw : w.heap.size ≤ g := Nat.le_trans hb1.size hBg
    obtain ⟨hc1, hc2, hf1, hf2⟩ := hrow.2 k hk
    clear hb1 hb2 hrow hor
    go_wp2_with fail
    refine (pick_any a1 l.length _ h1a h1b (by omega) (by omega)).mono ?_
    rw [HK.out]
    rintro e w3 ⟨rfl, rfl⟩
    go_wp2_with fail
    refine (pick_any a2 4 _ h2a h2b (by omega) (by omega)).mono ?_
    rw [HWH.out]
    rintro e w4 ⟨rfl, rfl⟩
    go_wp2_with fail
    refine (pick_any (a2.tdiv 4) 5 _ hq0 hq1 (by omega) (by omega)).mono ?_
    rintro e w5 ⟨rfl, hw5⟩
    have hb5 : Below w4.heap.size w4 w5 := by rw [hw5]; exact (Below.refl _ _).alloc (Nat.le_refl _) _
    have hnm : w5.cell? ⟨w4.heap.size, pk (a2.tdiv 4) 5, none⟩ = some (.string (bad5 (pk (a2.tdiv 4) 5))) := by rw [hw5]; exact bad_cell _ _ hp5
    have hown5 := OwnP.below hown hb5
    have hc1' := (hb5.cell (p := ⟨g, k * 2, none⟩) hgl).trans hc1
    have hf1' := (hb5.frozen (p := ⟨g, k * 2, none⟩) hgl).trans hf1
    have hbad := bad5_no _ hp5
    have hbsz := bad5_size _ hp5
    have hbz5 := bl hbz hb5
    clear hw5 hc1 hc2 hf1 hf2 hb5 hown hbz
    generalize bad5 (pk (a2.tdiv 4) 5) = bn at *
    have hset := hown5.set1 hk bn
    have hvs := Lab.right_small HR.out l[k] (List.getElem_mem hk)
    obtain ⟨ps, hps⟩ : ∃ ps, ps = l.set k (bn, (l[k]).2) := ⟨_, rfl⟩
    have HLN : Hid (l.length = ps.length) := by rw [hps, List.length_set]; exact rfl
    have HCAP : Hid (ps.length ≤ ocap) := by rw [← HLN.out]; exact hocap
    have HCH : Hid ((Lab.check ps : Int) = 3) := by rw [hps, check_name HR.out hk hbad]; exact rfl
    have HSM : Hid (Small ps) := by rw [hps]; exact small_set HR.out k (by simp only; omega)
    rw [← hps] at hset
    have hset2 := hset
    obtain ⟨oa2, ocap2, hv2, _, hpp, _⟩ := hset.view
    have hoa : oa2 = some ⟨g, 0, none⟩ := by injection hv2 with h _ _; exact h.symm
    subst hoa
    have HPP := hide hpp
    have HBZ := hide (hbz5.setCell (p := ⟨g, k * 2, none⟩) hBw (.string bn))
    clear hset hset2 hpp hps hv2 hbz5 hown5
    go_wp2_with fail
    refine (lput_err (some ⟨g, 0, none⟩) ocap _ ps 3 HLN.out _ HPP.out HCAP.out HSM.out HCH.out (by decide)).mono ?_
    rintro e wa ⟨rfl, hba⟩
    have HP1 := hide (HPP.out.below hba)
    go_wp2_with fail
    refine (canon_err (some ⟨g, 0, none⟩) ocap _ ps 3 HLN.out _ HP1.out HCAP.out HSM.out HCH.out (by decide)).mono ?_
    rintro e wb ⟨rfl, hbb⟩
    have HP2 := hide (HP1.out.below hbb)
    go_wp2_with fail
    refine (check_err (some ⟨g, 0, none⟩) ocap _ ps 3 HLN.out _ HP2.out HCAP.out HSM.out HCH.out).mono ?_
    rintro e wc ⟨rfl, hbc⟩
    have hBe := bl HBZ.out (bl hba (bl hbb hbc))
    clear hba hbb hbc
    go_wp2
    go_ret
    exact ⟨rfl, hBe⟩
  · have HWH := hide hw
    clear hw h4
    go_enter Try.func7, Try.ntmps7
    go_wp2_with fail
    refine (lshown_any _).mono ?_
    rintro e w1 ⟨rfl, hb1⟩
    go_wp2_with fail
    refine (HL.out _ hb1).mono ?_
    rintro e w2 ⟨v, rfl, hown, hb2⟩
    obtain ⟨oa, ocap, rfl, hocap, _, hor⟩ := hown.view
    obtain ⟨g, rfl, hBg, hrow⟩ : ∃ g, oa = some ⟨g, 0, none⟩ ∧ w1.heap.size ≤ g ∧ RowAt w2 g l := by
      rcases hor with ⟨_, e⟩ | h
      · exfalso; rw [e] at hl0; exact hl0 rfl
      · exact h
    have hbz := bl hb1 hb2
    have hgl := hrow.1
    have hBw : w.heap.size ≤ g := Nat.le_trans hb1.size hBg
    obtain ⟨hc1, hc2, hf1, hf2⟩ := hrow.2 k hk
    clear hb1 hb2 hrow hor
    go_wp2_with fail
    refine (pick_any a1 l.length _ h1a h1b (by omega) (by omega)).mono ?_
    rw [HK.out]
    rintro e w3 ⟨rfl, rfl⟩
    go_wp2_with fail
    refine (pick_any a2 4 _ h2a h2b (by omega) (by omega)).mono ?_
    rw [HWH.out]
    rintro e w4 ⟨rfl, rfl⟩
    have hval : (40 : Nat) < ByteArray.size ⟨#[48, 49, 50, 51, 52, 53, 54, 55, 56, 57, 48, 49, 50, 51, 52, 53, 54, 55, 56, 57, 48, 49, 50, 51, 52, 53, 54, 55, 56, 57, 48, 49, 50, 51, 52, 53, 54, 55, 56, 57, 33]⟩ := by decide
    have hval2 : ByteArray.size ⟨#[48, 49, 50, 51, 52, 53, 54, 55, 56, 57, 48, 49, 50, 51, 52, 53, 54, 55, 56, 57, 48, 49, 50, 51, 52, 53, 54, 55, 56, 57, 48, 49, 50, 51, 52, 53, 54, 55, 56, 57, 33]⟩ ≤ 1000 := by decide
    generalize hbv : (⟨#[48, 49, 50, 51, 52, 53, 54, 55, 56, 57, 48, 49, 50, 51, 52, 53, 54, 55, 56, 57, 48, 49, 50, 51, 52, 53, 54, 55, 56, 57, 48, 49, 50, 51, 52, 53, 54, 55, 56, 57, 33]⟩ : ByteArray) = bv at *
    have HBV := hide hbv
    clear hbv
    have hset := OwnP.set2 hown hk bv
    have hvs := Lab.right_small HR.out l[k] (List.getElem_mem hk)
    obtain ⟨ps, hps⟩ : ∃ ps, ps = l.set k ((l[k]).1, bv) := ⟨_, rfl⟩
    have HLN : Hid (l.length = ps.length) := by rw [hps, List.length_set]; exact rfl
    have HCAP : Hid (ps.length ≤ ocap) := by rw [← HLN.out]; exact hocap
    have HCH : Hid ((Lab.check ps : Int) = 7) := by rw [hps, check_long HR.out hk hval]; exact rfl
    have HSM : Hid (Small ps) := by rw [hps]; exact small_set HR.out k (by simp only; omega)
    rw [← hps] at hset
    obtain ⟨oa2, ocap2, hv2, _, hpp, _⟩ := hset.view
    have hoa : oa2 = some ⟨g, 0, none⟩ := by injection hv2 with h _ _; exact h.symm
    subst hoa
    have HPP := hide hpp
    have HBZ := hide (hbz.setCell (p := ⟨g, k * 2 + 1, none⟩) hBw (.string bv))
    clear hset hpp hps hv2 hbz hown
    go_wp2_with fail
    refine (lput_err (some ⟨g, 0, none⟩) ocap _ ps 7 HLN.out _ HPP.out HCAP.out HSM.out HCH.out (by decide)).mono ?_
    rintro e wa ⟨rfl, hba⟩
    have HP1 := hide (HPP.out.below hba)
    go_wp2_with fail
    refine (canon_err (some ⟨g, 0, none⟩) ocap _ ps 7 HLN.out _ HP1.out HCAP.out HSM.out HCH.out (by decide)).mono ?_
    rintro e wb ⟨rfl, hbb⟩
    have HP2 := hide (HP1.out.below hbb)
    go_wp2_with fail
    refine (check_err (some ⟨g, 0, none⟩) ocap _ ps 7 HLN.out _ HP2.out HCAP.out HSM.out HCH.out).mono ?_
    rintro e wc ⟨rfl, hbc⟩
    have hBe := bl HBZ.out (bl hba (bl hbb hbc))
    clear hba hbb hbc
    go_wp2
    go_ret
    exact ⟨rfl, hBe⟩
  · have HWH := hide hw
    clear hw h4
    go_enter Try.func7, Try.ntmps7
    go_wp2_with fail
    refine (lshown_any _).mono ?_
    rintro e w1 ⟨rfl, hb1⟩
    go_wp2_with fail
    refine (HL.out _ hb1).mono ?_
    rintro e w2 ⟨v, rfl, hown, hb2⟩
    obtain ⟨oa, ocap, rfl, hocap, _, hor⟩ := hown.view
    obtain ⟨g, rfl, hBg, hrow⟩ : ∃ g, oa = some ⟨g, 0, none⟩ ∧ w1.heap.size ≤ g ∧ RowAt w2 g l := by
      rcases hor with ⟨_, e⟩ | h
      · exfalso; rw [e] at hl0; exact hl0 rfl
      · exact h
    have hgl := hrow.1
    have hBw : w.heap.size ≤ g := Nat.le_trans hb1.size hBg
    obtain ⟨hc1, hc2, hf1, hf2⟩ := hrow.2 k hk
    clear hrow hor
    go_wp2_with fail
    refine (pick_any a1 l.length _ h1a h1b (by omega) (by omega)).mono ?_
    rw [HK.out]
    rintro e w3 ⟨rfl, rfl⟩
    go_wp2_with fail
    refine (pick_any a2 4 _ h2a h2b (by omega) (by omega)).mono ?_
    rw [HWH.out]
    rintro e w4 ⟨rfl, rfl⟩
    have hset := OwnP.set1 hown hk twice
    have hvs := Lab.right_small HR.out l[k] (List.getElem_mem hk)
    have hvr := (HR.out.2.1 l[k] (List.getElem_mem hk)).2
    obtain ⟨q, hq⟩ : ∃ q, q = l.set k (twice, (l[k]).2) := ⟨_, rfl⟩
    have hql : q.length = l.length := by rw [hq, List.length_set]
    rw [← hq] at hset
    unfold OwnP at hset
    rw [hql] at hset
    have HQL := hide hql
    have HQ := hide hq
    have hbw2 := hb2.setCell (p := ⟨g, k * 2, none⟩) hBg (.string twice)
    have hszw : w1.heap.size ≤ (w4.setCell ⟨g, k * 2, none⟩ (.string twice)).heap.size := hbw2.size
    unfold twice at hset hbw2 hszw
    clear hql hq hown
    go_wp2_with (at_builtin; refine wpList_append_own _ rfl _ _ 22 rfl w1.heap.size 45 i0 _ 2 32 Try.underlying22 hi hz0 hz1 hz2 rfl (by decide) _ _ _ rfl (hset.alloc _) ⟨w4.heap.size, 0, none⟩ 1 1 [.string ⟨#[116, 119, 105, 99, 101]⟩, .string ⟨#[]⟩] rfl rfl ?c1 ?c2 ?c3 ?c4 ?c5 ?_)
    case c1 => exact cells_two_at _ _ _ _ _ (by simp)
    case c2 => intro u hu; simp at hu; rcases hu with rfl | rfl <;> rfl
    case c3 => unfold maxLen; omega
    case c4 => omega
    case c5 => simp; have := hb2.size; omega
    intro v' w5 hown' hgrow _
    have R := own_step2 HQL.out.symm hszw (hset.alloc _) hbw2 hown' hgrow
    clear hset hown' hgrow
    obtain ⟨R1, R2⟩ := R
    obtain ⟨oa2, ocap2, rfl, hoc2, hpp, _⟩ := R1.view
    have HBZ := hide (bl hb1 R2)
    obtain ⟨ps, hps⟩ : ∃ ps, ps = q ++ [((⟨#[116, 119, 105, 99, 101]⟩ : ByteArray), (⟨#[]⟩ : ByteArray))] := ⟨_, rfl⟩
    rw [← hps] at hpp hoc2 R1 ⊢
    have hpl : ps.length = l.length + 1 := by rw [hps]; simp [HQL.out]
    have HLN : Hid (l.length + 1 = ps.length) := hpl.symm
    have HCAP := hide hoc2
    have HSM : Hid (Small ps) := by
      have h := small_set (x := (twice, (l[k]).2)) HR.out k (by simp only [twice]; exact ⟨by decide, by omega⟩)
      rw [← HQ.out] at h
      refine hide ⟨by omega, fun p hp => ?_⟩
      rw [hps] at hp
      rcases List.mem_append.1 hp with hp | hp
      · exact h.2 p hp
      · rw [List.mem_singleton.1 hp]; exact ⟨by decide, by decide⟩
    have HPP := hide hpp
    have HC4 : Hid (l.length < 8 → (Lab.check ps : Int) = 4) := fun h7 => by
      rw [hps, HQ.out]
      have := check_twice HR.out h7 HT.out hk (v := (l[k]).2) (u := ⟨#[]⟩) hvr (by decide)
      unfold twice at this ⊢
      rw [this]; rfl
    have HC6 : Hid (8 ≤ l.length → (Lab.check ps : Int) = 6) := fun h7 => by
      rw [check_many (by omega)]; rfl
    clear hpp hps R1 R2 hb1 hb2 hoc2 hbw2 hszw
    simp only [hpl]
    clear hpl
    by_cases h7 : l.length < 8
    · have HCH := hide (HC4.out h7)
      go_wp2_with fail
      refine (lput_err oa2 ocap2 _ ps 4 HLN.out _ HPP.out HCAP.out HSM.out HCH.out (by decide)).mono ?_
      rintro e wa ⟨rfl, hba⟩
      have HP1 := hide (HPP.out.below hba)
      go_wp2_with fail
      refine (canon_err oa2 ocap2 _ ps 4 HLN.out _ HP1.out HCAP.out HSM.out HCH.out (by decide)).mono ?_
      rintro e wb ⟨rfl, hbb⟩
      have HP2 := hide (HP1.out.below hbb)
      go_wp2_with fail
      refine (check_err oa2 ocap2 _ ps 4 HLN.out _ HP2.out HCAP.out HSM.out HCH.out).mono ?_
      rintro e wc ⟨rfl, hbc⟩
      have hBe := bl HBZ.out (bl hba (bl hbb hbc))
      clear hba hbb hbc
      go_wp2
      go_ret
      exact ⟨rfl, hBe⟩
    · have HCH := hide (HC6.out (by omega))
      go_wp2_with fail
      refine (lput_err oa2 ocap2 _ ps 6 HLN.out _ HPP.out HCAP.out HSM.out HCH.out (by decide)).mono ?_
      rintro e wa ⟨rfl, hba⟩
      have HP1 := hide (HPP.out.below hba)
      go_wp2_with fail
      refine (canon_err oa2 ocap2 _ ps 6 HLN.out _ HP1.out HCAP.out HSM.out HCH.out (by decide)).mono ?_
      rintro e wb ⟨rfl, hbb⟩
      have HP2 := hide (HP1.out.below hbb)
      go_wp2_with fail
      refine (check_err oa2 ocap2 _ ps 6 HLN.out _ HP2.out HCAP.out HSM.out HCH.out).mono ?_
      rintro e wc ⟨rfl, hbc⟩
      have hBe := bl HBZ.out (bl hba (bl hbb hbc))
      clear hba hbb hbc
      go_wp2
      go_ret
      exact ⟨rfl, hBe⟩
  · have HWH := hide hw
    clear hw h4
    go_enter Try.func7, Try.ntmps7
    go_wp2_with fail
    refine (lshown_any _).mono ?_
    rintro e w1 ⟨rfl, hb1⟩
    go_wp2_with fail
    refine (HL.out _ hb1).mono ?_
    rintro e w2 ⟨v, rfl, hown, hb2⟩
    obtain ⟨oa, ocap, rfl, hocap, _, hor⟩ := hown.view
    obtain ⟨g, rfl, hBg, hrow⟩ : ∃ g, oa = some ⟨g, 0, none⟩ ∧ w1.heap.size ≤ g ∧ RowAt w2 g l := by
      rcases hor with ⟨_, e⟩ | h
      · exfalso; rw [e] at hl0; exact hl0 rfl
      · exact h
    have hgl := hrow.1
    have hBw : w.heap.size ≤ g := Nat.le_trans hb1.size hBg
    obtain ⟨hc1, hc2, hf1, hf2⟩ := hrow.2 k hk
    clear hrow hor
    go_wp2_with fail
    refine (pick_any a1 l.length _ h1a h1b (by omega) (by omega)).mono ?_
    rw [HK.out]
    rintro e w3 ⟨rfl, rfl⟩
    go_wp2_with fail
    refine (pick_any a2 4 _ h2a h2b (by omega) (by omega)).mono ?_
    rw [HWH.out]
    rintro e w4 ⟨rfl, rfl⟩
    go_wp2
    go_loopw [8] (fun v wr => ∃ m : Nat, l.length + m ≤ 9 ∧ OwnP wr w1.heap.size v (l ++ List.replicate m zeroP) ∧ Below w1.heap.size w1 wr)
      (fun v _ => 9 - lenOf v)
    case atStart => exact ⟨0, by omega, by simpa using hown, hb2⟩
    case round =>
      obtain ⟨m, hm, hro, hnx⟩ := hrel
      obtain ⟨oa2, ocap2, rfl, hoc2, hpp, _⟩ := hro.view
      obtain ⟨ps, hps⟩ : ∃ ps, ps = l ++ List.replicate m zeroP := ⟨_, rfl⟩
      have hpl : ps.length = l.length + m := by rw [hps]; simp
      rw [← hps] at hro hpp hoc2 ⊢
      have HPS := hide hps
      have HPL := hide hpl
      have hsz := hnx.size
      clear hps
      by_cases h9 : ps.length < 9
      · clear hpl
        have hro' := hro
        unfold OwnP at hro
        go_wp2_with (at_builtin; refine wpList_append_own _ rfl _ _ 22 rfl w1.heap.size 45 i0 _ 2 32 Try.underlying22 hi hz0 hz1 hz2 rfl (by decide) _ _ _ rfl (hro.alloc _) ⟨wr.heap.size, 0, none⟩ 1 1 [.string ⟨#[]⟩, .string ⟨#[]⟩] rfl rfl ?d1 ?d2 ?d3 ?d4 ?d5 ?_)
        case d1 => exact cells_two_at _ _ _ _ _ (by simp)
        case d2 => intro u hu; simp at hu; subst hu; rfl
        case d3 => unfold maxLen; omega
        case d4 => omega
        case d5 => simp; omega
        intro v' w5 hown' hgrow _
        have R := own_step hsz (hro.alloc _) hnx hown' hgrow
        clear hro hown' hgrow hro'
        go_wp2
        go_roundw
        case rel => exact ⟨m + 1, by have := HPL.out; omega, by rw [List.replicate_succ', ← List.append_assoc, ← HPS.out]; exact R.1, R.2⟩
        case measure =>
          obtain ⟨oa3, ocap3, hv3, _, _, _⟩ := R.1.view
          rw [hv3]
          simp [lenOf]; omega
      · have HCH : Hid ((Lab.check ps : Int) = 6) := by rw [check_many (by omega)]; exact rfl
        have HCAP := hide hoc2
        have HPP := hide hpp
        have HBZ := hide (bl hb1 hnx)
        have HSM : Hid (Small ps) := by
          refine hide ⟨by omega, fun p hp => ?_⟩
          rw [HPS.out] at hp
          rcases List.mem_append.1 hp with hp | hp
          · have := Lab.right_small HR.out p hp; omega
          · rw [(List.mem_replicate.1 hp).2]; exact ⟨by decide, by decide⟩
        clear hpp hoc2 hnx hb1 hb2 hpl hown hro
        go_wp2_with fail
        refine (lput_err oa2 ocap2 _ ps 6 rfl _ HPP.out HCAP.out HSM.out HCH.out (by decide)).mono ?_
        rintro e wa ⟨rfl, hba⟩
        have HP1 := hide (HPP.out.below hba)
        go_wp2_with fail
        refine (canon_err oa2 ocap2 _ ps 6 rfl _ HP1.out HCAP.out HSM.out HCH.out (by decide)).mono ?_
        rintro e wb ⟨rfl, hbb⟩
        have HP2 := hide (HP1.out.below hbb)
        go_wp2_with fail
        refine (check_err oa2 ocap2 _ ps 6 rfl _ HP2.out HCAP.out HSM.out HCH.out).mono ?_
        rintro e wc ⟨rfl, hbc⟩
        have hBe := bl HBZ.out (bl hba (bl hbb hbc))
        clear hba hbb hbc
        go_wp2
        go_ret
        exact ⟨rfl, hBe⟩

end Go.Proofs.Ytlhajjplkblllaa
