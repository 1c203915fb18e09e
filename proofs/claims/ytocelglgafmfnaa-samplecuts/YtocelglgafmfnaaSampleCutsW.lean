/-
  The walk of SampleCuts.
-/
import Derived.Test.YtocelglgafmfnaaSmpOfW
import Derived.Test.YtocelglgafmfnaaSmpFormW
import Derived.Test.YtocelglgafmfnaaSmpBetW
import Derived.Test.YtocelglgafmfnaaSmpAppW
namespace Go.Proofs.Ytocelglgafmfnaa
open Go.RowKit
open Smp (Sm)

theorem rise_head : ∀ (l : List Sm) (a : Sm), Smp.riseB (a :: l) = true → ∀ x ∈ l, a.1 < x.1
  | [], _, _, x, hx => by simp at hx
  | b :: r, a, h, x, hx => by
    simp only [Smp.riseB, Bool.and_eq_true, decide_eq_true_eq] at h
    rcases List.mem_cons.1 hx with rfl | hx
    · exact h.1
    · have := rise_head r b h.2 x hx
      omega
theorem rise_tail {a : Sm} {l : List Sm} (h : Smp.riseB (a :: l) = true) : Smp.riseB l = true := by
  cases l with
  | nil => rfl
  | cons b r =>
    simp only [Smp.riseB, Bool.and_eq_true, decide_eq_true_eq] at h
    exact h.2
theorem bet_all {l : List Sm} (ho : ∀ x ∈ l, Smp.Ok x) : Smp.between l 0 18446744073709551615 = l := by
  unfold Smp.between
  refine List.filter_eq_self.2 fun x hx => ?_
  obtain ⟨h1, h2, _, _⟩ := ho x hx
  simp only [Smp.inT, Bool.and_eq_true, decide_eq_true_eq]
  exact ⟨h1, by omega⟩
theorem bet_none {l : List Sm} {f t : Int} (h : ∀ x ∈ l, ¬ (f ≤ x.1 ∧ x.1 ≤ t)) : Smp.between l f t = [] := by
  unfold Smp.between
  refine List.filter_eq_nil_iff.2 fun x hx => ?_
  simp only [Smp.inT, Bool.and_eq_true, decide_eq_true_eq]
  exact h x hx
theorem bet_cons_in {a : Sm} {l : List Sm} {f t : Int} (h1 : f ≤ a.1) (h2 : a.1 ≤ t) : Smp.between (a :: l) f t = a :: Smp.between l f t := by
  unfold Smp.between
  rw [List.filter_cons, if_pos (by simp [Smp.inT, h1, h2])]
theorem bet_cons_out {a : Sm} {l : List Sm} {f t : Int} (h : ¬ (f ≤ a.1 ∧ a.1 ≤ t)) : Smp.between (a :: l) f t = Smp.between l f t := by
  unfold Smp.between
  rw [List.filter_cons, if_neg (by simpa [Smp.inT] using h)]
theorem bet_cut : ∀ (l : List Sm) (m : Int), Smp.riseB l = true → (∀ x ∈ l, Smp.Ok x) → Smp.between l 0 (m - 1) ++ Smp.between l m 18446744073709551615 = l
  | [], _, _, _ => rfl
  | a :: r, m, h, ho => by
    obtain ⟨a1, a2, _, _⟩ := ho a (List.mem_cons_self ..)
    have ho' := fun y hy => ho y (List.mem_cons_of_mem _ hy)
    by_cases hm : m ≤ a.1
    · have hh := rise_head r a h
      rw [bet_none (l := a :: r) (f := 0) (fun x hx => ?_), List.nil_append, bet_cons_in hm (by omega)]
      · have : Smp.between r m 18446744073709551615 = r := by
          unfold Smp.between
          refine List.filter_eq_self.2 fun x hx => ?_
          have h1 := hh x hx
          obtain ⟨_, h2, _, _⟩ := ho' x hx
          simp only [Smp.inT, Bool.and_eq_true, decide_eq_true_eq]
          omega
        rw [this]
      · rcases List.mem_cons.1 hx with rfl | hx
        · omega
        · have := hh x hx; omega
    · rw [bet_cons_in a1 (by omega), bet_cons_out (by omega), List.cons_append, bet_cut r m (rise_tail h) ho']
theorem bet_one : ∀ (l : List Sm) (m : Int), Smp.riseB l = true → (Smp.between l m m).length ≤ 1
  | [], _, _ => Nat.zero_le _
  | a :: r, m, h => by
    by_cases hm : a.1 = m
    · have hh := rise_head r a h
      rw [bet_cons_in (by omega) (by omega), bet_none (fun x hx => by have := hh x hx; omega)]
      exact Nat.le_refl _
    · rw [bet_cons_out (by omega)]
      exact bet_one r m (rise_tail h)
theorem bet_back (l : List Sm) (m : Int) : Smp.between l m (m - 1) = [] := bet_none fun x _ => by omega

set_option maxRecDepth 100000 in
set_option maxHeartbeats 3200000 in
theorem walkSampleCuts (t : Int) (a1 : Option Addr) (len1 cap1 : Nat) (z1 : List Int) (m : Int) (w : World) (ht : 0 ≤ t ∧ t ≤ 18446744073709551615) (hr1 : IsRow .i64 w a1 len1 cap1 z1) (hm : 0 ≤ m ∧ m ≤ 18446744073709551615) :
    Calls Try.prog 8 #[.int .u64 t, .slice a1 len1 cap1, .int .u64 m] w fun e w' => e = .returned (.bool true) ∧ Below w.heap.size w w' := by
  obtain ⟨zs, rfl, hzl, hzp, hzw⟩ := isRow_nums hr1
  clear hr1
  have hzb : ∀ z ∈ zs, -9223372036854775808 ≤ z ∧ z ≤ 9223372036854775807 := fun z h => bounds_i64 (hzw z h)
  clear hzw
  have HSO := hide (fun wx (hb : Below w.heap.size w wx) => samplesOf_any t a1 cap1 zs wx (by omega) (hzp.below hb) hzl hzb)
  have HLO := hide (smps_ok t hzb)
  have HLR := hide (smps_rise t zs)
  obtain ⟨hl1, hl2⟩ := smps_len t zs
  clear hzp hzb
  generalize smps t zs = l at *
  go_enter Try.func8, Try.ntmps8
  go_wp2_with fail
  refine (shown_any _).mono ?_
  rintro e w1 ⟨rfl, hb1⟩
  go_wp2_with fail
  refine (HSO.out _ hb1).mono ?_
  rintro e w2 ⟨v, rfl, hown, hb2⟩
  obtain ⟨a, cap, rfl, _, hsa, _⟩ := hown.view
  have HSA := hide hsa
  have HB2 := hide (bl hb1 hb2)
  have HBE := hide (fun (f' t' : Int) wx (hb : Below w2.heap.size w2 wx) => between_any a cap l f' t' wx (HSA.out.below hb) (by omega))
  clear hb1 hb2 hown hsa
  go_wp2_with fail
  refine (HBE.out _ _ _ (Below.refl _ _)).mono ?_
  rintro e w3 ⟨v3, rfl, ho3, hb3⟩
  rw [bet_all HLO.out] at ho3
  obtain ⟨c, ccap, rfl, _, hsc, _⟩ := ho3.view
  have HS3 := hide (fun wx (hb : Below w3.heap.size w3 wx) => same_yes c ccap a cap l wx (by omega) (hsc.below hb) ((HSA.out.below hb3).below hb))
  have HB3 := hide hb3
  clear ho3 hsc hb3
  go_wp2_with fail
  refine (HS3.out _ (Below.refl _ _)).mono ?_
  rintro e w4 ⟨rfl, hb4⟩
  have HB4 := hide (bl HB3.out hb4)
  have HB34 := hide hb4
  clear hb4
  by_cases h0 : m = 0
  · subst h0
    go_wp2_with fail
    refine (HS3.out _ HB34.out).mono ?_
    rintro e w5 ⟨rfl, hb5⟩
    have hbz := bl HB2.out (bl HB4.out hb5)
    go_wp2
    go_ret
    exact ⟨rfl, hbz⟩
  have hne : (m == 0) = false := beq_eq_false_iff_ne.2 h0
  have hm1 : 1 ≤ m := by omega
  clear HS3 HB34 HB3
  go_wp2_with fail
  refine (HBE.out _ _ _ HB4.out).mono ?_
  rintro e w5 ⟨v5, rfl, ho5, hb5⟩
  have HB5 := hide (bl HB4.out hb5)
  obtain ⟨a5, cap5, rfl, _, hs5, hn5⟩ := ho5.view
  clear ho5 HB4
  go_wp2_with fail
  refine (HBE.out _ _ _ HB5.out).mono ?_
  rintro e w6 ⟨v6, rfl, ho6, hb6⟩
  have HB6 := hide (bl HB5.out hb6)
  have hs5 := hs5.below hb6
  obtain ⟨a6, cap6, rfl, _, hs6, hn6⟩ := ho6.view
  clear ho6 HB5 hb5 hb6
  go_wp2_with fail
  refine (HBE.out _ _ _ HB6.out).mono ?_
  rintro e w7 ⟨v7, rfl, ho7, hb7⟩
  have HB7 := hide (bl HB6.out hb7)
  have hs5 := hs5.below hb7
  have hs6 := hs6.below hb7
  obtain ⟨a7, cap7, rfl, _, hs7, _⟩ := ho7.view
  clear ho7 HB6 hb7 hs7
  have HC := hide (bet_cut l m HLR.out HLO.out)
  have H1 := hide (bet_one l m HLR.out)
  have HX := hide (bet_back l m)
  have L5 := bet_len l 0 (m - 1)
  have L6 := bet_len l m 18446744073709551615
  generalize Smp.between l 0 (m - 1) = P at *
  generalize Smp.between l m 18446744073709551615 = Q at *
  generalize Smp.between l m m = R at *
  have hbE := (Below.refl w7.heap.size w7).alloc (Nat.le_refl _) (Obj.cells #[] 38)
  have hownE := owns_empty (B := w7.heap.size) (heap_new w7 (Obj.cells #[] 38)) (Nat.le_refl _)
  have h1' : (R.length : Int) ≤ 1 := by have := H1.out; omega
  go_wp2_with (at_builtin; refine wpList_apps rfl _ _ rfl w7.heap.size _ [] rfl hownE a5 cap5 P.length P rfl rfl (hs5.below hbE) hn5 ?c1 ?c2 ?_)
  case c1 => simp; omega
  case c2 => simp
  intro v8 w8 ho8 hg8
  have hb8 := hbE.grown hg8 (by simp) (fun k hk => (World.ownsRow.lt hownE k hk).1)
  have hs6 := hs6.below hb8
  clear hownE hbE hg8
  go_wp2_with (at_builtin; refine wpList_apps rfl _ _ rfl w7.heap.size _ _ rfl ho8 a6 cap6 Q.length Q rfl rfl hs6 hn6 ?c1 ?c2 ?_)
  case c1 => omega
  case c2 => exact hb8.size
  intro v9 w9 ho9 hg9
  have hb9 := hb8.grown hg9 hb8.size (fun k hk => (World.ownsRow.lt ho8 k hk).1)
  rw [HC.out] at ho9
  obtain ⟨a9, cap9, rfl, _, hs9, _⟩ := ho9.view
  have HB9 := hide (bl HB7.out hb9)
  have HSY := hide (same_yes a9 cap9 a cap l w9 (by omega) hs9 (HSA.out.below HB9.out))
  clear ho8 hg9 hb8 hb9 ho9 hs9 hs5 hs6 HB7
  go_wp2_with fail
  refine HSY.out.mono ?_
  rintro e wa ⟨rfl, hba⟩
  have HBa := hide (bl HB9.out hba)
  clear hba HB9 HSY
  go_wp2_with fail
  refine (HBE.out _ _ _ HBa.out).mono ?_
  rintro e wb ⟨vb, rfl, hob, hbb⟩
  rw [HX.out] at hob
  obtain ⟨ab, capb, rfl, _, _, _⟩ := hob.view
  have hbz := bl HB2.out (bl HBa.out hbb)
  clear hob hbb HBa
  go_wp2
  go_ret
  exact ⟨rfl, hbz⟩

end Go.Proofs.Ytocelglgafmfnaa
