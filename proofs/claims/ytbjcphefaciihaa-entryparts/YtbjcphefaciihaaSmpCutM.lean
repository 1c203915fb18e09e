/-
  Samples of some time, as plain lists: cut at a time they are all together.
-/
import Derived.Test.YtbjcphefaciihaaSmpMath
namespace Go.Proofs.Ytbjcphefaciihaa
open Smp (Sm)

theorem rise_head : ∀ (l : List Sm) (a : Sm), Smp.riseB (a :: l) = true → ∀ x ∈ l, a.1 < x.1
  | [], _, _, x, hx => by simp at hx
  | b :: r, a, h, x, hx => by
    simp only [Smp.riseB, Bool.and_eq_true, decide_eq_true_eq] at h
    rcases List.mem_cons.1 hx with rfl | hx
    · exact h.1
    · have := rise_head r b h.2 x hx
      omega
theorem rise_tail {a : Sm} {l : List Sm} (h : Smp.riseB (a :: l) = true) : Smp.riseB l = true := by
  cases l with
  | nil => rfl
  | cons b r =>
    simp only [Smp.riseB, Bool.and_eq_true, decide_eq_true_eq] at h
    exact h.2
theorem bet_all {l : List Sm} (ho : ∀ x ∈ l, Smp.Ok x) : Smp.between l 0 18446744073709551615 = l := by
  unfold Smp.between
  refine List.filter_eq_self.2 fun x hx => ?_
  obtain ⟨h1, h2, _, _⟩ := ho x hx
  simp only [Smp.inT, Bool.and_eq_true, decide_eq_true_eq]
  exact ⟨h1, by omega⟩
theorem bet_none {l : List Sm} {f t : Int} (h : ∀ x ∈ l, ¬ (f ≤ x.1 ∧ x.1 ≤ t)) : Smp.between l f t = [] := by
  unfold Smp.between
  refine List.filter_eq_nil_iff.2 fun x hx => ?_
  simp only [Smp.inT, Bool.and_eq_true, decide_eq_true_eq]
  exact h x hx
theorem bet_cons_in {a : Sm} {l : List Sm} {f t : Int} (h1 : f ≤ a.1) (h2 : a.1 ≤ t) : Smp.between (a :: l) f t = a :: Smp.between l f t := by
  unfold Smp.between
  rw [List.filter_cons, if_pos (by simp [Smp.inT, h1, h2])]
theorem bet_cons_out {a : Sm} {l : List Sm} {f t : Int} (h : ¬ (f ≤ a.1 ∧ a.1 ≤ t)) : Smp.between (a :: l) f t = Smp.between l f t := by
  unfold Smp.between
  rw [List.filter_cons, if_neg (by simpa [Smp.inT] using h)]
theorem bet_cut : ∀ (l : List Sm) (m : Int), Smp.riseB l = true → (∀ x ∈ l, Smp.Ok x) → Smp.between l 0 (m - 1) ++ Smp.between l m 18446744073709551615 = l
  | [], _, _, _ => rfl
  | a :: r, m, h, ho => by
    obtain ⟨a1, a2, _, _⟩ := ho a (List.mem_cons_self ..)
    have ho' := fun y hy => ho y (List.mem_cons_of_mem _ hy)
    by_cases hm : m ≤ a.1
    · have hh := rise_head r a h
      rw [bet_none (l := a :: r) (f := 0) (fun x hx => ?_), List.nil_append, bet_cons_in hm (by omega)]
      · have : Smp.between r m 18446744073709551615 = r := by
          unfold Smp.between
          refine List.filter_eq_self.2 fun x hx => ?_
          have h1 := hh x hx
          obtain ⟨_, h2, _, _⟩ := ho' x hx
          simp only [Smp.inT, Bool.and_eq_true, decide_eq_true_eq]
          omega
        rw [this]
      · rcases List.mem_cons.1 hx with rfl | hx
        · omega
        · have := hh x hx; omega
    · rw [bet_cons_in a1 (by omega), bet_cons_out (by omega), List.cons_append, bet_cut r m (rise_tail h) ho']
theorem bet_one : ∀ (l : List Sm) (m : Int), Smp.riseB l = true → (Smp.between l m m).length ≤ 1
  | [], _, _ => Nat.zero_le _
  | a :: r, m, h => by
    by_cases hm : a.1 = m
    · have hh := rise_head r a h
      rw [bet_cons_in (by omega) (by omega), bet_none (fun x hx => by have := hh x hx; omega)]
      exact Nat.le_refl _
    · rw [bet_cons_out (by omega)]
      exact bet_one r m (rise_tail h)
theorem bet_back (l : List Sm) (m : Int) : Smp.between l m (m - 1) = [] := bet_none fun x _ => by omega

end Go.Proofs.Ytbjcphefaciihaa
