/-
  Labels that are right but for one pair: what is told, plain.
-/
import Derived.Test.YtlhajjplkblllaaLabelsOfW
namespace Go.Proofs.Ytlhajjplkblllaa
open Go.RowKit
open Lab (Pr)

theorem chk_split : ∀ (a pre r : List Pr), Lab.chk pre a = 0 → Lab.chk pre (a ++ r) = Lab.chk (pre ++ a) r
  | [], pre, r, _ => by simp
  | x :: a, pre, r, h => by
    unfold Lab.chk at h
    split at h
    · rename_i q
      simp only [List.cons_append]
      rw [Lab.chk, if_pos q, chk_split a (pre ++ [x]) r h]
      simp
    · rename_i q; exact absurd h q
theorem chk_right {l : List Pr} (h : Lab.Right l) (k : Nat) : Lab.chk [] (l.take k) = 0 := by
  have := (Lab.chk_zero l []).2 ⟨h.2.1, h.2.2, fun q hq => by simp at hq⟩
  have h2 := (Lab.chk_zero l []).1 this
  refine (Lab.chk_zero _ []).2 ⟨fun p hp => h2.1 p (List.mem_of_mem_take hp), h2.2.1.sublist (List.take_sublist ..), fun q hq => by simp at hq⟩
theorem check_at {l : List Pr} (h : Lab.Right l) {k : Nat} (hk : k < l.length) {x : Pr} (hx : Lab.chkAt (l.take k) x ≠ 0) : Lab.check (l.set k x) = Lab.chkAt (l.take k) x := by
  have h8 := h.1
  unfold Lab.check
  rw [if_neg (by simp; omega), List.set_eq_take_append_cons_drop, if_pos hk, chk_split _ _ _ (chk_right h k), Lab.chk]
  simp only [List.nil_append]
  rw [if_neg hx]
theorem check_name {l : List Pr} (h : Lab.Right l) {k : Nat} (hk : k < l.length) {n v : ByteArray} (hn : Lab.isName n = false) : Lab.check (l.set k (n, v)) = 3 := by
  have e : Lab.chkAt (l.take k) (n, v) = 3 := by unfold Lab.chkAt; rw [if_pos hn]
  rw [check_at h hk (by rw [e]; decide), e]
theorem check_long {l : List Pr} (h : Lab.Right l) {k : Nat} (hk : k < l.length) {v : ByteArray} (hv : 40 < v.size) : Lab.check (l.set k ((l[k]).1, v)) = 7 := by
  have hn := (h.2.1 l[k] (List.getElem_mem hk)).1
  have e : Lab.chkAt (l.take k) ((l[k]).1, v) = 7 := by unfold Lab.chkAt; rw [if_neg (by simp [hn]), if_pos hv]
  rw [check_at h hk (by rw [e]; decide), e]
def twice : ByteArray := ⟨#[116, 119, 105, 99, 101]⟩
theorem twice_name : Lab.isName twice = true := by decide +kernel
theorem twice_ne : ∀ i, i < 8 → nm8 i ≠ twice := by
  intro i hi
  match i, hi with
  | 0, _ => decide +kernel
  | 1, _ => decide +kernel
  | 2, _ => decide +kernel
  | 3, _ => decide +kernel
  | 4, _ => decide +kernel
  | 5, _ => decide +kernel
  | 6, _ => decide +kernel
  | 7, _ => decide +kernel
theorem check_twice {l : List Pr} (h : Lab.Right l) (h7 : l.length < 8) (hne : ∀ p ∈ l, p.1 ≠ twice) {k : Nat} (hk : k < l.length) {v u : ByteArray} (hv : v.size ≤ 40) (hu : u.size ≤ 40) : Lab.check (l.set k (twice, v) ++ [(twice, u)]) = 4 := by
  have hr : Lab.Right (l.set k (twice, v)) := by
    refine ⟨by simp; omega, fun p hp => ?_, ?_⟩
    · rcases List.mem_or_eq_of_mem_set hp with hp | rfl
      · exact h.2.1 p hp
      · exact ⟨twice_name, hv⟩
    · rw [List.set_eq_take_append_cons_drop, if_pos hk]
      have hd := h.2.2
      rw [← List.take_append_drop k l, List.drop_eq_getElem_cons hk] at hd
      obtain ⟨d1, d2, d3⟩ := List.pairwise_append.1 hd
      obtain ⟨d4, d5⟩ := List.pairwise_cons.1 d2
      refine List.pairwise_append.2 ⟨d1, List.pairwise_cons.2 ⟨fun q hq => (hne q (List.mem_of_mem_drop hq)).symm, d5⟩, fun a ha b hb => ?_⟩
      rcases List.mem_cons.1 hb with rfl | hb
      · exact hne a (List.mem_of_mem_take ha)
      · exact d3 a ha b (List.mem_cons_of_mem _ hb)
  unfold Lab.check
  have h0 := chk_right hr (l.set k (twice, v)).length
  rw [List.take_of_length_le (Nat.le_refl _)] at h0
  rw [if_neg (by simp; omega), chk_split _ _ _ h0, Lab.chk]
  have hm : (twice, v) ∈ l.set k (twice, v) := by
    refine List.mem_iff_getElem.2 ⟨k, by simpa using hk, by simp⟩
  have e : Lab.chkAt ([] ++ l.set k (twice, v)) (twice, u) = 4 := by
    unfold Lab.chkAt
    rw [if_neg (by simp [twice_name]), if_neg (by simp; omega), if_pos (Lab.has_iff.2 ⟨(twice, v), by simpa using hm, rfl⟩)]
  rw [if_neg (by rw [e]; decide), e]
theorem labs_ne_twice (zs : List Int) : ∀ p ∈ labs zs, p.1 ≠ twice := fun p hp => by
  obtain ⟨i, hi, e⟩ := labs_names zs p hp
  rw [e]; exact twice_ne i hi
def bad5 (i : Nat) : ByteArray := [(⟨#[]⟩ : ByteArray), ⟨#[49, 97]⟩, ⟨#[65]⟩, ⟨#[97, 32, 98]⟩, ⟨#[97, 97, 97, 97, 97, 97, 97, 97, 97, 97, 97, 97, 97, 97, 97, 97, 97, 97, 97, 97, 97]⟩].getD i ⟨#[]⟩
theorem bad5_no : ∀ i, i < 5 → Lab.isName (bad5 i) = false := by
  intro i hi
  match i, hi with
  | 0, _ => decide +kernel
  | 1, _ => decide +kernel
  | 2, _ => decide +kernel
  | 3, _ => decide +kernel
  | 4, _ => decide +kernel
theorem bad5_size : ∀ i, i < 5 → (bad5 i).size ≤ 100 := by
  intro i hi
  match i, hi with
  | 0, _ => decide +kernel
  | 1, _ => decide +kernel
  | 2, _ => decide +kernel
  | 3, _ => decide +kernel
  | 4, _ => decide +kernel

end Go.Proofs.Ytlhajjplkblllaa
