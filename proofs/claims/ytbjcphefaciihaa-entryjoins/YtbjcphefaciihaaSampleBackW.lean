/-
  The walk of SampleBack.
-/
import Derived.Test.YtbjcphefaciihaaSmpOfW
import Derived.Test.YtbjcphefaciihaaSmpFormW
namespace Go.Proofs.Ytbjcphefaciihaa
open Go.RowKit
open Smp (Sm)

/-- The values are other ones. -/
def revalue : List Sm → List Int → List Sm
  | s :: r, v :: vs => (s.1, v) :: revalue r vs
  | l, _ => l
theorem revalue_nil (l : List Sm) : revalue l [] = l := by cases l <;> rfl
theorem revalue_len : ∀ (l : List Sm) (vs : List Int), (revalue l vs).length = l.length
  | [], _ => by simp [revalue]
  | s :: r, [] => by simp [revalue]
  | s :: r, v :: vs => by simp [revalue, revalue_len r vs]
theorem revalue_rise : ∀ (l : List Sm) (vs : List Int), Smp.riseB (revalue l vs) = Smp.riseB l
  | [], _ => by simp [revalue]
  | s :: r, [] => by simp [revalue]
  | [s], v :: vs => by simp [revalue, Smp.riseB]
  | s :: t :: r, v :: vs => by
    have ih := revalue_rise (t :: r) vs
    cases vs with
    | nil => simp [revalue, Smp.riseB]
    | cons v' vs =>
      simp only [revalue, Smp.riseB] at ih ⊢
      rw [ih]
theorem revalue_ok : ∀ (l : List Sm) (vs : List Int), (∀ x ∈ l, Smp.Ok x) → (∀ v ∈ vs, -9223372036854775808 ≤ v ∧ v ≤ 9223372036854775807) → ∀ x ∈ revalue l vs, Smp.Ok x
  | [], _, _, _, x, h => by simp [revalue] at h
  | s :: r, [], ho, _, x, h => by rw [revalue_nil] at h; exact ho x h
  | s :: r, v :: vs, ho, hv, x, h => by
    rcases List.mem_cons.1 h with rfl | h
    · have h1 := ho s (List.mem_cons_self ..)
      have h2 := hv v (List.mem_cons_self ..)
      exact ⟨h1.1, h1.2.1, h2.1, h2.2⟩
    · exact revalue_ok r vs (fun y hy => ho y (List.mem_cons_of_mem _ hy)) (fun y hy => hv y (List.mem_cons_of_mem _ hy)) x h
theorem revalue_check (l : List Sm) (vs : List Int) : Smp.check (revalue l vs) = Smp.check l := by
  unfold Smp.check; rw [revalue_len, revalue_rise]
/-- One more. -/
theorem revalue_next : ∀ (l : List Sm) (vs : List Int) (k : Nat) (h : k < l.length) (hv : k < vs.length), revalue l (vs.take (k + 1)) = (revalue l (vs.take k)).set k (((revalue l (vs.take k))[k]'(by rw [revalue_len]; exact h)).1, vs[k])
  | s :: r, v :: vs, 0, _, _ => by simp [revalue, revalue_nil]
  | s :: r, v :: vs, k + 1, h, hv => by
    have := revalue_next r vs k (by simpa using h) (by simpa using hv)
    simp only [List.take_succ_cons, revalue, List.set_cons_succ, List.getElem_cons_succ]
    rw [this]
theorem revalue_all {l : List Sm} {vs : List Int} {k : Nat} (h : l.length ≤ k ∨ vs.length ≤ k) : revalue l (vs.take k) = revalue l vs := by
  rcases h with h | h
  · induction l generalizing vs k with
    | nil => simp [revalue]
    | cons s r ih =>
      cases k with
      | zero => simp at h
      | succ k =>
        cases vs with
        | nil => simp
        | cons v vs => simp only [List.take_succ_cons, revalue]; rw [ih (by simpa using h)]
  · rw [List.take_of_length_le h]

theorem takeRes_put {l : List Sm} (h : Smp.check l = 0) (ho : ∀ x ∈ l, Smp.Ok x) (rest : List UInt8) : takeRes (Smp.putS l ++ rest) = (l, rest, 0) := by
  unfold takeRes; rw [Smp.take_putS h ho]
theorem putRes_ok {l : List Sm} (h : Smp.check l = 0) : putRes l = Num.bs (Smp.putS l) := by unfold putRes; rw [if_pos h]
/-- What was put is taken. -/
theorem take_back {l : List Sm} (h : Smp.check l = 0) (ho : ∀ x ∈ l, Smp.Ok x) (rest : ByteArray) (w : World) (hr : rest.size ≤ 1000) :
    Calls Try.prog 33 #[.string (Num.bs (Smp.putS l) ++ rest)] w fun e w' => ∃ b cb, e = .returned (.tuple #[.slice b l.length cb, .string rest, .int .i64 0]) ∧ SmpsAt w' b l ∧ Below w.heap.size w w' := by
  have hl := Smp.putS_len h ho
  have e : (Num.bs (Smp.putS l) ++ rest).data.toList = Smp.putS l ++ rest.data.toList := by simp [Num.bs]
  refine (takeS_any _ w (by rw [ByteArray.size_append, Num.bs_size]; unfold maxLen; omega)).mono fun e' w' ⟨hT, hb⟩ => ?_
  rw [e] at hT
  obtain ⟨b, cb, he, hs⟩ := took_form hT
  rw [takeRes_put h ho] at he hs
  refine ⟨b, cb, ?_, hs, hb⟩
  rw [he, Num.bs_of]


end Go.Proofs.Ytbjcphefaciihaa
