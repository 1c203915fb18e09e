/-
  Chapter 11, plain: rows of acts. No program here.
-/
import Derived.Test.YtjbdofjheeljkaaLdgRunM
import Derived.Test.YtjbdofjheeljkaaMkActsW
import Derived.Test.YtjbdofjheeljkaaLdgDoesW
namespace Go.Proofs.Ytjbdofjheeljkaa.Mrk
open Go.RowKit
open Ldg (De Le Rd Rl)

def nm4 (i : Nat) : ByteArray := if i = 0 then ⟨#[97]⟩ else if i = 1 then ⟨#[98]⟩ else if i = 2 then ⟨#[99]⟩ else ⟨#[122, 111, 110, 101]⟩
theorem nm4_size (i : Nat) : (nm4 i).size ≤ 4 := by
  unfold nm4
  split
  · decide
  · split
    · decide
    · split <;> decide
def kd2 (i : Nat) : Nat := if i = 0 then 97 else 114
def seqOf (R : Rl) (k : Nat) (sq : Int) : Nat := if k < 10 then 1 + pk sq 20 else R.first + pk sq 3
/-- An act of chapter 11's statements. -/
def actM (R : Rl) (x : Ma) : Rl := R.act (pk x.op 11) (nm4 (pk x.nm 4)) (seqOf R (pk x.op 11) x.sq) (kd2 (pk x.sq 2))
def runM (l : List Ma) : Rl := l.foldl actM ⟨1, 1, []⟩
theorem runM_take {l : List Ma} {j : Nat} (h : j < l.length) : runM (l.take (j + 1)) = actM (runM (l.take j)) l[j] := by
  unfold runM
  rw [List.take_succ_eq_append_getElem h, List.foldl_append]
  rfl
theorem runM_more (l : List Ma) (x : Ma) : runM (l ++ [x]) = actM (runM l) x := by
  unfold runM
  rw [List.foldl_append]
  rfl
theorem runM_ok0 : ∀ (n : Nat) (l : List Ma), l.length = n → n ≤ 1000000 → (runM l).Ok ∧ (runM l).next ≤ 1 + n
  | 0, l, h, _ => by
    obtain rfl := List.length_eq_zero_iff.1 h
    exact ⟨Ldg.new_ok, Nat.le_refl _⟩
  | n + 1, l, h, hn => by
    obtain ⟨m, x, rfl⟩ : ∃ m x, l = m ++ [x] := ⟨l.dropLast, l.getLast (by intro e; simp [e] at h), (List.dropLast_concat_getLast _).symm⟩
    have hm : m.length = n := by simpa using h
    obtain ⟨h1, h2⟩ := runM_ok0 n m hm (by omega)
    rw [runM_more]
    have h3 := Ldg.act_ok h1 (by omega) (k := pk x.op 11) (n := nm4 (pk x.nm 4)) (s := seqOf (runM m) (pk x.op 11) x.sq) (kd := kd2 (pk x.sq 2))
    exact ⟨h3.1, by have := h3.2; unfold actM; omega⟩
theorem runM_ok {l : List Ma} (h : l.length ≤ 1000000) : (runM l).Ok ∧ (runM l).next ≤ 1 + l.length := runM_ok0 _ l rfl h
theorem made_away {R A : Rl} {Q : Rl × Nat} (h : Ldg.Made R A Q) (hab : ∀ d ∈ A.abs.dests, ∀ x ∈ d.above, x ≠ R.first ∧ x ≠ R.next) : ∀ d ∈ Q.1.abs.dests, ∀ x ∈ d.above, x ≠ R.first ∧ x ≠ R.next := by
  by_cases e : Q.2 = 0
  · rw [h.one e] at hab; exact hab
  · rw [h.bad e]
    intro d hd
    simp [Ldg.Rl.none, Ldg.Rl.abs] at hd
end Go.Proofs.Ytjbdofjheeljkaa.Mrk
