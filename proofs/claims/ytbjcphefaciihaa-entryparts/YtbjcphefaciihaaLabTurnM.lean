/-
  Labels that are turned round: the same pairs.
-/
import Derived.Test.YtbjcphefaciihaaLabelsOfW
namespace Go.Proofs.Ytbjcphefaciihaa
open Go.RowKit
open Lab (Pr)

def rot (l : List Pr) (r : Nat) : List Pr := l.drop r ++ l.take r
theorem rot_perm (l : List Pr) (r : Nat) : l.Perm (rot l r) := by
  have h : (l.take r ++ l.drop r).Perm (rot l r) := List.perm_append_comm
  rwa [List.take_append_drop] at h
theorem rot_len (l : List Pr) (r : Nat) : (rot l r).length = l.length := (rot_perm l r).length_eq.symm
theorem rot_at {l : List Pr} {r k : Nat} (hr : r < l.length) (hk : k < l.length) (h : k < (rot l r).length) : (rot l r)[k] = l[(k + r) % l.length]'(Nat.mod_lt _ (by omega)) := by
  have h2 : k < (l.drop r ++ l.take r).length := h
  show (l.drop r ++ l.take r)[k]'h2 = _
  by_cases c : k < l.length - r
  · rw [List.getElem_append_left (by simpa using c), List.getElem_drop]
    congr 1
    rw [Nat.mod_eq_of_lt (by omega)]; omega
  · rw [List.getElem_append_right (by simp; omega), List.getElem_take]
    congr 1
    have : (k + r) % l.length = k + r - l.length := by
      rw [Nat.mod_eq_sub_mod (by omega), Nat.mod_eq_of_lt (by omega)]
    rw [this]; simp; omega
theorem rot_right {l : List Pr} (h : Lab.Right l) (r : Nat) : Lab.Right (rot l r) := Lab.perm_right (rot_perm l r) h
theorem rot_next {l : List Pr} {r k : Nat} {z : Pr} (hr : r < l.length) (hk : k < l.length) (h : k < (rot l r).length) {j : Nat} (hj : j = (k + r) % l.length) (hjl : j < l.length) (hz : l[j] = z) : (rot l r).take (k + 1) = (rot l r).take k ++ [z] := by
  subst hj
  rw [List.take_succ_eq_append_getElem h, rot_at hr hk h, hz]
theorem rot_take (l : List Pr) (r : Nat) {k : Nat} (hk : k ≤ l.length) : ((rot l r).take k).length = k := by
  have := rot_len l r
  simp; omega
theorem rot_mod {k r n j : Nat} (hj : j = (k + r) % n) : ((k : Int) + (r : Int)) % (n : Int) = (j : Int) := by
  rw [hj]; simp

theorem value_as (a : Option Addr) (cap k : Nat) (ps : List Pr) (n V : ByteArray) (hk : k = ps.length) (hV : Lab.value ps n = V) (hl : ps.length ≤ 9223372036854775807) (w : World) (hp : PairsAt w a ps) :
    Calls Try.prog 70 #[.slice a k cap, .string n] w fun e w' => e = .returned (.string V) ∧ Below w.heap.size w w' := by
  subst hk hV; exact value_any a cap ps n w hp hl

end Go.Proofs.Ytbjcphefaciihaa
