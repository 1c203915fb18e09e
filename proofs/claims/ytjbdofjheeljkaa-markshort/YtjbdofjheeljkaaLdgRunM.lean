/-
  Chapter 10, plain: rows of acts. No program here.
-/
import Derived.Test.YtjbdofjheeljkaaPlain
import Derived.Test.YtjbdofjheeljkaaLdgActsW
import Derived.Test.YtjbdofjheeljkaaLdgLawW
namespace Go.Proofs.Ytjbdofjheeljkaa.Ldg
open Go.Proofs.Ytjbdofjheeljkaa

theorem act_next {R : Rl} {k : Nat} {n : ByteArray} {s kd : Nat} (hk : ¬ k < 4) : (R.act k n s kd).next = R.next := by
  unfold Rl.act
  split
  · rename_i hc
    unfold Rl.does at hc ⊢
    rw [if_neg hk] at hc ⊢
    split
    · rename_i h2; rw [if_pos h2] at hc; exact join_next hc
    · rename_i h2; rw [if_neg h2] at hc
      split
      · rename_i h3; rw [if_pos h3] at hc; exact leave_next hc
      · rename_i h3; rw [if_neg h3] at hc
        split
        · rename_i h4; rw [if_pos h4] at hc; exact done_next hc
        · rename_i h4; rw [if_neg h4] at hc; exact evict_next hc
  · rfl
theorem first_low {d : Rd} {first next : Nat} (h : d.Ok first next) (hf : first ≤ next) : first ≤ d.low := by
  have he := h.ends
  have hl := low_ge d
  by_cases hlt : d.low < next
  · exact h.pend _ (lowR_pend _ _ (by have : lowR d.since d.all = d.low := rfl; omega))
  · omega
theorem above_nums {R : Rl} (h : R.Ok) {d : De} (hd : d ∈ R.abs.dests) {x : Nat} (hx : x ∈ d.above) : R.first < x ∧ x < R.next := by
  obtain ⟨r, hr, rfl⟩ := List.mem_map.1 hd
  have ho := h.each r hr
  have h1 := first_low ho h.fn
  have h2 := above_mem (d := r) hx
  have h3 := ho.ends
  omega
/-- What is done above, behind an act, is neither what was First nor what was Next. -/
theorem act_above {R : Rl} (h : R.Ok) (hn : R.next < 10000000) {k : Nat} {n : ByteArray} {s kd : Nat} {d : De} (hd : d ∈ (R.act k n s kd).abs.dests) {x : Nat} (hx : x ∈ d.above) : x ≠ R.first ∧ x ≠ R.next := by
  have h1 := above_nums (act_ok h hn (k := k) (n := n) (s := s) (kd := kd)).1 hd hx
  have h2 := (act_first (R := R) (k := k) (n := n) (s := s) (kd := kd)).1
  refine ⟨by omega, ?_⟩
  by_cases hk : k < 4
  · have e : R.act k n s kd = R.add := by unfold Rl.act Rl.does; rw [if_pos hk]; rfl
    rw [e, add_abs] at hd
    have h3 := (above_nums h hd hx).2
    omega
  · rw [act_next hk] at h1; omega

/-- An act of the statements. -/
def actL (R : Rl) (x : La) : Rl := R.act (pk x.op 11) (nameAt (pk x.nm 6)) (Go.IntKind.u64.wrap x.sq).toNat (kindOf (pk x.kd 8))
def runL (l : List La) : Rl := l.foldl actL ⟨1, 1, []⟩
theorem runL_take {l : List La} {j : Nat} (h : j < l.length) : runL (l.take (j + 1)) = actL (runL (l.take j)) l[j] := by
  unfold runL
  rw [List.take_succ_eq_append_getElem h, List.foldl_append]
  rfl
theorem runL_more (l : List La) (x : La) : runL (l ++ [x]) = actL (runL l) x := by
  unfold runL
  rw [List.foldl_append]
  rfl
theorem runL_ok : ∀ (n : Nat) (l : List La), l.length = n → n ≤ 1000000 → (runL l).Ok ∧ (runL l).next ≤ 1 + n
  | 0, l, h, _ => by
    obtain rfl := List.length_eq_zero_iff.1 h
    exact ⟨new_ok, Nat.le_refl _⟩
  | n + 1, l, h, hn => by
    obtain ⟨m, x, rfl⟩ : ∃ m x, l = m ++ [x] := ⟨l.dropLast, l.getLast (by intro e; simp [e] at h), (List.dropLast_concat_getLast _).symm⟩
    have hm : m.length = n := by simpa using h
    obtain ⟨h1, h2⟩ := runL_ok n m hm (by omega)
    rw [runL_more]
    have h3 := act_ok h1 (by omega) (k := pk x.op 11) (n := nameAt (pk x.nm 6)) (s := (Go.IntKind.u64.wrap x.sq).toNat) (kd := kindOf (pk x.kd 8))
    exact ⟨h3.1, by have := h3.2; unfold actL; omega⟩
theorem run_ok {l : List La} (h : l.length ≤ 1000000) : (runL l).Ok ∧ (runL l).next ≤ 1 + l.length := runL_ok _ l rfl h
end Go.Proofs.Ytjbdofjheeljkaa.Ldg
