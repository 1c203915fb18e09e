/-
  Chapter 7, plain: what is left, one by one. No program here.
-/
import Derived.Test.YtleomppgkikhnaaGreatFirsts
namespace Go.Proofs.YtleomppgkikhnaaGreat.Dsk
open Go.Proofs.YtleomppgkikhnaaGreat

def pkRow (d : Dk) (ks : List Int) (r : Row) (n : Nat) : List (ByteArray × By) := (r.filter (fun p => decide (p.2 = n))).map (fun p => (p.1, momAt d ks n))
def pkN (d : Dk) (k : Int) (ks : List Int) (n : Nat) : List (ByteArray × By) := (List.range n).flatMap (pkRow d ks (rowAt d k))
def pkI (d : Dk) (k : Int) (ks : List Int) (n i : Nat) : List (ByteArray × By) := pkN d k ks n ++ pkRow d ks ((rowAt d k).take i) n
theorem pkN_all (d : Dk) (k : Int) (ks : List Int) : pkN d k ks d.files.length = picks d k ks := rfl
theorem pkN_zero (d : Dk) (k : Int) (ks : List Int) : pkN d k ks 0 = [] := rfl
theorem pkI_zero (d : Dk) (k : Int) (ks : List Int) (n : Nat) : pkI d k ks n 0 = pkN d k ks n := by simp [pkI, pkRow]
theorem pkI_last (d : Dk) (k : Int) (ks : List Int) (n : Nat) : pkI d k ks n (rowAt d k).length = pkN d k ks (n + 1) := by
  unfold pkI pkN
  rw [List.take_length, List.range_succ, List.flatMap_append]
  simp
theorem pkI_no {d : Dk} {k : Int} {ks : List Int} {n i : Nat} (h : i < (rowAt d k).length) (hn : (rowAt d k)[i].2 ≠ n) : pkI d k ks n (i + 1) = pkI d k ks n i := by
  unfold pkI pkRow
  rw [List.take_succ_eq_append_getElem h, List.filter_append]
  simp [hn]
theorem pkI_yes {d : Dk} {k : Int} {ks : List Int} {n i : Nat} (h : i < (rowAt d k).length) (hn : (rowAt d k)[i].2 = n) : pkI d k ks n (i + 1) = pkI d k ks n i ++ [((rowAt d k)[i].1, momAt d ks n)] := by
  unfold pkI pkRow
  rw [List.take_succ_eq_append_getElem h, List.filter_append, List.map_append, List.append_assoc]
  simp [hn]
theorem filter_split (r : Row) (n : Nat) : (r.filter (fun p => decide (p.2 < n + 1))).length = (r.filter (fun p => decide (p.2 < n))).length + (r.filter (fun p => decide (p.2 = n))).length := by
  induction r with
  | nil => rfl
  | cons p r ih =>
    by_cases h1 : p.2 < n
    · rw [List.filter_cons_of_pos (by simp; omega), List.filter_cons_of_pos (by simpa using h1), List.filter_cons_of_neg (by simp; omega)]
      simp only [List.length_cons]; omega
    · by_cases h2 : p.2 = n
      · rw [List.filter_cons_of_pos (by simp; omega), List.filter_cons_of_neg (by simpa using h1), List.filter_cons_of_pos (by simpa using h2)]
        simp only [List.length_cons]; omega
      · rw [List.filter_cons_of_neg (by simp; omega), List.filter_cons_of_neg (by simpa using h1), List.filter_cons_of_neg (by simpa using h2)]
        exact ih
theorem pkN_len (d : Dk) (k : Int) (ks : List Int) : ∀ n, (pkN d k ks n).length = ((rowAt d k).filter (fun p => decide (p.2 < n))).length
  | 0 => by rw [pkN_zero, List.filter_eq_nil_iff.2 (by simp)]; rfl
  | n + 1 => by
    have := pkN_len d k ks n
    unfold pkN at this ⊢
    rw [List.range_succ, List.flatMap_append, List.length_append, filter_split, this]
    simp [pkRow]
theorem pkI_len (d : Dk) (k : Int) (ks : List Int) (n i : Nat) : (pkI d k ks n i).length ≤ 2 * (rowAt d k).length := by
  unfold pkI
  rw [List.length_append, pkN_len]
  unfold pkRow
  rw [List.length_map]
  have h1 := List.length_filter_le (fun p : ByteArray × Nat => decide (p.2 < n)) (rowAt d k)
  have h2 := List.length_filter_le (fun p : ByteArray × Nat => decide (p.2 = n)) ((rowAt d k).take i)
  have h3 : ((rowAt d k).take i).length ≤ (rowAt d k).length := by rw [List.length_take]; omega
  omega
theorem numbered_app : ∀ (i : Nat) (l : List (ByteArray × By)) (x : ByteArray × By), numbered i (l ++ [x]) = numbered i l ++ [(x.1, i + l.length)]
  | i, [], x => by simp [numbered]
  | i, p :: r, x => by
    simp only [List.cons_append, numbered]
    rw [numbered_app (i + 1) r x]
    simp only [List.length_cons]
    rw [show i + 1 + r.length = i + (r.length + 1) by omega]
theorem numbered_length : ∀ (i : Nat) (l : List (ByteArray × By)), (numbered i l).length = l.length
  | _, [] => rfl
  | i, _ :: r => by simp [numbered, numbered_length (i + 1) r]
/-- The disk that is being made. -/
def half (d : Dk) (ps : List (ByteArray × By)) : Dk := ⟨d.room, ps.map (fun p => [p.2]), [[]], 0, 0, -1⟩
theorem half_all (d : Dk) (k : Int) (ks : List Int) : { half d (picks d k ks) with dirs := [numbered 0 (picks d k ks)] } = crash k ks d := rfl
theorem half_app (d : Dk) (ps : List (ByteArray × By)) (x : ByteArray × By) : half d (ps ++ [x]) = { half d ps with files := (half d ps).files ++ [[x.2]] } := by simp [half]

end Go.Proofs.YtleomppgkikhnaaGreat.Dsk
