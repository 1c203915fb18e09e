/-
  Chapter 8's acts, plain: how many names there may be behind them. No program here.
-/
import Derived.Test.YtleomppgkikhnaaGreatSwpM
namespace Go.Proofs.YtleomppgkikhnaaGreat.Dsk
open Go.Proofs.YtleomppgkikhnaaGreat

/-- So many names more, at most. -/
def Grows (f : Dk → Dk × Int) (k : Nat) : Prop := ∀ d, (dir (f d).1).length ≤ (dir d).length + k
theorem dir_of (room : Nat) (fs : List (List By)) (l : List Row) (r : Row) (o k : Nat) (x : Int) : dir ⟨room, fs, l ++ [r], o, k, x⟩ = r := by simp [dir, List.getLastD_eq_getLast?]
theorem without_len (r : Row) (n : ByteArray) : (without r n).length ≤ r.length := List.length_filter_le _ _
theorem grows_act {f : Dk → Dk × Int} {k : Nat} (h : Grows f k) : Grows (fun d => act d f) k := fun d => by
  show (dir (act d f).1).length ≤ _
  unfold act
  split
  · exact Nat.le_add_right _ _
  · exact h (on d)
theorem grows_create (n : ByteArray) : Grows (create n) 1 := grows_act fun d => by
  unfold createB
  split
  · exact Nat.le_add_right _ _
  · split
    · exact Nat.le_add_right _ _
    · show (dir { ({ d with files := d.files ++ [[[]]] } : Dk) with dirs := d.dirs ++ [without (dir d) n ++ [(n, d.files.length)]] }).length ≤ _
      rw [dir_of, List.length_append]
      have := without_len (dir d) n
      simp only [List.length_cons, List.length_nil]
      omega
theorem grows_append (n : ByteArray) (s : By) : Grows (append n s) 0 := grows_act fun d => by
  unfold appendB
  split
  · exact Nat.le_refl _
  · split
    · exact Nat.le_refl _
    · split
      · exact Nat.le_refl _
      · exact Nat.le_refl _
theorem grows_sync (n : ByteArray) : Grows (sync n) 0 := grows_act fun d => by
  unfold syncB
  split
  · exact Nat.le_refl _
  · split
    · exact Nat.le_refl _
    · exact Nat.le_refl _
theorem grows_rename (n m : ByteArray) : Grows (rename n m) 1 := grows_act fun d => by
  unfold renameB
  split
  · exact Nat.le_add_right _ _
  · split
    · exact Nat.le_add_right _ _
    · rw [dir_of, List.length_append]
      have h1 := without_len (without (dir d) n) m
      have h2 := without_len (dir d) n
      simp only [List.length_cons, List.length_nil]
      omega
theorem grows_remove (n : ByteArray) : Grows (remove n) 0 := grows_act fun d => by
  unfold removeB
  split
  · exact Nat.le_refl _
  · rw [dir_of]
    have := without_len (dir d) n
    omega
theorem grows_syncDir : Grows syncDir 0 := grows_act fun d => by
  exact Nat.le_of_eq (congrArg List.length (dir_of d.room d.files [] (dir d) d.ops d.fail d.left))
theorem grows_clear (o : ByteArray) : Grows (clearA o) 0 := grows_remove o
theorem grows_orRem {f : Dk → Dk × Int} (o : ByteArray) (h : Grows f 0) : Grows (fun d => orRem o (f d)) 0 := fun d => by
  show (dir (orRem o (f d)).1).length ≤ _
  unfold orRem
  split
  · exact h d
  · exact Nat.le_trans (grows_remove o _) (h d)
theorem grows_inOrd {f : Dk → Dk × Int} {l : List (Dk → Dk × Int)} {a b : Nat} (h : Grows f a) (k : Grows (inOrd l) b) : Grows (inOrd (f :: l)) (a + b) := fun d => by
  unfold inOrd
  have h1 := h d
  split
  · have := k (f d).1
    omega
  · omega
theorem grows_nil : Grows (inOrd []) 0 := fun _ => Nat.le_refl _
theorem grows_write (n : ByteArray) (s : By) : Grows (write n s) 2 := fun d => by
  unfold write
  split
  · exact grows_inOrd (b := 2) (grows_clear _) (grows_inOrd (b := 1) (grows_create _) (grows_inOrd (b := 1) (grows_orRem _ (grows_append _ _)) (grows_inOrd (b := 1) (grows_orRem _ (grows_sync _)) (grows_inOrd (b := 0) (grows_rename _ _) (grows_inOrd grows_syncDir grows_nil))))) d
  · exact Nat.le_add_right _ _
theorem grows_rems : ∀ (l : List ByteArray), Grows (inOrd (l.map remove ++ [syncDir])) 0
  | [] => grows_inOrd grows_syncDir grows_nil
  | n :: r => grows_inOrd (grows_remove n) (grows_rems r)
theorem grows_clean : Grows clean 0 := fun d => grows_rems _ d
/-- An act, by its number. -/
def does8 (k : Nat) (n : ByteArray) (s : By) (N : Int) (d : Dk) : Dk × Int :=
  if k < 5 then write n s d else if k = 5 then clean d else if k = 6 then create n d else if k = 7 then append n s d else if k = 8 then (setFail (N.tmod 5) d, 0) else (setStop (N.tmod 40) d, 0)
theorem grows_does8 (k : Nat) (n : ByteArray) (s : By) (N : Int) : Grows (does8 k n s N) 2 := fun d => by
  unfold does8
  split
  · exact grows_write n s d
  · split
    · exact Nat.le_trans (grows_clean d) (by omega)
    · split
      · exact Nat.le_trans (grows_create n d) (by omega)
      · split
        · exact Nat.le_trans (grows_append n s d) (by omega)
        · split
          · exact Nat.le_add_right _ _
          · exact Nat.le_add_right _ _

end Go.Proofs.YtleomppgkikhnaaGreat.Dsk
