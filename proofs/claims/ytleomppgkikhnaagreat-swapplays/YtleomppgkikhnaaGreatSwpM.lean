/-
  Chapter 8, plain: a file that is replaced as a whole. No program here.
-/
import Derived.Test.YtleomppgkikhnaaGreatDskRenM
namespace Go.Proofs.YtleomppgkikhnaaGreat.Dsk
open Go.Proofs.YtleomppgkikhnaaGreat

def tilde (n : ByteArray) : ByteArray := n ++ ⟨#[126]⟩
def endsT (n : ByteArray) : Bool := decide (n.data.toList.getLast? = some 126)
def maySwap (n : ByteArray) : Bool := isName n && decide (n.size ≤ 23) && !(endsT n)
def inOrd : List (Dk → Dk × Int) → Dk → Dk × Int
  | [], D => (D, 0)
  | f :: r, D => if (f D).2 = 0 then inOrd r (f D).1 else f D
def clearA (o : ByteArray) (D : Dk) : Dk × Int := ((remove o D).1, if (remove o D).2 = 5 then 0 else (remove o D).2)
def orRem (o : ByteArray) (x : Dk × Int) : Dk × Int := if x.2 = 0 then x else ((remove o x.1).1, x.2)
def fillA (o : ByteArray) (s : By) (D : Dk) : Dk × Int := orRem o (append o s D)
def syncA (o : ByteArray) (D : Dk) : Dk × Int := orRem o (sync o D)
def writeL (n : ByteArray) (s : By) : List (Dk → Dk × Int) := [clearA (tilde n), create (tilde n), fillA (tilde n) s, syncA (tilde n), rename (tilde n) n, syncDir]
def write (n : ByteArray) (s : By) (D : Dk) : Dk × Int := if maySwap n = true then inOrd (writeL n s) D else (D, 3)
def cleanL (D : Dk) : List (Dk → Dk × Int) := ((list D).filter endsT).map remove ++ [syncDir]
def clean (D : Dk) : Dk × Int := inOrd (cleanL D) D

theorem tilde_list (n : ByteArray) : (tilde n).data.toList = n.data.toList ++ [126] := by
  unfold tilde
  rw [ByteArray.data_append]
  simp
theorem tilde_size (n : ByteArray) : (tilde n).size = n.size + 1 := by
  unfold tilde
  rw [ByteArray.size_append]
  rfl
theorem tilde_ends (n : ByteArray) : endsT (tilde n) = true := by
  unfold endsT
  rw [tilde_list]
  simp
theorem maySwap_iff {n : ByteArray} : maySwap n = true ↔ isName n = true ∧ n.size ≤ 23 ∧ endsT n = false := by
  unfold maySwap
  simp [and_assoc]
theorem tilde_ne {n m : ByteArray} (h : endsT n = false) : n ≠ tilde m := fun e => by
  have := tilde_ends m
  rw [← e, h] at this
  cases this
theorem tilde_name {n : ByteArray} (h : maySwap n = true) : isName (tilde n) = true := by
  obtain ⟨h1, h2, _⟩ := maySwap_iff.1 h
  unfold isName at h1 ⊢
  rw [decide_eq_true_eq] at h1 ⊢
  refine ⟨fun b hb => ?_, by rw [tilde_size]; omega, by rw [tilde_size]; omega⟩
  rw [tilde_list] at hb
  rcases List.mem_append.1 hb with hb | hb
  · exact h1.1 b hb
  · simp at hb; subst hb; decide

/-! ## A disk written out; power and operations are left open -/
structure Wt (d : Dk) (room : Nat) (fs : List (List By)) (ds : List Row) (k : Nat) : Prop where
  room : d.room = room
  files : d.files = fs
  dirs : d.dirs = ds
  fail : d.fail = k
def U (fs : List (List By)) (r : Row) : Nat := (r.map (fun p => ((fs.getD p.2 []).getLastD []).length)).sum
/-- One operation more. -/
def Went (d e : Dk) : Prop := e.ops = d.ops + 1 ∧ (d.left = -1 → e.left = -1)
theorem act_two (d : Dk) (f : Dk → Dk × Int) : (d.left = 0 ∧ act d f = (d, 11)) ∨ (d.left ≠ 0 ∧ act d f = f (on d)) := by
  unfold act
  by_cases h : d.left = 0
  · exact .inl ⟨h, if_pos h⟩
  · exact .inr ⟨h, if_neg h⟩
theorem went_on (d : Dk) : Went d (on d) := ⟨rfl, fun h => by unfold on; simp only; rw [if_neg (by omega)]; exact h⟩
theorem Wt.on {d : Dk} {room : Nat} {fs : List (List By)} {ds : List Row} {k : Nat} (h : Wt d room fs ds k) : Wt (on d) room fs ds k := ⟨h.room, h.files, h.dirs, h.fail⟩
theorem Wt.dir {d : Dk} {room : Nat} {fs : List (List By)} {ds : List Row} {r : Row} {k : Nat} (h : Wt d room fs (ds ++ [r]) k) : dir d = r := by
  unfold Dsk.dir
  rw [h.dirs]; simp [List.getLastD_eq_getLast?]
theorem Wt.used {d : Dk} {room : Nat} {fs : List (List By)} {ds : List Row} {r : Row} {k : Nat} (h : Wt d room fs (ds ++ [r]) k) : Dsk.used d = U fs r := by
  unfold Dsk.used U
  rw [h.dir]
  refine congrArg List.sum (List.map_congr_left fun p _ => ?_)
  unfold now hist
  rw [h.files]
theorem without_none {r : Row} {o : ByteArray} (h : find r o = none) : without r o = r :=
  List.filter_eq_self.2 (fun p hp => by simpa using find_none.1 h p hp)
theorem find_without_self (r : Row) (o : ByteArray) : find (without r o) o = none := find_none.2 (fun _ hp => without_ne hp)
theorem without_snoc {r : Row} {o : ByteArray} (h : find r o = none) (i : Nat) : without (r ++ [(o, i)]) o = r := by
  have e : without (r ++ [(o, i)]) o = without r o ++ without [(o, i)] o := by unfold without; exact List.filter_append _ _
  rw [e, without_none h]
  simp [without]
theorem find_wo {r : Row} {o m : ByteArray} (h : m ≠ o) : find (without r o) m = find r m := by rw [find_without, if_neg h]
theorem find_app1 {r : Row} {o m : ByteArray} {i : Nat} (h : m ≠ o) : find (r ++ [(o, i)]) m = find r m := by
  rw [find_app]
  have : find [(o, i)] m = none := by unfold find; rw [if_neg (fun k => h k.symm)]; rfl
  rw [this]
  simp
theorem find_snoc_self {r : Row} {o : ByteArray} {i : Nat} (h : find r o = none) : find (r ++ [(o, i)]) o = some i := by
  rw [find_app, h]
  simp [find]

section
variable {d : Dk} {room : Nat} {fs : List (List By)} {ds : List Row} {r : Row} {k : Nat}
theorem Wt.clear (h : Wt d room fs (ds ++ [r]) k) (o : ByteArray) :
    (d.left = 0 ∧ clearA o d = (d, 11)) ∨ ((clearA o d).2 = 0 ∧ Went d (clearA o d).1 ∧ ∃ ds', Wt (clearA o d).1 room fs (ds' ++ [without r o]) k ∧ ∀ x ∈ ds', x ∈ ds ∨ x = r) := by
  rcases act_two d (removeB o) with ⟨h0, h1⟩ | ⟨h0, h1⟩
  · refine .inl ⟨h0, ?_⟩
    unfold clearA remove
    rw [h1]
    rfl
  · refine .inr ?_
    unfold clearA remove
    rw [h1]
    unfold removeB
    rw [h.on.dir]
    cases hf : find r o with
    | none => exact ⟨rfl, went_on d, ds, by rw [without_none hf]; exact h.on, fun x hx => .inl hx⟩
    | some f =>
      refine ⟨rfl, went_on d, ds ++ [r], ⟨h.room, h.files, by simp only; rw [h.on.dirs], h.fail⟩, fun x hx => ?_⟩
      simpa using hx
theorem Wt.remove (h : Wt d room fs (ds ++ [r]) k) {o : ByteArray} {f : Nat} (hf : find r o = some f) :
    (d.left = 0 ∧ remove o d = (d, 11)) ∨ ((remove o d).2 = 0 ∧ Went d (remove o d).1 ∧ Wt (remove o d).1 room fs (ds ++ [r] ++ [without r o]) k) := by
  rcases act_two d (removeB o) with ⟨h0, h1⟩ | ⟨h0, h1⟩
  · exact .inl ⟨h0, h1⟩
  · refine .inr ?_
    unfold Dsk.remove
    rw [h1]
    unfold removeB
    rw [h.on.dir, hf]
    exact ⟨rfl, went_on d, h.room, h.files, by simp only; rw [h.on.dirs], h.fail⟩
theorem Wt.create (h : Wt d room fs (ds ++ [r]) k) {o : ByteArray} (hn : isName o = true) (hf : find r o = none) :
    (d.left = 0 ∧ create o d = (d, 11)) ∨ ((create o d).2 = 0 ∧ Went d (create o d).1 ∧ Wt (create o d).1 room (fs ++ [[[]]]) (ds ++ [r] ++ [r ++ [(o, fs.length)]]) k) := by
  rcases act_two d (createB o) with ⟨h0, h1⟩ | ⟨h0, h1⟩
  · exact .inl ⟨h0, h1⟩
  · refine .inr ?_
    unfold Dsk.create
    rw [h1]
    unfold createB
    rw [if_neg (by simp [hn]), h.on.dir, hf, without_none hf]
    exact ⟨rfl, went_on d, h.room, by simp only; rw [h.on.files], by simp only; rw [h.on.dirs, h.on.files], h.fail⟩
theorem Wt.append (h : Wt d room fs (ds ++ [r]) k) {o : ByteArray} {f : Nat} (hf : find r o = some f) (s : By) {b : By} (hb : (fs.getD f []).getLastD [] = b) :
    (d.left = 0 ∧ append o s d = (d, 11)) ∨ ((append o s d).2 = 9 ∧ room < U fs r + s.length ∧ Went d (append o s d).1 ∧ Wt (append o s d).1 room fs (ds ++ [r]) k) ∨
      ((append o s d).2 = 10 ∧ ¬ room < U fs r + s.length ∧ k = 1 ∧ Went d (append o s d).1 ∧ Wt (append o s d).1 room fs (ds ++ [r]) 0) ∨
      ((append o s d).2 = 0 ∧ ¬ room < U fs r + s.length ∧ k ≠ 1 ∧ Went d (append o s d).1 ∧ Wt (append o s d).1 room (fs.set f (fs.getD f [] ++ fronts b s)) (ds ++ [r]) (k - 1)) := by
  rcases act_two d (appendB o s) with ⟨h0, h1⟩ | ⟨h0, h1⟩
  · exact .inl ⟨h0, h1⟩
  · refine .inr ?_
    have hr : (Dsk.on d).room = room := h.room
    have hk : (Dsk.on d).fail = k := h.fail
    have hnow : now (Dsk.on d) f = b := by unfold now hist; rw [h.on.files]; exact hb
    have hhi : hist (Dsk.on d) f = fs.getD f [] := by unfold hist; rw [h.on.files]
    unfold Dsk.append
    rw [h1]
    unfold appendB
    rw [h.on.dir, hf]
    simp only
    rw [h.on.used, hr, hk, hnow, hhi]
    by_cases c1 : room < U fs r + s.length
    · rw [if_pos c1]
      exact .inl ⟨rfl, c1, went_on d, h.on⟩
    · rw [if_neg c1]
      by_cases c2 : k = 1
      · rw [if_pos c2]
        exact .inr (.inl ⟨rfl, c1, c2, went_on d, rfl, h.files, h.dirs, rfl⟩)
      · rw [if_neg c2]
        exact .inr (.inr ⟨rfl, c1, c2, went_on d, rfl, by simp only; rw [h.on.files], h.dirs, rfl⟩)
theorem Wt.sync (h : Wt d room fs (ds ++ [r]) k) {o : ByteArray} {f : Nat} (hf : find r o = some f) {b : By} (hb : (fs.getD f []).getLastD [] = b) :
    (d.left = 0 ∧ sync o d = (d, 11)) ∨ ((sync o d).2 = 10 ∧ k = 1 ∧ Went d (sync o d).1 ∧ Wt (sync o d).1 room fs (ds ++ [r]) 0) ∨
      ((sync o d).2 = 0 ∧ k ≠ 1 ∧ Went d (sync o d).1 ∧ Wt (sync o d).1 room (fs.set f [b]) (ds ++ [r]) (k - 1)) := by
  rcases act_two d (syncB o) with ⟨h0, h1⟩ | ⟨h0, h1⟩
  · exact .inl ⟨h0, h1⟩
  · refine .inr ?_
    have hk : (Dsk.on d).fail = k := h.fail
    have hnow : now (Dsk.on d) f = b := by unfold now hist; rw [h.on.files]; exact hb
    unfold Dsk.sync
    rw [h1]
    unfold syncB
    rw [h.on.dir, hf]
    simp only
    rw [hk, hnow]
    by_cases c2 : k = 1
    · rw [if_pos c2]
      exact .inl ⟨rfl, c2, went_on d, h.room, h.files, h.dirs, rfl⟩
    · rw [if_neg c2]
      exact .inr ⟨rfl, c2, went_on d, h.room, by simp only; rw [h.on.files], h.dirs, rfl⟩
theorem Wt.rename (h : Wt d room fs (ds ++ [r]) k) {o n : ByteArray} {f : Nat} (hf : find r o = some f) (hn : isName n = true) :
    (d.left = 0 ∧ rename o n d = (d, 11)) ∨ ((rename o n d).2 = 0 ∧ Went d (rename o n d).1 ∧ Wt (rename o n d).1 room fs (ds ++ [r] ++ [without (without r o) n ++ [(n, f)]]) k) := by
  rcases act_two d (renameB o n) with ⟨h0, h1⟩ | ⟨h0, h1⟩
  · exact .inl ⟨h0, h1⟩
  · refine .inr ?_
    unfold Dsk.rename
    rw [h1]
    unfold renameB
    rw [h.on.dir, hf]
    simp only
    rw [if_neg (by simp [hn])]
    exact ⟨rfl, went_on d, h.room, h.files, by simp only; rw [h.on.dirs], h.fail⟩
theorem Wt.syncDir (h : Wt d room fs (ds ++ [r]) k) :
    (d.left = 0 ∧ syncDir d = (d, 11)) ∨ ((syncDir d).2 = 0 ∧ Went d (syncDir d).1 ∧ Wt (syncDir d).1 room fs [r] k) := by
  rcases act_two d syncDirB with ⟨h0, h1⟩ | ⟨h0, h1⟩
  · exact .inl ⟨h0, h1⟩
  · refine .inr ?_
    unfold Dsk.syncDir
    rw [h1]
    unfold syncDirB
    rw [h.on.dir]
    exact ⟨rfl, went_on d, h.room, h.files, rfl, h.fail⟩
end
theorem inOrd_ok {f : Dk → Dk × Int} {l : List (Dk → Dk × Int)} {D : Dk} (h : (f D).2 = 0) : inOrd (f :: l) D = inOrd l (f D).1 := by
  show (if (f D).2 = 0 then _ else _) = _
  rw [if_pos h]
theorem inOrd_err {f : Dk → Dk × Int} {l : List (Dk → Dk × Int)} {D : Dk} (h : (f D).2 ≠ 0) : inOrd (f :: l) D = f D := by
  show (if (f D).2 = 0 then _ else _) = _
  rw [if_neg h]
theorem orRem_err {o : ByteArray} {x : Dk × Int} (h : x.2 ≠ 0) : orRem o x = ((Dsk.remove o x.1).1, x.2) := if_neg h
theorem orRem_ok {o : ByteArray} {x : Dk × Int} (h : x.2 = 0) : orRem o x = x := if_pos h
theorem U_new (fs : List (List By)) (r : Row) (o : ByteArray) (h : ∀ p ∈ r, p.2 < fs.length) (x : List By) : U (fs ++ [x]) (r ++ [(o, fs.length)]) = U fs r + (x.getLastD []).length := by
  unfold U
  rw [List.map_append, List.sum_append]
  congr 1
  · refine congrArg List.sum (List.map_congr_left fun p hp => ?_)
    rw [List.getD_eq_getElem?_getD, List.getD_eq_getElem?_getD, List.getElem?_append_left (h p hp)]
  · simp
/-- What a writing came to. -/
structure Wrote (n : ByteArray) (s : By) (D : Dk) (room : Nat) (fs : List (List By)) (ds : List Row) (r : Row) (k : Nat) (E : Dk) : Prop where
  wt : Wt E room (fs ++ [[s]]) [without (without r (tilde n)) n ++ [(n, fs.length)]] (k - 1 - 1)
  ops : E.ops = D.ops + 6
  left : D.left = -1 → E.left = -1
  room : ¬ room < U fs (without r (tilde n)) + s.length
  k1 : k ≠ 1
  k2 : k - 1 ≠ 1
/-- Rows that a writing left ahead of its renaming. -/
def Mids (n : ByteArray) (fs : List (List By)) (ds : List Row) (r : Row) (l : List Row) : Prop := ∀ x ∈ l, x ∈ ds ∨ x = r ∨ x = without r (tilde n) ∨ x = without r (tilde n) ++ [(tilde n, fs.length)]
structure Late (n : ByteArray) (s : By) (D : Dk) (room : Nat) (fs : List (List By)) (ds : List Row) (r : Row) (E : Dk) (e : Int) : Prop where
  err : e = 11
  left : D.left ≠ -1
  wt : ∃ ds' k', Wt E room (fs ++ [[s]]) (ds' ++ [without (without r (tilde n)) n ++ [(n, fs.length)]]) k' ∧ Mids n fs ds r ds'
structure Missed (n : ByteArray) (s : By) (D : Dk) (room : Nat) (fs : List (List By)) (ds : List Row) (r : Row) (k : Nat) (E : Dk) (e : Int) : Prop where
  err : e = 11 ∧ D.left ≠ -1 ∨ e = 9 ∧ room < U fs (without r (tilde n)) + s.length ∨ e = 10 ∧ (k = 1 ∨ k - 1 = 1) ∧ ¬ room < U fs (without r (tilde n)) + s.length
  wt : ∃ H ds' k', Wt E room (fs ++ H) ds' k' ∧ Mids n fs ds r ds' ∧ (D.left = -1 → E.left = -1 ∧ ∃ l, ds' = l ++ [without r (tilde n)])
theorem Went.left {d e : Dk} (h : Went d e) : d.left = -1 → e.left = -1 := h.2
theorem write_all {n : ByteArray} (hn : maySwap n = true) (s : By) {D : Dk} {room : Nat} {fs : List (List By)} {ds : List Row} {r : Row} {k : Nat} (h : Wt D room fs (ds ++ [r]) k) (hr : ∀ p ∈ r, p.2 < fs.length) :
    ((write n s D).2 = 0 ∧ Wrote n s D room fs ds r k (write n s D).1) ∨ Late n s D room fs ds r (write n s D).1 (write n s D).2 ∨ Missed n s D room fs ds r k (write n s D).1 (write n s D).2 := by
  obtain ⟨hn1, hn2, hn3⟩ := maySwap_iff.1 hn
  have ho := tilde_name hn
  have hrW : ∀ p ∈ without r (tilde n), p.2 < fs.length := fun p hp => hr p (without_sub hp)
  have hfW := find_without_self r (tilde n)
  have hW2 : without (without r (tilde n) ++ [(tilde n, fs.length)]) (tilde n) = without r (tilde n) := without_snoc hfW _
  have hfo : find (without r (tilde n) ++ [(tilde n, fs.length)]) (tilde n) = some fs.length := find_snoc_self hfW
  have hUn := fun x => U_new fs (without r (tilde n)) (tilde n) hrW x
  generalize hoo : tilde n = o at *
  generalize hWW : without r o = W at *
  unfold write
  rw [if_pos hn]
  unfold writeL
  rw [hoo]
  rcases h.clear o with ⟨a0, a1⟩ | ⟨a1, a2, d1, a3, a4⟩
  · rw [inOrd_err (by rw [a1]; simp), a1]
    refine .inr (.inr ⟨.inl ⟨rfl, by omega⟩, [], ds ++ [r], k, by rw [List.append_nil]; exact h, fun x hx => ?_, fun e => by omega⟩)
    rcases List.mem_append.1 hx with hx | hx
    · exact .inl hx
    · simp at hx; exact .inr (.inl hx)
  rw [hWW] at a3
  rw [inOrd_ok a1]
  generalize (clearA o D).1 = D1 at *
  have m1 : Mids n fs ds r (d1 ++ [W]) := fun x hx => by
    rw [hoo, hWW]
    rcases List.mem_append.1 hx with hx | hx
    · rcases a4 x hx with e | e
      · exact .inl e
      · exact .inr (.inl e)
    · simp at hx; exact .inr (.inr (.inl hx))
  rcases a3.create ho hfW with ⟨b0, b1⟩ | ⟨b1, b2, b3⟩
  · rw [inOrd_err (by rw [b1]; simp), b1]
    exact .inr (.inr ⟨.inl ⟨rfl, fun e => by have := a2.left e; omega⟩, [], _, k, by rw [List.append_nil]; exact a3, m1, fun e => by have := a2.left e; omega⟩)
  rw [inOrd_ok b1]
  generalize (create o D1).1 = D2 at *
  have m2 : Mids n fs ds r (d1 ++ [W] ++ [W ++ [(o, fs.length)]]) := fun x hx => by
    rcases List.mem_append.1 hx with hx | hx
    · exact m1 x hx
    · simp at hx; rw [hoo, hWW]; exact .inr (.inr (.inr hx))
  have m3 : Mids n fs ds r (d1 ++ [W] ++ [W ++ [(o, fs.length)]] ++ [W]) := fun x hx => by
    rcases List.mem_append.1 hx with hx | hx
    · exact m2 x hx
    · simp at hx; rw [hoo, hWW]; exact .inr (.inr (.inl hx))
  have l2 : D.left = -1 → D2.left = -1 := fun e => b2.left (a2.left e)
  have hU := hUn [[]]
  have hU : U (fs ++ [[[]]]) (W ++ [(o, fs.length)]) = U fs W := by rw [hU]; rfl
  have hg : (fs ++ [[([] : By)]]).getD fs.length [] = [[]] := by rw [List.getD_eq_getElem?_getD, List.getElem?_concat_length]; rfl
  -- what is done when it errs
  have rem : ∀ (X : Dk) (H : List By) (k' : Nat), Wt X room (fs ++ [H]) (d1 ++ [W] ++ [W ++ [(o, fs.length)]]) k' → (D.left = -1 → X.left = -1) → ∃ H ds' k', Wt (Dsk.remove o X).1 room (fs ++ H) ds' k' ∧ Mids n fs ds r ds' ∧ (D.left = -1 → (Dsk.remove o X).1.left = -1 ∧ ∃ l, ds' = l ++ [without r (tilde n)]) := fun X H k' hX hl => by
    rcases hX.remove hfo with ⟨c0, c1⟩ | ⟨c1, c2, c3⟩
    · rw [c1]
      exact ⟨[H], _, k', hX, m2, fun e => by have := hl e; omega⟩
    · rw [hW2] at c3
      exact ⟨[H], _, k', c3, m3, fun e => ⟨c2.left (hl e), _, by rw [hoo, hWW]⟩⟩
  rcases b3.append hfo s (b := []) (by rw [hg]; rfl) with ⟨c0, c1⟩ | ⟨c1, c2, c3, c4⟩ | ⟨c1, c2, c3, c4, c5⟩ | ⟨c1, c2, c3, c4, c5⟩
  · have e1 : fillA o s D2 = ((Dsk.remove o D2).1, 11) := by unfold fillA; rw [c1]; rfl
    rw [inOrd_err (by rw [e1]; simp), e1]
    exact .inr (.inr ⟨.inl ⟨rfl, fun e => by have := l2 e; omega⟩, rem D2 _ _ b3 l2⟩)
  · have e1 : fillA o s D2 = ((Dsk.remove o (append o s D2).1).1, 9) := by unfold fillA; rw [orRem_err (by rw [c1]; decide), c1]
    rw [inOrd_err (by rw [e1]; simp), e1]
    refine .inr (.inr ⟨.inr (.inl ⟨rfl, ?_⟩), rem _ _ _ c4 (fun e => c3.left (l2 e))⟩)
    rw [hU] at c2
    rw [hoo, hWW]; exact c2
  · have e1 : fillA o s D2 = ((Dsk.remove o (append o s D2).1).1, 10) := by unfold fillA; rw [orRem_err (by rw [c1]; decide), c1]
    rw [inOrd_err (by rw [e1]; simp), e1]
    refine .inr (.inr ⟨.inr (.inr ⟨rfl, .inl c3, ?_⟩), rem _ _ _ c5 (fun e => c4.left (l2 e))⟩)
    rw [hU] at c2
    rw [hoo, hWW]; exact c2
  have e1 : fillA o s D2 = append o s D2 := orRem_ok c1
  rw [inOrd_ok (by rw [e1]; exact c1), e1]
  generalize (append o s D2).1 = D3 at *
  rw [hg] at c5
  have hs3 : (fs ++ [[([] : By)]]).set fs.length ([[]] ++ fronts [] s) = fs ++ [[[]] ++ fronts [] s] := by
    rw [List.set_append_right _ _ (Nat.le_refl _), Nat.sub_self]
    rfl
  rw [hs3] at c5
  have l3 : D.left = -1 → D3.left = -1 := fun e => c4.left (l2 e)
  rw [hU] at c2
  have hg2 : (fs ++ [[([] : By)] ++ fronts [] s]).getD fs.length [] = [[]] ++ fronts [] s := by rw [List.getD_eq_getElem?_getD, List.getElem?_concat_length]; rfl
  rcases c5.sync hfo (b := s) (by rw [hg2]; exact fronts_last [[]] [] s rfl) with ⟨d0, f1⟩ | ⟨f1, f2, f3, f4⟩ | ⟨f1, f2, f3, f4⟩
  · have e1 : syncA o D3 = ((Dsk.remove o D3).1, 11) := by unfold syncA; rw [f1]; rfl
    rw [inOrd_err (by rw [e1]; simp), e1]
    exact .inr (.inr ⟨.inl ⟨rfl, fun e => by have := l3 e; omega⟩, rem D3 _ _ c5 l3⟩)
  · have e1 : syncA o D3 = ((Dsk.remove o (sync o D3).1).1, 10) := by unfold syncA; rw [orRem_err (by rw [f1]; decide), f1]
    rw [inOrd_err (by rw [e1]; simp), e1]
    refine .inr (.inr ⟨.inr (.inr ⟨rfl, .inr f2, ?_⟩), rem _ _ _ f4 (fun e => f3.left (l3 e))⟩)
    rw [hoo, hWW]; exact c2
  have e2 : syncA o D3 = sync o D3 := orRem_ok f1
  rw [inOrd_ok (by rw [e2]; exact f1), e2]
  generalize (sync o D3).1 = D4 at *
  have hs4 : (fs ++ [[([] : By)] ++ fronts [] s]).set fs.length [s] = fs ++ [[s]] := by
    rw [List.set_append_right _ _ (Nat.le_refl _), Nat.sub_self]
    rfl
  rw [hs4] at f4
  have l4 : D.left = -1 → D4.left = -1 := fun e => f3.left (l3 e)
  rcases f4.rename (n := n) hfo hn1 with ⟨d0, g1⟩ | ⟨g1, g2, g3⟩
  · rw [inOrd_err (by rw [g1]; simp), g1]
    exact .inr (.inr ⟨.inl ⟨rfl, fun e => by have := l4 e; omega⟩, _, _, _, f4, m2, fun e => by have := l4 e; omega⟩)
  rw [inOrd_ok g1]
  generalize (rename o n D4).1 = D5 at *
  rw [hW2] at g3
  have l5 : D.left = -1 → D5.left = -1 := fun e => g2.left (l4 e)
  rcases g3.syncDir with ⟨d0, i1⟩ | ⟨i1, i2, i3⟩
  · rw [inOrd_err (by rw [i1]; simp), i1]
    refine .inr (.inl ⟨rfl, fun e => by have := l5 e; omega, _, k - 1 - 1, ?_, m2⟩)
    rw [hoo, hWW]
    exact g3
  rw [inOrd_ok i1]
  refine .inl ⟨rfl, ?_⟩
  show Wrote n s D room fs ds r k (syncDir D5).1
  refine ⟨by rw [hoo, hWW]; exact i3, ?_, fun e => i2.left (l5 e), by rw [hoo, hWW]; exact c2, c3, f2⟩
  rw [i2.1, g2.1, f3.1, c4.1, b2.1, a2.1]

end Go.Proofs.YtleomppgkikhnaaGreat.Dsk
