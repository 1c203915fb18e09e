/-
  Chapter 7, plain: three files, of which one is renamed to another one. No program here.
-/
import Derived.Test.YtleomppgkikhnaaGreatFirsts
namespace Go.Proofs.YtleomppgkikhnaaGreat.Dsk
open Go.Proofs.YtleomppgkikhnaaGreat

def rA : ByteArray := ⟨#[97]⟩
def rB : ByteArray := ⟨#[98]⟩
def rC : ByteArray := ⟨#[99]⟩
def rowN (j : Nat) : Row := [(rA, 0), (rB, 1), (rC, 2)].take j
def nameN (j : Nat) : ByteArray := [rA, rB, rC].getD j rA
theorem ren_one {D : Dk} {ds : List Row} {r : Row} {fs : List (List By)} (h : At D 10000 fs (ds ++ [r])) {n : ByteArray} (hn : isName n = true) (hr : ∀ p ∈ r, p.1 ≠ n) (hl : ∀ p ∈ r, p.2 < fs.length) (t : By) (hu : (r.map (fun p => ((fs.getD p.2 []).getLastD []).length)).sum + t.length ≤ 10000) :
    (create n D).2 = 0 ∧ (append n t (create n D).1).2 = 0 ∧ (sync n (append n t (create n D).1).1).2 = 0 ∧ At (sync n (append n t (create n D).1).1).1 10000 (fs ++ [[t]]) ((ds ++ [r]) ++ [r ++ [(n, fs.length)]]) := by
  obtain ⟨e1, a1⟩ := h.create hn hr
  have hf : find (r ++ [(n, fs.length)]) n = some fs.length := by
    rw [find_app, find_none.2 hr, find_one, if_pos rfl]
    rfl
  have hg : (fs ++ [[[]]]).getD fs.length [] = [([] : By)] := by rw [List.getD_eq_getElem?_getD, List.getElem?_concat_length]; rfl
  obtain ⟨e2, a2⟩ := a1.append (n := n) (f := fs.length) hf t (b := []) (by rw [hg]; rfl) (by
    rw [List.map_append, List.sum_append]
    simp only [List.map_cons, List.map_nil, List.sum_cons, List.sum_nil, hg]
    have : (r.map (fun p => (((fs ++ [[[]]]).getD p.2 []).getLastD []).length)) = r.map (fun p => ((fs.getD p.2 []).getLastD []).length) := List.map_congr_left fun p hp => by
      have := hl p hp
      rw [List.getD_eq_getElem?_getD, List.getElem?_append_left this, ← List.getD_eq_getElem?_getD]
    rw [this]
    show _ + (0 + 0) + t.length ≤ 10000
    omega)
  rw [hg] at a2
  have hs : (fs ++ [[[]]]).set fs.length ([[]] ++ fronts [] t) = fs ++ [[[]] ++ fronts [] t] := by
    rw [List.set_append_right _ _ (Nat.le_refl _), Nat.sub_self]
    rfl
  rw [hs] at a2
  have hg2 : (fs ++ [[[]] ++ fronts [] t]).getD fs.length [] = [[]] ++ fronts [] t := by rw [List.getD_eq_getElem?_getD, List.getElem?_concat_length]; rfl
  obtain ⟨e3, a3⟩ := a2.sync (n := n) (f := fs.length) hf (b := t) (by rw [hg2]; exact fronts_last [[]] [] t rfl)
  rw [List.set_append_right _ _ (Nat.le_refl _), Nat.sub_self] at a3
  exact ⟨e1, e2, e3, a3⟩
theorem ren_next {D : Dk} {ds : List Row} {s t u : By} (hl : s.length + t.length + u.length ≤ 1000) {j : Nat} (hj : j < 3) (h : At D 10000 (([s, t, u].take j).map (fun x => [x])) (ds ++ [rowN j])) :
    (create (nameN j) D).2 = 0 ∧ (append (nameN j) ([s, t, u].getD j []) (create (nameN j) D).1).2 = 0 ∧ (sync (nameN j) (append (nameN j) ([s, t, u].getD j []) (create (nameN j) D).1).1).2 = 0 ∧
      At (sync (nameN j) (append (nameN j) ([s, t, u].getD j []) (create (nameN j) D).1).1).1 10000 (([s, t, u].take (j + 1)).map (fun x => [x])) ((ds ++ [rowN j]) ++ [rowN (j + 1)]) := by
  match j, hj with
  | 0, _ => exact ren_one (r := []) (fs := []) h (by decide) (by decide) (by decide) s (by simp; omega)
  | 1, _ => exact ren_one (r := [(rA, 0)]) (fs := [[s]]) h (by decide) (by decide) (by simp) t (by simp; omega)
  | 2, _ => exact ren_one (r := [(rA, 0), (rB, 1)]) (fs := [[s], [t]]) h (by decide) (by decide) (by simp) u (by simp; omega)
theorem At.used {d : Dk} {room : Nat} {fs : List (List By)} {ds : List Row} {r : Row} (h : At d room fs (ds ++ [r])) : Dsk.used d = (r.map (fun p => ((fs.getD p.2 []).getLastD []).length)).sum := by
  have hdir : dir d = r := by
    unfold dir
    rw [h.dirs]; simp [List.getLastD_eq_getLast?]
  unfold Dsk.used
  rw [hdir]
  refine congrArg List.sum (List.map_congr_left fun p _ => ?_)
  unfold now hist
  rw [h.files]
theorem ren_end {D : Dk} {ds : List Row} {s t u : By} (h : At D 10000 [[s], [t], [u]] (ds ++ [rowN 3])) :
    (syncDir D).2 = 0 ∧ (rename rA rB (syncDir D).1).2 = 0 ∧ At (rename rA rB (syncDir D).1).1 10000 [[s], [t], [u]] ([rowN 3] ++ [[(rC, 2), (rB, 0)]]) := by
  obtain ⟨e1, a1⟩ := h.syncDir
  have a1 : At (syncDir D).1 10000 [[s], [t], [u]] ([] ++ [rowN 3]) := a1
  obtain ⟨e2, a2⟩ := a1.rename (n := rA) (m := rB) (f := 0) (by decide) (by decide)
  exact ⟨e1, e2, a2⟩
theorem mom_one {D : Dk} {i : Nat} {x : By} (h : hist D i = [x]) (ks : List Int) : momAt D ks i = x := by
  unfold momAt
  rw [h]
  have : (if i < ks.length then (min (ks.getD i 0) (((([x] : List By).length : Nat) : Int) - 1)).toNat else 0) = 0 := by
    split
    · simp only [List.length_singleton]; omega
    · rfl
  rw [this]
  rfl
theorem ren_crash {D : Dk} {s t u : By} (h : At D 10000 [[s], [t], [u]] ([rowN 3] ++ [[(rC, 2), (rB, 0)]])) (ok : Ok D) (k : Int) (ks : List Int) :
    read rC (crash k ks D) = (u, 0) ∧ (k < 1 → read rA (crash k ks D) = (s, 0) ∧ read rB (crash k ks D) = (t, 0)) ∧ (¬ k < 1 → read rA (crash k ks D) = ([], 5) ∧ read rB (crash k ks D) = (s, 0)) := by
  have h0 : momAt D ks 0 = s := mom_one (by unfold hist; rw [h.files]; rfl) ks
  have h1 : momAt D ks 1 = t := mom_one (by unfold hist; rw [h.files]; rfl) ks
  have h2 : momAt D ks 2 = u := mom_one (by unfold hist; rw [h.files]; rfl) ks
  by_cases hk : k < 1
  · have hr : rowAt D k = rowN 3 := by
      unfold rowAt
      rw [h.dirs]
      show ([rowN 3, [(rC, 2), (rB, 0)]] : List Row).getD (min k (((2 : Nat) : Int) - 1)).toNat [] = rowN 3
      rw [show (min k (((2 : Nat) : Int) - 1)).toNat = 0 by omega]
      rfl
    refine ⟨?_, fun _ => ⟨?_, ?_⟩, fun k => absurd hk k⟩
    · rw [crash_read ok k ks (n := rC) (f := 2) (by rw [hr]; simp [rowN]), h2]
    · rw [crash_read ok k ks (n := rA) (f := 0) (by rw [hr]; simp [rowN]), h0]
    · rw [crash_read ok k ks (n := rB) (f := 1) (by rw [hr]; simp [rowN]), h1]
  · have hr : rowAt D k = [(rC, 2), (rB, 0)] := by
      unfold rowAt
      rw [h.dirs]
      show ([rowN 3, [(rC, 2), (rB, 0)]] : List Row).getD (min k (((2 : Nat) : Int) - 1)).toNat [] = _
      rw [show (min k (((2 : Nat) : Int) - 1)).toNat = 1 by omega]
      rfl
    refine ⟨?_, fun k => absurd k hk, fun _ => ⟨?_, ?_⟩⟩
    · rw [crash_read ok k ks (n := rC) (f := 2) (by rw [hr]; simp), h2]
    · rw [crash_none ok k ks (n := rA) (by rw [hr]; decide)]
    · rw [crash_read ok k ks (n := rB) (f := 0) (by rw [hr]; simp), h0]

end Go.Proofs.YtleomppgkikhnaaGreat.Dsk
