/-
  Taking labels, plain.
-/
import Derived.Test.YtbjcphefaciihaaLabelMath
namespace Go.Proofs.Ytbjcphefaciihaa.Lab
open Go.Proofs.Ytbjcphefaciihaa

/-- A text of at most so many bytes, at the head. -/
def tt (l : List UInt8) (most : Nat) : Option (List UInt8 × List UInt8) :=
  match Num.take l with
  | none => none
  | some (n, r) => if most < n then none else if r.length < n then none else some (r.take n, r.drop n)
theorem tt_txt {s : ByteArray} {most : Nat} (h : s.size ≤ most) (hm : most < 18446744073709551616) (r : List UInt8) : tt (txt s ++ r) most = some (s.data.toList, r) := by
  have hl : s.data.toList.length = s.size := rfl
  unfold tt txt
  rw [List.append_assoc, Num.take_put _ _ (by omega)]
  simp only
  rw [if_neg (by omega), if_neg (by simp), List.take_left' hl, List.drop_left' hl]
theorem tt_of {l x y : List UInt8} {most : Nat} (h : tt l most = some (x, y)) : l = txt (Num.bs x) ++ y ∧ x.length ≤ most := by
  unfold tt at h
  split at h
  · cases h
  · rename_i n r hn
    split at h
    · cases h
    · split at h
      · cases h
      · rename_i h1 h2
        simp only [Option.some.injEq, Prod.mk.injEq] at h
        obtain ⟨rfl, rfl⟩ := h
        have ho := (Num.of_take hn).1
        have hl : (r.take n).length = n := by simp; omega
        refine ⟨?_, by omega⟩
        unfold txt
        rw [Num.bs_size, Num.bs_toList, hl, List.append_assoc, List.take_append_drop]
        exact ho

def takeP (l : List UInt8) : Option (Pr × List UInt8) :=
  match tt l 20 with
  | none => none
  | some (x, y) => if isName (Num.bs x) = false then none else
    match tt y 40 with
    | none => none
    | some (u, v) => some ((Num.bs x, Num.bs u), v)
theorem takeP_put {p : Pr} (hn : isName p.1 = true) (hv : p.2.size ≤ 40) (r : List UInt8) : takeP (txt p.1 ++ txt p.2 ++ r) = some (p, r) := by
  have h20 := (isName_true hn).2.1
  unfold takeP
  rw [List.append_assoc, tt_txt h20 (by omega)]
  simp only
  rw [Num.bs_of, hn, if_neg (by simp), tt_txt hv (by omega)]
  simp only
  rw [Num.bs_of]
theorem takeP_of {l r : List UInt8} {p : Pr} (h : takeP l = some (p, r)) : l = txt p.1 ++ txt p.2 ++ r ∧ isName p.1 = true ∧ p.2.size ≤ 40 := by
  unfold takeP at h
  split at h
  · cases h
  · rename_i x y hx
    split at h
    · cases h
    · rename_i hn
      split at h
      · cases h
      · rename_i u v hu
        simp only [Option.some.injEq, Prod.mk.injEq] at h
        obtain ⟨rfl, rfl⟩ := h
        obtain ⟨e1, _⟩ := tt_of hx
        obtain ⟨e2, l2⟩ := tt_of hu
        refine ⟨by rw [e1, e2, List.append_assoc], by simpa using hn, by rw [Num.bs_size]; exact l2⟩

def takeK : Nat → ByteArray → List UInt8 → Option (List Pr × List UInt8)
  | 0, _, l => some ([], l)
  | n + 1, last, l =>
    match takeP l with
    | none => none
    | some (p, r) => if lt last p.1 = false then none else
      match takeK n p.1 r with
      | none => none
      | some (ps, r') => some (p :: ps, r')
theorem takeK_put : ∀ (ps : List Pr) (last : ByteArray) (r : List UInt8), Rise ps → (∀ p ∈ ps, isName p.1 = true ∧ p.2.size ≤ 40) → (∀ p ∈ ps, lt last p.1 = true) → takeK ps.length last (pb ps ++ r) = some (ps, r)
  | [], _, _, _, _, _ => rfl
  | p :: ps, last, r, hr, hn, hl => by
    obtain ⟨r1, r2⟩ := List.pairwise_cons.1 hr
    have hp := hn p (by simp)
    simp only [List.length_cons, pb, takeK]
    rw [List.append_assoc, takeP_put hp.1 hp.2]
    simp only
    rw [hl p (by simp), if_neg (by simp), takeK_put ps p.1 r r2 (fun q hq => hn q (List.mem_cons_of_mem _ hq)) (fun q hq => r1 q hq)]
theorem takeK_of : ∀ (n : Nat) (last : ByteArray) (l r : List UInt8) (ps : List Pr), takeK n last l = some (ps, r) → ps.length = n ∧ l = pb ps ++ r ∧ Rise ps ∧ (∀ p ∈ ps, isName p.1 = true ∧ p.2.size ≤ 40) ∧ ∀ p ∈ ps, lt last p.1 = true
  | 0, last, l, r, ps, h => by
    simp only [takeK, Option.some.injEq, Prod.mk.injEq] at h
    obtain ⟨rfl, rfl⟩ := h
    exact ⟨rfl, rfl, List.Pairwise.nil, fun p hp => by simp at hp, fun p hp => by simp at hp⟩
  | n + 1, last, l, r, ps, h => by
    unfold takeK at h
    split at h
    · cases h
    · rename_i p r1 hp
      split at h
      · cases h
      · rename_i hlt
        split at h
        · cases h
        · rename_i qs r2 hq
          simp only [Option.some.injEq, Prod.mk.injEq] at h
          obtain ⟨rfl, rfl⟩ := h
          obtain ⟨i1, i2, i3, i4, i5⟩ := takeK_of n p.1 r1 r2 qs hq
          obtain ⟨e1, e2, e3⟩ := takeP_of hp
          have hl : lt last p.1 = true := by simpa using hlt
          refine ⟨by simp [i1], by rw [e1, i2]; simp [pb], List.pairwise_cons.2 ⟨fun q hq => i5 q hq, i3⟩, fun q hq => ?_, fun q hq => ?_⟩
          · rcases List.mem_cons.1 hq with rfl | hq
            · exact ⟨e2, e3⟩
            · exact i4 q hq
          · rcases List.mem_cons.1 hq with rfl | hq
            · exact hl
            · exact lt_trans hl (i5 q hq)

def takeL (l : List UInt8) : Option (List Pr × List UInt8) :=
  match Num.take l with
  | none => none
  | some (n, r) => if 8 < n then none else takeK n ⟨#[]⟩ r
theorem name_ne {s : ByteArray} (h : isName s = true) : lt ⟨#[]⟩ s = true := empty_lt (by have := isName_true h; omega)
theorem takeL_put {c : List Pr} (hr : Right c) (hs : Rise c) (r : List UInt8) : takeL (putL c ++ r) = some (c, r) := by
  have h8 := hr.1
  unfold takeL putL
  rw [List.append_assoc, Num.take_put _ _ (by omega)]
  simp only
  rw [if_neg (by omega), takeK_put c _ r hs hr.2.1 (fun p hp => name_ne (hr.2.1 p hp).1)]
theorem rise_ne {l : List Pr} (h : Rise l) : l.Pairwise (fun a b => a.1 ≠ b.1) := h.imp (fun h => lt_ne h)
theorem takeL_of {l r : List UInt8} {ps : List Pr} (h : takeL l = some (ps, r)) : l = putL ps ++ r ∧ Right ps ∧ Rise ps := by
  unfold takeL at h
  split at h
  · cases h
  · rename_i n r1 hn
    split at h
    · cases h
    · rename_i h8
      obtain ⟨i1, i2, i3, i4, _⟩ := takeK_of _ _ _ _ _ h
      refine ⟨?_, ⟨by omega, i4, rise_ne i3⟩, i3⟩
      unfold putL
      rw [(Num.of_take hn).1, i2, i1, List.append_assoc]
/-- not behind the one ahead -/
theorem leq_iff (a b : ByteArray) : (Op.bytesLess a.toList b.toList || a.toList == b.toList) = !(lt b a) := by
  rw [eqB]
  show (lt a b || decide (a = b)) = !(lt b a)
  by_cases e : a = b
  · subst e; simp [lt_irrefl]
  · rw [decide_eq_false e]
    rcases lt_total e with h | h
    · rw [h, lt_asymm h]; rfl
    · rw [h, lt_asymm h]; rfl

end Go.Proofs.Ytbjcphefaciihaa.Lab
