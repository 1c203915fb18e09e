/-
  Plain mathematics of chapter 6: a frame's bytes, the frame that bytes begin with, all of them; what is cut off, or spoilt. Nothing of the program stands here.
-/
import Derived.Test.YtdpkpcoadojkhaaDoorMath
import Derived.Test.YtdpkpcoadojkhaaDoorCrcMath
namespace Go.Proofs.YtdpkpcoadojkhaaDoor
namespace Frm

/-- A number and a body. -/
abbrev Fr := Nat × List UInt8
def Ok (f : Fr) : Prop := f.1 < 18446744073709551616 ∧ f.2.length ≤ 2000
def sum4 (q : Nat) (b : List UInt8) : List UInt8 := Crc.four (Crc.sum (Num.put q ++ b))
def put (f : Fr) : List UInt8 := Num.put f.2.length ++ (Num.put f.1 ++ (sum4 f.1 f.2 ++ f.2))
def size (f : Fr) : Nat := (put f).length
theorem sum4_len (q : Nat) (b : List UInt8) : (sum4 q b).length = 4 := rfl
theorem size_eq (f : Fr) : size f = (Num.put f.2.length).length + (Num.put f.1).length + 4 + f.2.length := by
  unfold size put
  simp only [List.length_append, sum4_len]; omega
theorem size_ge (f : Fr) : f.2.length + 6 ≤ size f := by
  have h1 := Num.put_pos f.2.length
  have h2 := Num.put_pos f.1
  rw [size_eq]; omega
theorem size_le {f : Fr} (h : Ok f) : size f ≤ 2024 := by
  have h1 := Num.put_len10 h.1
  have h2 := Num.put_len10 (n := f.2.length) (by have := h.2; omega)
  have := h.2
  rw [size_eq]; omega

/-- Behind the two numbers: the sum, the body. -/
def behind (n q : Nat) (t : List UInt8) : Option Fr :=
  if t.length < n + 4 then none else if t.take 4 = sum4 q ((t.drop 4).take n) then some (q, (t.drop 4).take n) else none
def first (s : List UInt8) : Option Fr :=
  match Num.take s with
  | none => none
  | some (n, r) => if 2000 < n then none else match Num.take r with
    | none => none
    | some (q, t) => behind n q t
theorem behind_put {f : Fr} (rest : List UInt8) : behind f.2.length f.1 (sum4 f.1 f.2 ++ f.2 ++ rest) = some f := by
  have h0 := sum4_len f.1 f.2
  unfold behind
  rw [if_neg (by simp only [List.length_append, h0]; omega)]
  have e1 : (sum4 f.1 f.2 ++ f.2 ++ rest).take 4 = sum4 f.1 f.2 := by
    rw [List.append_assoc, List.take_append_of_le_length (by omega), List.take_of_length_le (by omega)]
  have e2 : ((sum4 f.1 f.2 ++ f.2 ++ rest).drop 4).take f.2.length = f.2 := by
    rw [List.append_assoc, List.drop_append_of_le_length (by omega), List.drop_of_length_le (by omega), List.nil_append, List.take_append_of_le_length (Nat.le_refl _), List.take_length]
  rw [e1, e2, if_pos rfl]
theorem behind_no {n q : Nat} {t : List UInt8} (h : t.length < n + 4) : behind n q t = none := if_pos h
theorem behind_bad {n q : Nat} {t : List UInt8} (h : t.take 4 ≠ sum4 q ((t.drop 4).take n)) : behind n q t = none := by
  unfold behind
  rw [if_neg h]
  split <;> rfl
theorem of_behind {n q : Nat} {t : List UInt8} {f : Fr} (h : behind n q t = some f) : f.1 = q ∧ f.2.length = n ∧ ∃ rest, t = sum4 f.1 f.2 ++ f.2 ++ rest := by
  unfold behind at h
  split at h
  · cases h
  · rename_i hl
    split at h
    · rename_i hs
      simp only [Option.some.injEq] at h
      subst h
      refine ⟨rfl, ?_, t.drop (4 + n), ?_⟩
      · simp only [List.length_take, List.length_drop]; omega
      · simp only
        rw [← hs, List.append_assoc]
        have : t.drop (4 + n) = (t.drop 4).drop n := by rw [List.drop_drop]
        rw [this, List.take_append_drop, List.take_append_drop]
    · cases h
theorem first_put {f : Fr} (h : Ok f) (rest : List UInt8) : first (put f ++ rest) = some f := by
  unfold first put
  rw [List.append_assoc, Num.take_put _ _ (by have := h.2; omega)]
  simp only
  rw [if_neg (by have := h.2; omega), List.append_assoc, Num.take_put _ _ h.1]
  exact behind_put rest
theorem first_put0 {f : Fr} (h : Ok f) : first (put f) = some f := by have := first_put h []; rwa [List.append_nil] at this
theorem of_first {s : List UInt8} {f : Fr} (h : first s = some f) : Ok f ∧ ∃ rest, s = put f ++ rest := by
  unfold first at h
  cases e1 : Num.take s with
  | none => rw [e1] at h; cases h
  | some p =>
    obtain ⟨n, r⟩ := p
    rw [e1] at h
    simp only at h
    split at h
    · cases h
    · rename_i hn
      cases e2 : Num.take r with
      | none => rw [e2] at h; cases h
      | some p =>
        obtain ⟨q, t⟩ := p
        rw [e2] at h
        simp only at h
        obtain ⟨h1, h2, rest, h3⟩ := of_behind h
        obtain ⟨a1, _⟩ := Num.of_take e1
        obtain ⟨b1, b2⟩ := Num.of_take e2
        refine ⟨⟨by rw [h1]; exact b2, by omega⟩, rest, ?_⟩
        rw [a1, b1, h3]
        unfold put
        rw [h2, ← h1]
        simp only [List.append_assoc]
theorem put_inj {f g : Fr} {x y : List UInt8} (hf : Ok f) (hg : Ok g) (h : put f ++ x = put g ++ y) : f = g ∧ x = y := by
  have h1 := first_put hf x
  rw [h, first_put hg y] at h1
  simp only [Option.some.injEq] at h1
  subst h1
  exact ⟨rfl, List.append_cancel_left h⟩
/-- A part of a frame is none. -/
theorem first_part {f : Fr} (hf : Ok f) {s more : List UInt8} (h : s ++ more = put f) (hm : more ≠ []) : first s = none := by
  cases e : first s with
  | none => rfl
  | some g =>
    obtain ⟨hg, rest, hs⟩ := of_first e
    rw [hs, List.append_assoc] at h
    have := (put_inj hg hf (h.trans (List.append_nil _).symm)).2
    exact absurd (List.append_eq_nil_iff.1 this).2 hm

/-! All of them. -/
def scanK : Nat → List UInt8 → List Fr
  | 0, _ => []
  | k + 1, s => match first s with
    | none => []
    | some f => f :: scanK k (s.drop (size f))
def scan (s : List UInt8) : List Fr := scanK s.length s
def bytes (l : List Fr) : List UInt8 := l.flatMap put
theorem bytes_nil : bytes [] = [] := rfl
theorem bytes_cons (f : Fr) (l : List Fr) : bytes (f :: l) = put f ++ bytes l := by simp [bytes]
theorem bytes_app (l m : List Fr) : bytes (l ++ m) = bytes l ++ bytes m := by simp [bytes]
theorem bytes_len (l : List Fr) : (bytes l).length = (l.map size).sum := by
  induction l with
  | nil => rfl
  | cons f l ih => rw [bytes_cons, List.length_append, ih]; simp [size]
theorem scanK_none {k : Nat} {s : List UInt8} (h : first s = none) : scanK k s = [] := by
  cases k with
  | zero => rfl
  | succ k => unfold scanK; rw [h]
theorem scanK_more : ∀ (k j : Nat) (s : List UInt8), s.length ≤ k → s.length ≤ j → scanK k s = scanK j s
  | 0, 0, _, _, _ => rfl
  | 0, j + 1, s, h, _ => by
    have : s = [] := List.length_eq_zero_iff.1 (by omega)
    subst this
    rw [scanK_none (k := j + 1) (by decide +kernel)]; rfl
  | k + 1, 0, s, _, h => by
    have : s = [] := List.length_eq_zero_iff.1 (by omega)
    subst this
    rw [scanK_none (k := k + 1) (by decide +kernel)]; rfl
  | k + 1, j + 1, s, h, h' => by
    unfold scanK
    cases e : first s with
    | none => rfl
    | some f =>
      have := size_ge f
      simp only
      rw [scanK_more k j _ (by rw [List.length_drop]; omega) (by rw [List.length_drop]; omega)]
theorem scan_none {s : List UInt8} (h : first s = none) : scan s = [] := scanK_none h
theorem scanK_some {k : Nat} {s : List UInt8} {f : Fr} (h : first s = some f) : scanK (k + 1) s = f :: scanK k (s.drop (size f)) := by simp only [scanK, h]
theorem drop_put (f : Fr) (s : List UInt8) : (put f ++ s).drop (size f) = s := by unfold size; rw [List.drop_append_of_le_length (Nat.le_refl _), List.drop_length, List.nil_append]
theorem scan_put {f : Fr} (h : Ok f) (s : List UInt8) : scan (put f ++ s) = f :: scan s := by
  have hs := size_ge f
  have hl : (put f ++ s).length = (size f + s.length - 1) + 1 := by rw [List.length_append]; unfold size at *; omega
  show scanK (put f ++ s).length (put f ++ s) = f :: scanK s.length s
  rw [hl, scanK_some (first_put h s), drop_put, scanK_more _ s.length _ (by omega) (Nat.le_refl _)]
theorem scan_some {s : List UInt8} {f : Fr} (h : first s = some f) : scan s = f :: scan (s.drop (size f)) := by
  obtain ⟨hf, rest, rfl⟩ := of_first h
  rw [scan_put hf, drop_put]
theorem scan_bytes : ∀ (l : List Fr) (s : List UInt8), (∀ f ∈ l, Ok f) → scan (bytes l ++ s) = l ++ scan s
  | [], s, _ => rfl
  | f :: l, s, h => by
    rw [bytes_cons, List.append_assoc, scan_put (h f (List.mem_cons_self ..)), scan_bytes l s (fun g hg => h g (List.mem_cons_of_mem _ hg))]; rfl
theorem scan_unique {l : List Fr} {s r : List UInt8} (h : s = bytes l ++ r) (hl : ∀ f ∈ l, Ok f) (hr : first r = none) : scan s = l := by
  rw [h, scan_bytes l r hl, scan_none hr, List.append_nil]
/-- What is told was put so, and what is behind it begins with no frame. -/
theorem scan_of : ∀ (n : Nat) (s : List UInt8), s.length ≤ n → (∀ f ∈ scan s, Ok f) ∧ ∃ r, s = bytes (scan s) ++ r ∧ first r = none
  | n, s, hn => by
    cases e : first s with
    | none => rw [scan_none e]; exact ⟨fun f hf => by simp at hf, s, rfl, e⟩
    | some f =>
      obtain ⟨hf, rest, rfl⟩ := of_first e
      have hs := size_ge f
      cases n with
      | zero => rw [List.length_append] at hn; unfold size at hs; omega
      | succ n =>
        obtain ⟨h1, r, h2, h3⟩ := scan_of n rest (by rw [List.length_append] at hn; unfold size at hs; omega)
        rw [scan_put hf]
        refine ⟨fun g hg => ?_, r, ?_, h3⟩
        · rcases List.mem_cons.1 hg with rfl | hg
          · exact hf
          · exact h1 g hg
        · rw [bytes_cons, List.append_assoc, ← h2]
/-- How many of the frames are whole within k bytes. -/
def whole : List Fr → Nat → Nat
  | [], _ => 0
  | f :: l, k => if size f ≤ k then whole l (k - size f) + 1 else 0
theorem torn : ∀ (l : List Fr) (k : Nat), (∀ f ∈ l, Ok f) → scan ((bytes l).take k) = l.take (whole l k)
  | [], k, _ => by rw [bytes_nil, List.take_nil]; rfl
  | f :: l, k, h => by
    have hf := h f (List.mem_cons_self ..)
    have hl : ∀ g ∈ l, Ok g := fun g hg => h g (List.mem_cons_of_mem _ hg)
    rw [bytes_cons]
    unfold whole
    by_cases hk : size f ≤ k
    · rw [if_pos hk, List.take_append, List.take_of_length_le (by exact hk), scan_put hf, torn l _ hl]; rfl
    · rw [if_neg hk, List.take_zero]
      refine scan_none ?_
      rw [List.take_append_of_le_length (by unfold size at hk; omega)]
      refine first_part hf (more := (put f).drop k) (List.take_append_drop _ _) (fun e => ?_)
      have := congrArg List.length e
      rw [List.length_drop, List.length_nil] at this
      unfold size at hk; omega
theorem whole_le : ∀ (l : List Fr) (k : Nat), whole l k ≤ l.length
  | [], _ => Nat.le_refl _
  | f :: l, k => by
    unfold whole
    split
    · have := whole_le l (k - size f); simp; omega
    · exact Nat.zero_le _

/-! A byte that is another one. -/
theorem four_inj {a b : Nat} (ha : a < 4294967296) (hb : b < 4294967296) (h : Crc.four a = Crc.four b) : a = b := by
  unfold Crc.four at h
  simp only [List.cons.injEq, and_true] at h
  obtain ⟨h1, h2, h3, h4⟩ := h
  have k1 := congrArg UInt8.toNat h1
  have k2 := congrArg UInt8.toNat h2
  have k3 := congrArg UInt8.toNat h3
  have k4 := congrArg UInt8.toNat h4
  rw [Crc.ofNat_mod, Crc.ofNat_mod] at k1 k2 k3 k4
  omega
theorem set_far (a b : List UInt8) (i : Nat) (c : UInt8) : (a ++ b).set (a.length + i) c = a ++ b.set i c := by
  rw [List.set_append_right _ _ (by omega)]; congr 1; congr 1; omega
/-- Of a frame's sum, or body, a byte is another one: it is none. -/
theorem spoilt {f : Fr} (hf : Ok f) {i : Nat} (hi : i < f.2.length + 4) {c : UInt8} (hc : (sum4 f.1 f.2 ++ f.2)[i]? ≠ some c) (rest : List UInt8) :
    first ((put f).set (size f - (f.2.length + 4) + i) c ++ rest) = none := by
  have hp : put f = (Num.put f.2.length ++ Num.put f.1) ++ (sum4 f.1 f.2 ++ f.2) := by unfold put; simp only [List.append_assoc]
  have hz : size f - (f.2.length + 4) = (Num.put f.2.length ++ Num.put f.1).length := by rw [size_eq, List.length_append]; omega
  have h4 := sum4_len f.1 f.2
  rw [hz, hp, set_far]
  generalize hT : (sum4 f.1 f.2 ++ f.2).set i c = T
  have hTl : T.length = 4 + f.2.length := by rw [← hT, List.length_set, List.length_append, h4]
  unfold first
  rw [List.append_assoc, List.append_assoc, Num.take_put _ _ (by have := hf.2; omega)]
  simp only
  rw [if_neg (by have := hf.2; omega), Num.take_put _ _ hf.1]
  simp only
  apply behind_bad
  have hlen : (sum4 f.1 f.2 ++ f.2).length = 4 + f.2.length := by rw [List.length_append, h4]
  have hget : (sum4 f.1 f.2 ++ f.2)[i]? = some ((sum4 f.1 f.2 ++ f.2)[i]'(by omega)) := List.getElem?_eq_getElem _
  by_cases hi4 : i < 4
  · -- the sum
    have e1 : T = (sum4 f.1 f.2).set i c ++ f.2 := by rw [← hT, List.set_append_left _ _ (by omega)]
    have e2 : (T ++ rest).take 4 = (sum4 f.1 f.2).set i c := by
      rw [e1, List.append_assoc, List.take_append_of_le_length (by rw [List.length_set]; omega), List.take_of_length_le (by rw [List.length_set]; omega)]
    have e3 : ((T ++ rest).drop 4).take f.2.length = f.2 := by
      rw [e1, List.append_assoc, List.drop_append_of_le_length (by rw [List.length_set]; omega), List.drop_of_length_le (by rw [List.length_set]; omega), List.nil_append, List.take_append_of_le_length (Nat.le_refl _), List.take_length]
    rw [e2, e3]
    intro h
    apply hc
    rw [List.getElem?_append_left (by omega), ← h, List.getElem?_set_self (by rw [h4]; omega)]
  · -- the body
    obtain ⟨j, rfl⟩ : ∃ j, i = 4 + j := ⟨i - 4, by omega⟩
    have e1 : T = sum4 f.1 f.2 ++ f.2.set j c := by
      rw [← hT, show 4 + j = (sum4 f.1 f.2).length + j by rw [h4], set_far]
    have e2 : (T ++ rest).take 4 = sum4 f.1 f.2 := by
      rw [e1, List.append_assoc, List.take_append_of_le_length (by omega), List.take_of_length_le (by omega)]
    have e3 : ((T ++ rest).drop 4).take f.2.length = f.2.set j c := by
      rw [e1, List.append_assoc, List.drop_append_of_le_length (by omega), List.drop_of_length_le (by omega), List.nil_append, List.take_append_of_le_length (by rw [List.length_set]; omega), List.take_of_length_le (by rw [List.length_set]; omega)]
    rw [e2, e3]
    intro h
    have h5 := four_inj (Crc.sum_lt _) (Crc.sum_lt _) h
    have hj : j < f.2.length := by omega
    have hne : c ≠ f.2[j] := by
      intro e
      apply hc
      rw [List.getElem?_append_right (by omega), h4, show 4 + j - 4 = j by omega, List.getElem?_eq_getElem hj, e]
    have h6 := Crc.sum_set (l := Num.put f.1 ++ f.2) (i := (Num.put f.1).length + j) (by rw [List.length_append]; omega) (b := c) (by rw [List.getElem_append_right (by omega)]; simpa using hne)
    rw [set_far] at h6
    exact h6 h5.symm

end Frm
end Go.Proofs.YtdpkpcoadojkhaaDoor
