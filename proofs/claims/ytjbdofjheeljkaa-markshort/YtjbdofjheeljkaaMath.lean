/-
  Plain mathematics of chapter 1: the bytes of a number ('put'), the number that bytes begin with ('tk'), and that the two undo one another. Nothing of the program stands here.
-/
import Derived.RowKit
namespace Go.Proofs.Ytjbdofjheeljkaa
namespace Num

def bs (l : List UInt8) : ByteArray := ⟨l.toArray⟩

theorem bs_toList (l : List UInt8) : (bs l).data.toList = l := rfl
theorem bs_size (l : List UInt8) : (bs l).size = l.length := by simp [bs, ByteArray.size]
theorem bs_of (s : ByteArray) : bs s.data.toList = s := by cases s; simp [bs]

/-- A number's bytes, with fuel. -/
def putK : Nat → Nat → List UInt8
  | 0, n => [UInt8.ofNat n]
  | f + 1, n => if n < 128 then [UInt8.ofNat n] else UInt8.ofNat (n % 128 + 128) :: putK f (n / 128)

theorem putK_eq : ∀ (f g n : Nat), n ≤ f → n ≤ g → putK f n = putK g n
  | 0, 0, _, _, _ => rfl
  | 0, g + 1, n, h, _ => by rw [putK, putK, if_pos (by omega)]
  | f + 1, 0, n, _, h => by rw [putK, putK, if_pos (by omega)]
  | f + 1, g + 1, n, h1, h2 => by
    rw [putK, putK]
    by_cases c : n < 128
    · rw [if_pos c, if_pos c]
    · rw [if_neg c, if_neg c, putK_eq f g (n / 128) (by omega) (by omega)]

def put (n : Nat) : List UInt8 := putK n n

theorem put_lt {n : Nat} (h : n < 128) : put n = [UInt8.ofNat n] := by
  unfold put
  cases n with
  | zero => rfl
  | succ m => rw [putK, if_pos h]
theorem put_ge {n : Nat} (h : 128 ≤ n) : put n = UInt8.ofNat (n % 128 + 128) :: put (n / 128) := by
  unfold put
  cases n with
  | zero => omega
  | succ m => rw [putK, if_neg (by omega), putK_eq m ((m + 1) / 128) ((m + 1) / 128) (by omega) (by omega)]
theorem put_ne (n : Nat) : put n ≠ [] := by
  by_cases h : n < 128
  · rw [put_lt h]; simp
  · rw [put_ge (by omega)]; simp

theorem put_len : ∀ (k n : Nat), n < 128 ^ (k + 1) → (put n).length ≤ k + 1
  | 0, n, h => by rw [put_lt (by omega)]; simp
  | k + 1, n, h => by
    by_cases hn : n < 128
    · rw [put_lt hn]; simp
    · rw [put_ge (by omega)]
      have := put_len k (n / 128) (by rw [Nat.div_lt_iff_lt_mul (by decide)]; rwa [Nat.pow_succ] at h)
      simp; omega
theorem put_len10 {n : Nat} (h : n < 18446744073709551616) : (put n).length ≤ 10 := put_len 9 n (by omega)
theorem put_pos (n : Nat) : 0 < (put n).length := List.length_pos_iff.2 (put_ne n)

/-- The number that bytes begin with: 'i' bytes are behind us, and make 'acc'. -/
def tk : Nat → Nat → List UInt8 → Option (Nat × List UInt8)
  | _, _, [] => none
  | i, acc, b :: r => if i = 9 ∧ 1 < b.toNat then none else if 0 < i ∧ b.toNat = 0 then none
      else if b.toNat < 128 then some (acc + b.toNat * 2 ^ (7 * i), r) else tk (i + 1) (acc + (b.toNat - 128) * 2 ^ (7 * i)) r

theorem pow7 (i : Nat) : 2 ^ (7 * (i + 1)) = 128 * 2 ^ (7 * i) := by
  rw [show 7 * (i + 1) = 7 + 7 * i from by omega, Nat.pow_add]
theorem pow7_pos (i : Nat) : 0 < 2 ^ (7 * i) := Nat.pow_pos (by decide)
theorem pow7_le {i : Nat} (h : i ≤ 9) : 2 ^ (7 * i) ≤ 9223372036854775808 := by
  have : 2 ^ (7 * i) ≤ 2 ^ 63 := Nat.pow_le_pow_right (by decide) (by omega)
  omega
theorem pow7_le8 {i : Nat} (h : i ≤ 8) : 2 ^ (7 * i) ≤ 72057594037927936 := by
  have : 2 ^ (7 * i) ≤ 2 ^ 56 := Nat.pow_le_pow_right (by decide) (by omega)
  omega
theorem ofNat_toNat {n : Nat} (h : n < 256) : (UInt8.ofNat n).toNat = n := by simp [Nat.mod_eq_of_lt h]

theorem tk_put : ∀ (k i acc n : Nat) (rest : List UInt8), n ≤ k → n * 2 ^ (7 * i) < 18446744073709551616 → (i = 0 ∨ 0 < n) →
    tk i acc (put n ++ rest) = some (acc + n * 2 ^ (7 * i), rest) := by
  intro k
  induction k with
  | zero =>
    intro i acc n rest hk hb hp
    obtain rfl : n = 0 := by omega
    obtain rfl : i = 0 := by omega
    rw [put_lt (by omega)]
    simp [tk]
  | succ k ih =>
    intro i acc n rest hk hb hp
    by_cases h : n < 128
    · rw [put_lt h]
      simp only [List.cons_append, List.nil_append, tk, ofNat_toNat (show n < 256 by omega)]
      rw [if_neg, if_neg, if_pos h]
      · omega
      · rintro ⟨rfl, h1⟩
        have : (2 : Nat) ^ (7 * 9) = 9223372036854775808 := by decide
        rw [this] at hb; omega
    · rw [put_ge (by omega)]
      have hb1 : n % 128 + 128 < 256 := by omega
      simp only [List.cons_append, tk, ofNat_toNat hb1]
      have hi9 : ¬ i = 9 := by
        rintro rfl
        have : (2 : Nat) ^ (7 * 9) = 9223372036854775808 := by decide
        rw [this] at hb; omega
      rw [if_neg (by omega), if_neg (by omega), if_neg (by omega)]
      have hq : n = 128 * (n / 128) + n % 128 := by omega
      have e : n * 2 ^ (7 * i) = n / 128 * 2 ^ (7 * (i + 1)) + n % 128 * 2 ^ (7 * i) := by
        rw [pow7]
        generalize 2 ^ (7 * i) = p
        conv => lhs; rw [hq]
        rw [Nat.add_mul, ← Nat.mul_assoc, Nat.mul_comm 128 (n / 128)]
      rw [ih (i + 1) _ (n / 128) rest (by omega) (by omega) (by omega)]
      rw [show n % 128 + 128 - 128 = n % 128 from by omega]
      congr 2
      omega

theorem of_tk : ∀ (s : List UInt8) (i acc m : Nat) (r : List UInt8), i ≤ 9 → tk i acc s = some (m, r) →
    ∃ n, m = acc + n * 2 ^ (7 * i) ∧ s = put n ++ r ∧ n * 2 ^ (7 * i) < 18446744073709551616 ∧ (i = 0 ∨ 0 < n) := by
  intro s
  induction s with
  | nil => intro i acc m r _ h; simp [tk] at h
  | cons b t ih =>
    intro i acc m r hi h
    have hb := b.toNat_lt
    have hbb : UInt8.ofNat b.toNat = b := by simp
    rw [tk] at h
    by_cases h1 : i = 9 ∧ 1 < b.toNat
    · rw [if_pos h1] at h; cases h
    rw [if_neg h1] at h
    by_cases h2 : 0 < i ∧ b.toNat = 0
    · rw [if_pos h2] at h; cases h
    rw [if_neg h2] at h
    by_cases h3 : b.toNat < 128
    · rw [if_pos h3] at h
      obtain ⟨rfl, rfl⟩ := Prod.mk.inj (Option.some.inj h)
      refine ⟨b.toNat, rfl, by rw [put_lt h3, hbb]; rfl, ?_, by omega⟩
      by_cases h9 : i = 9
      · subst h9
        have : (2 : Nat) ^ (7 * 9) = 9223372036854775808 := by decide
        rw [this]; omega
      · have hp := pow7_le8 (i := i) (by omega)
        have := Nat.mul_le_mul (show b.toNat ≤ 127 by omega) hp
        omega
    · rw [if_neg h3] at h
      obtain ⟨n', e1, e2, e3, e4⟩ := ih (i + 1) _ m r (by omega) h
      have hn' : 0 < n' := by omega
      refine ⟨b.toNat - 128 + 128 * n', ?_, ?_, ?_, by omega⟩
      · rw [e1, pow7, Nat.add_mul, Nat.mul_comm 128 n', Nat.mul_assoc]; omega
      · rw [put_ge (by omega), show (b.toNat - 128 + 128 * n') % 128 + 128 = b.toNat from by omega, hbb, show (b.toNat - 128 + 128 * n') / 128 = n' from by omega, e2]; rfl
      · rw [pow7, ← Nat.mul_assoc, Nat.mul_comm n' 128] at e3
        rw [Nat.add_mul]
        have hi8 : i ≤ 8 := by omega
        -- the number is a multiple of the group's place, and below 2^64, which is one, too
        obtain ⟨q, hq⟩ : ∃ q, 18446744073709551616 = 2 ^ (7 * i) * q ∧ q % 128 = 0 := by
          refine ⟨2 ^ (64 - 7 * i), ?_, ?_⟩
          · rw [← Nat.pow_add, show 7 * i + (64 - 7 * i) = 64 from by omega]
          · rw [show 64 - 7 * i = 7 + (57 - 7 * i) from by omega, Nat.pow_add]; omega
        have hpp := pow7_pos i
        rw [hq.1, Nat.mul_comm (2 ^ (7 * i)) q] at e3 ⊢
        have e5 : 128 * n' < q := Nat.lt_of_mul_lt_mul_right e3
        rw [← Nat.add_mul]
        exact Nat.mul_lt_mul_of_pos_right (by omega) hpp

def take (s : List UInt8) : Option (Nat × List UInt8) := tk 0 0 s

theorem take_put (n : Nat) (rest : List UInt8) (h : n < 18446744073709551616) : take (put n ++ rest) = some (n, rest) := by
  unfold take
  rw [tk_put n 0 0 n rest (Nat.le_refl _) (by simpa using h) (Or.inl rfl)]
  simp

theorem of_take {s : List UInt8} {n : Nat} {r : List UInt8} (h : take s = some (n, r)) : s = put n ++ r ∧ n < 18446744073709551616 := by
  obtain ⟨m, e1, e2, e3, _⟩ := of_tk s 0 0 n r (by omega) h
  simp at e1 e3
  subst e1
  exact ⟨e2, e3⟩

theorem take_lt {s : List UInt8} {n : Nat} {r : List UInt8} (h : take s = some (n, r)) : n < 18446744073709551616 := (of_take h).2

theorem put_inj {a b : Nat} {x y : List UInt8} (ha : a < 18446744073709551616) (hb : b < 18446744073709551616) (h : put a ++ x = put b ++ y) : a = b ∧ x = y := by
  have h1 := take_put a x ha
  rw [h, take_put b y hb] at h1
  simpa using h1.symm

/-- What bytes come to, without a look at their form. -/
def val : List UInt8 → Nat
  | [] => 0
  | b :: t => b.toNat % 128 + 128 * val t

theorem val_put : ∀ (k n : Nat), n ≤ k → val (put n) = n := by
  intro k
  induction k with
  | zero =>
    intro n h
    obtain rfl : n = 0 := by omega
    rw [put_lt (by omega)]; rfl
  | succ k ih =>
    intro n h
    by_cases hn : n < 128
    · rw [put_lt hn]; simp only [val, ofNat_toNat (show n < 256 by omega)]; omega
    · rw [put_ge (by omega)]; simp only [val, ofNat_toNat (show n % 128 + 128 < 256 by omega)]; rw [ih (n / 128) (by omega)]; omega

/-- Of a number's bytes each but the last one is 128 or more; the last one is not. -/
theorem put_form : ∀ (k n : Nat), n ≤ k → (∀ i (h : i < (put n).length), i + 1 < (put n).length → 128 ≤ ((put n)[i]).toNat) ∧ (∀ i (h : i < (put n).length), i + 1 = (put n).length → ((put n)[i]).toNat < 128) := by
  intro k
  induction k with
  | zero =>
    intro n h
    obtain rfl : n = 0 := by omega
    rw [put_lt (by omega)]
    exact ⟨fun i h1 h2 => by simp at h2, fun i h1 h2 => by simp at h1; subst h1; simp⟩
  | succ k ih =>
    intro n h
    by_cases hn : n < 128
    · rw [put_lt hn]
      exact ⟨fun i h1 h2 => by simp at h2, fun i h1 h2 => by simp at h1; subst h1; simp; omega⟩
    · obtain ⟨h1, h2⟩ := ih (n / 128) (by omega)
      rw [put_ge (by omega)]
      refine ⟨fun i hi hl => ?_, fun i hi hl => ?_⟩
      · cases i with
        | zero => simp only [List.getElem_cons_zero]; rw [ofNat_toNat (by omega)]; omega
        | succ j => simp only [List.getElem_cons_succ]; exact h1 j (by simpa using hi) (by simpa using hl)
      · cases i with
        | zero =>
          have := put_pos (n / 128)
          simp only [List.length_cons] at hl; omega
        | succ j => simp only [List.getElem_cons_succ]; exact h2 j (by simpa using hi) (by simpa using hl)

/-- A number's bytes at the head of a text: the place of its last one. -/
theorem take_last {l r : List UInt8} {n : Nat} (h : take l = some (n, r)) :
    (∀ i (hi : i < l.length), i + 1 < (put n).length → 128 ≤ (l[i]).toNat) ∧ ∃ hl : (put n).length - 1 < l.length, (l[(put n).length - 1]).toNat < 128 := by
  obtain ⟨rfl, _⟩ := of_take h
  obtain ⟨h1, h2⟩ := put_form n n (Nat.le_refl _)
  have hp := put_pos n
  refine ⟨fun i hi hl => ?_, by simp; omega, ?_⟩
  · rw [List.getElem_append_left (by omega)]; exact h1 i (by omega) hl
  · rw [List.getElem_append_left (by omega)]; exact h2 _ (by omega) (by omega)

/-- All bytes (or the first ten) go on: that is no number. -/
theorem take_on {l : List UInt8} {k : Nat} (hk : k = l.length ∨ 10 ≤ k) (hall : ∀ i (hi : i < l.length), i < k → 128 ≤ (l[i]).toNat) : take l = none := by
  cases h : take l with
  | none => rfl
  | some p =>
    obtain ⟨n, r⟩ := p
    obtain ⟨_, hl, hb⟩ := take_last h
    have h10 := put_len10 (take_lt h)
    have := hall _ hl (by omega)
    omega

/-- The first byte below 128 stands at k. -/
theorem take_at {l : List UInt8} {k : Nat} (hk : k < l.length) (hall : ∀ i (hi : i < l.length), i < k → 128 ≤ (l[i]).toNat) (hb : (l[k]).toNat < 128) {n : Nat} (hn : n = val (l.take (k + 1)) % 18446744073709551616) :
    (put n = l.take (k + 1) → take l = some (n, l.drop (k + 1))) ∧ (put n ≠ l.take (k + 1) → take l = none) := by
  have hlt : n < 18446744073709551616 := by omega
  refine ⟨fun e => ?_, fun e => ?_⟩
  · have := take_put n (l.drop (k + 1)) hlt
    rwa [e, List.take_append_drop] at this
  · cases h : take l with
    | none => rfl
    | some p =>
      obtain ⟨m, r⟩ := p
      obtain ⟨h1, hl, h2⟩ := take_last h
      have hp := put_pos m
      have hlen : (put m).length = k + 1 := by
        rcases Nat.lt_trichotomy ((put m).length - 1) k with c | c | c
        · have := hall _ hl c; omega
        · omega
        · have := h1 k hk (by omega); omega
      obtain ⟨e1, e2⟩ := of_take h
      have e3 : l.take (k + 1) = put m := by rw [e1, ← hlen]; simp
      exfalso
      apply e
      rw [e3, hn, e3, val_put m m (Nat.le_refl _), Nat.mod_eq_of_lt e2]

/-- A signed number as a number, and back. -/
def zig (m : Int) : Nat := if m < 0 then (-2 * m - 1).toNat else (2 * m).toNat
def zag (n : Nat) : Int := if n % 2 = 1 then -((n / 2 : Nat) : Int) - 1 else ((n / 2 : Nat) : Int)
theorem zig_lt {m : Int} (h0 : -9223372036854775808 ≤ m) (h1 : m ≤ 9223372036854775807) : zig m < 18446744073709551616 := by unfold zig; split <;> omega
theorem zag_zig (m : Int) : zag (zig m) = m := by
  unfold zag zig
  by_cases h : m < 0
  · rw [if_pos h, if_pos (by omega)]; omega
  · rw [if_neg h, if_neg (by omega)]; omega
theorem zig_zag (n : Nat) : zig (zag n) = n := by
  unfold zag zig
  by_cases h : n % 2 = 1
  · rw [if_pos h, if_pos (by omega)]; omega
  · rw [if_neg h, if_neg (by omega)]; omega
theorem zag_bd {n : Nat} (h : n < 18446744073709551616) : -9223372036854775808 ≤ zag n ∧ zag n ≤ 9223372036854775807 := by unfold zag; split <;> omega

end Num
end Go.Proofs.Ytjbdofjheeljkaa
