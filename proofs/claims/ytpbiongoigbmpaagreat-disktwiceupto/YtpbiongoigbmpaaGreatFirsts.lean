/-
  What the others stand on: Math Base LabelMath DskMath DskLawM DskProgM.
-/
import Derived.RowKit
import Derived.Test.YtpbiongoigbmpaaGreatRows
import Derived.WalkKit
import Derived.WalkSpells
import Derived.WalkLawsBesides
import GoSem.Op.String
import Derived.Laws.Strings
namespace Go.Proofs.YtpbiongoigbmpaaGreat
namespace Num

def bs (l : List UInt8) : ByteArray := ⟨l.toArray⟩

theorem bs_toList (l : List UInt8) : (bs l).data.toList = l := rfl
theorem bs_size (l : List UInt8) : (bs l).size = l.length := by simp [bs, ByteArray.size]
theorem bs_of (s : ByteArray) : bs s.data.toList = s := by cases s; simp [bs]

/-- A number's bytes, with fuel. -/
def putK : Nat → Nat → List UInt8
  | 0, n => [UInt8.ofNat n]
  | f + 1, n => if n < 128 then [UInt8.ofNat n] else UInt8.ofNat (n % 128 + 128) :: putK f (n / 128)

theorem putK_eq : ∀ (f g n : Nat), n ≤ f → n ≤ g → putK f n = putK g n
  | 0, 0, _, _, _ => rfl
  | 0, g + 1, n, h, _ => by rw [putK, putK, if_pos (by omega)]
  | f + 1, 0, n, _, h => by rw [putK, putK, if_pos (by omega)]
  | f + 1, g + 1, n, h1, h2 => by
    rw [putK, putK]
    by_cases c : n < 128
    · rw [if_pos c, if_pos c]
    · rw [if_neg c, if_neg c, putK_eq f g (n / 128) (by omega) (by omega)]

def put (n : Nat) : List UInt8 := putK n n

theorem put_lt {n : Nat} (h : n < 128) : put n = [UInt8.ofNat n] := by
  unfold put
  cases n with
  | zero => rfl
  | succ m => rw [putK, if_pos h]
theorem put_ge {n : Nat} (h : 128 ≤ n) : put n = UInt8.ofNat (n % 128 + 128) :: put (n / 128) := by
  unfold put
  cases n with
  | zero => omega
  | succ m => rw [putK, if_neg (by omega), putK_eq m ((m + 1) / 128) ((m + 1) / 128) (by omega) (by omega)]
theorem put_ne (n : Nat) : put n ≠ [] := by
  by_cases h : n < 128
  · rw [put_lt h]; simp
  · rw [put_ge (by omega)]; simp

theorem put_len : ∀ (k n : Nat), n < 128 ^ (k + 1) → (put n).length ≤ k + 1
  | 0, n, h => by rw [put_lt (by omega)]; simp
  | k + 1, n, h => by
    by_cases hn : n < 128
    · rw [put_lt hn]; simp
    · rw [put_ge (by omega)]
      have := put_len k (n / 128) (by rw [Nat.div_lt_iff_lt_mul (by decide)]; rwa [Nat.pow_succ] at h)
      simp; omega
theorem put_len10 {n : Nat} (h : n < 18446744073709551616) : (put n).length ≤ 10 := put_len 9 n (by omega)
theorem put_pos (n : Nat) : 0 < (put n).length := List.length_pos_iff.2 (put_ne n)

/-- The number that bytes begin with: 'i' bytes are behind us, and make 'acc'. -/
def tk : Nat → Nat → List UInt8 → Option (Nat × List UInt8)
  | _, _, [] => none
  | i, acc, b :: r => if i = 9 ∧ 1 < b.toNat then none else if 0 < i ∧ b.toNat = 0 then none
      else if b.toNat < 128 then some (acc + b.toNat * 2 ^ (7 * i), r) else tk (i + 1) (acc + (b.toNat - 128) * 2 ^ (7 * i)) r

theorem pow7 (i : Nat) : 2 ^ (7 * (i + 1)) = 128 * 2 ^ (7 * i) := by
  rw [show 7 * (i + 1) = 7 + 7 * i from by omega, Nat.pow_add]
theorem pow7_pos (i : Nat) : 0 < 2 ^ (7 * i) := Nat.pow_pos (by decide)
theorem pow7_le {i : Nat} (h : i ≤ 9) : 2 ^ (7 * i) ≤ 9223372036854775808 := by
  have : 2 ^ (7 * i) ≤ 2 ^ 63 := Nat.pow_le_pow_right (by decide) (by omega)
  omega
theorem pow7_le8 {i : Nat} (h : i ≤ 8) : 2 ^ (7 * i) ≤ 72057594037927936 := by
  have : 2 ^ (7 * i) ≤ 2 ^ 56 := Nat.pow_le_pow_right (by decide) (by omega)
  omega
theorem ofNat_toNat {n : Nat} (h : n < 256) : (UInt8.ofNat n).toNat = n := by simp [Nat.mod_eq_of_lt h]

theorem tk_put : ∀ (k i acc n : Nat) (rest : List UInt8), n ≤ k → n * 2 ^ (7 * i) < 18446744073709551616 → (i = 0 ∨ 0 < n) →
    tk i acc (put n ++ rest) = some (acc + n * 2 ^ (7 * i), rest) := by
  intro k
  induction k with
  | zero =>
    intro i acc n rest hk hb hp
    obtain rfl : n = 0 := by omega
    obtain rfl : i = 0 := by omega
    rw [put_lt (by omega)]
    simp [tk]
  | succ k ih =>
    intro i acc n rest hk hb hp
    by_cases h : n < 128
    · rw [put_lt h]
      simp only [List.cons_append, List.nil_append, tk, ofNat_toNat (show n < 256 by omega)]
      rw [if_neg, if_neg, if_pos h]
      · omega
      · rintro ⟨rfl, h1⟩
        have : (2 : Nat) ^ (7 * 9) = 9223372036854775808 := by decide
        rw [this] at hb; omega
    · rw [put_ge (by omega)]
      have hb1 : n % 128 + 128 < 256 := by omega
      simp only [List.cons_append, tk, ofNat_toNat hb1]
      have hi9 : ¬ i = 9 := by
        rintro rfl
        have : (2 : Nat) ^ (7 * 9) = 9223372036854775808 := by decide
        rw [this] at hb; omega
      rw [if_neg (by omega), if_neg (by omega), if_neg (by omega)]
      have hq : n = 128 * (n / 128) + n % 128 := by omega
      have e : n * 2 ^ (7 * i) = n / 128 * 2 ^ (7 * (i + 1)) + n % 128 * 2 ^ (7 * i) := by
        rw [pow7]
        generalize 2 ^ (7 * i) = p
        conv => lhs; rw [hq]
        rw [Nat.add_mul, ← Nat.mul_assoc, Nat.mul_comm 128 (n / 128)]
      rw [ih (i + 1) _ (n / 128) rest (by omega) (by omega) (by omega)]
      rw [show n % 128 + 128 - 128 = n % 128 from by omega]
      congr 2
      omega

theorem of_tk : ∀ (s : List UInt8) (i acc m : Nat) (r : List UInt8), i ≤ 9 → tk i acc s = some (m, r) →
    ∃ n, m = acc + n * 2 ^ (7 * i) ∧ s = put n ++ r ∧ n * 2 ^ (7 * i) < 18446744073709551616 ∧ (i = 0 ∨ 0 < n) := by
  intro s
  induction s with
  | nil => intro i acc m r _ h; simp [tk] at h
  | cons b t ih =>
    intro i acc m r hi h
    have hb := b.toNat_lt
    have hbb : UInt8.ofNat b.toNat = b := by simp
    rw [tk] at h
    by_cases h1 : i = 9 ∧ 1 < b.toNat
    · rw [if_pos h1] at h; cases h
    rw [if_neg h1] at h
    by_cases h2 : 0 < i ∧ b.toNat = 0
    · rw [if_pos h2] at h; cases h
    rw [if_neg h2] at h
    by_cases h3 : b.toNat < 128
    · rw [if_pos h3] at h
      obtain ⟨rfl, rfl⟩ := Prod.mk.inj (Option.some.inj h)
      refine ⟨b.toNat, rfl, by rw [put_lt h3, hbb]; rfl, ?_, by omega⟩
      by_cases h9 : i = 9
      · subst h9
        have : (2 : Nat) ^ (7 * 9) = 9223372036854775808 := by decide
        rw [this]; omega
      · have hp := pow7_le8 (i := i) (by omega)
        have := Nat.mul_le_mul (show b.toNat ≤ 127 by omega) hp
        omega
    · rw [if_neg h3] at h
      obtain ⟨n', e1, e2, e3, e4⟩ := ih (i + 1) _ m r (by omega) h
      have hn' : 0 < n' := by omega
      refine ⟨b.toNat - 128 + 128 * n', ?_, ?_, ?_, by omega⟩
      · rw [e1, pow7, Nat.add_mul, Nat.mul_comm 128 n', Nat.mul_assoc]; omega
      · rw [put_ge (by omega), show (b.toNat - 128 + 128 * n') % 128 + 128 = b.toNat from by omega, hbb, show (b.toNat - 128 + 128 * n') / 128 = n' from by omega, e2]; rfl
      · rw [pow7, ← Nat.mul_assoc, Nat.mul_comm n' 128] at e3
        rw [Nat.add_mul]
        have hi8 : i ≤ 8 := by omega
        -- the number is a multiple of the group's place, and below 2^64, which is one, too
        obtain ⟨q, hq⟩ : ∃ q, 18446744073709551616 = 2 ^ (7 * i) * q ∧ q % 128 = 0 := by
          refine ⟨2 ^ (64 - 7 * i), ?_, ?_⟩
          · rw [← Nat.pow_add, show 7 * i + (64 - 7 * i) = 64 from by omega]
          · rw [show 64 - 7 * i = 7 + (57 - 7 * i) from by omega, Nat.pow_add]; omega
        have hpp := pow7_pos i
        rw [hq.1, Nat.mul_comm (2 ^ (7 * i)) q] at e3 ⊢
        have e5 : 128 * n' < q := Nat.lt_of_mul_lt_mul_right e3
        rw [← Nat.add_mul]
        exact Nat.mul_lt_mul_of_pos_right (by omega) hpp

def take (s : List UInt8) : Option (Nat × List UInt8) := tk 0 0 s

theorem take_put (n : Nat) (rest : List UInt8) (h : n < 18446744073709551616) : take (put n ++ rest) = some (n, rest) := by
  unfold take
  rw [tk_put n 0 0 n rest (Nat.le_refl _) (by simpa using h) (Or.inl rfl)]
  simp

theorem of_take {s : List UInt8} {n : Nat} {r : List UInt8} (h : take s = some (n, r)) : s = put n ++ r ∧ n < 18446744073709551616 := by
  obtain ⟨m, e1, e2, e3, _⟩ := of_tk s 0 0 n r (by omega) h
  simp at e1 e3
  subst e1
  exact ⟨e2, e3⟩

theorem take_lt {s : List UInt8} {n : Nat} {r : List UInt8} (h : take s = some (n, r)) : n < 18446744073709551616 := (of_take h).2

theorem put_inj {a b : Nat} {x y : List UInt8} (ha : a < 18446744073709551616) (hb : b < 18446744073709551616) (h : put a ++ x = put b ++ y) : a = b ∧ x = y := by
  have h1 := take_put a x ha
  rw [h, take_put b y hb] at h1
  simpa using h1.symm

/-- What bytes come to, without a look at their form. -/
def val : List UInt8 → Nat
  | [] => 0
  | b :: t => b.toNat % 128 + 128 * val t

theorem val_put : ∀ (k n : Nat), n ≤ k → val (put n) = n := by
  intro k
  induction k with
  | zero =>
    intro n h
    obtain rfl : n = 0 := by omega
    rw [put_lt (by omega)]; rfl
  | succ k ih =>
    intro n h
    by_cases hn : n < 128
    · rw [put_lt hn]; simp only [val, ofNat_toNat (show n < 256 by omega)]; omega
    · rw [put_ge (by omega)]; simp only [val, ofNat_toNat (show n % 128 + 128 < 256 by omega)]; rw [ih (n / 128) (by omega)]; omega

/-- Of a number's bytes each but the last one is 128 or more; the last one is not. -/
theorem put_form : ∀ (k n : Nat), n ≤ k → (∀ i (h : i < (put n).length), i + 1 < (put n).length → 128 ≤ ((put n)[i]).toNat) ∧ (∀ i (h : i < (put n).length), i + 1 = (put n).length → ((put n)[i]).toNat < 128) := by
  intro k
  induction k with
  | zero =>
    intro n h
    obtain rfl : n = 0 := by omega
    rw [put_lt (by omega)]
    exact ⟨fun i h1 h2 => by simp at h2, fun i h1 h2 => by simp at h1; subst h1; simp⟩
  | succ k ih =>
    intro n h
    by_cases hn : n < 128
    · rw [put_lt hn]
      exact ⟨fun i h1 h2 => by simp at h2, fun i h1 h2 => by simp at h1; subst h1; simp; omega⟩
    · obtain ⟨h1, h2⟩ := ih (n / 128) (by omega)
      rw [put_ge (by omega)]
      refine ⟨fun i hi hl => ?_, fun i hi hl => ?_⟩
      · cases i with
        | zero => simp only [List.getElem_cons_zero]; rw [ofNat_toNat (by omega)]; omega
        | succ j => simp only [List.getElem_cons_succ]; exact h1 j (by simpa using hi) (by simpa using hl)
      · cases i with
        | zero =>
          have := put_pos (n / 128)
          simp only [List.length_cons] at hl; omega
        | succ j => simp only [List.getElem_cons_succ]; exact h2 j (by simpa using hi) (by simpa using hl)

/-- A number's bytes at the head of a text: the place of its last one. -/
theorem take_last {l r : List UInt8} {n : Nat} (h : take l = some (n, r)) :
    (∀ i (hi : i < l.length), i + 1 < (put n).length → 128 ≤ (l[i]).toNat) ∧ ∃ hl : (put n).length - 1 < l.length, (l[(put n).length - 1]).toNat < 128 := by
  obtain ⟨rfl, _⟩ := of_take h
  obtain ⟨h1, h2⟩ := put_form n n (Nat.le_refl _)
  have hp := put_pos n
  refine ⟨fun i hi hl => ?_, by simp; omega, ?_⟩
  · rw [List.getElem_append_left (by omega)]; exact h1 i (by omega) hl
  · rw [List.getElem_append_left (by omega)]; exact h2 _ (by omega) (by omega)

/-- All bytes (or the first ten) go on: that is no number. -/
theorem take_on {l : List UInt8} {k : Nat} (hk : k = l.length ∨ 10 ≤ k) (hall : ∀ i (hi : i < l.length), i < k → 128 ≤ (l[i]).toNat) : take l = none := by
  cases h : take l with
  | none => rfl
  | some p =>
    obtain ⟨n, r⟩ := p
    obtain ⟨_, hl, hb⟩ := take_last h
    have h10 := put_len10 (take_lt h)
    have := hall _ hl (by omega)
    omega

/-- The first byte below 128 stands at k. -/
theorem take_at {l : List UInt8} {k : Nat} (hk : k < l.length) (hall : ∀ i (hi : i < l.length), i < k → 128 ≤ (l[i]).toNat) (hb : (l[k]).toNat < 128) {n : Nat} (hn : n = val (l.take (k + 1)) % 18446744073709551616) :
    (put n = l.take (k + 1) → take l = some (n, l.drop (k + 1))) ∧ (put n ≠ l.take (k + 1) → take l = none) := by
  have hlt : n < 18446744073709551616 := by omega
  refine ⟨fun e => ?_, fun e => ?_⟩
  · have := take_put n (l.drop (k + 1)) hlt
    rwa [e, List.take_append_drop] at this
  · cases h : take l with
    | none => rfl
    | some p =>
      obtain ⟨m, r⟩ := p
      obtain ⟨h1, hl, h2⟩ := take_last h
      have hp := put_pos m
      have hlen : (put m).length = k + 1 := by
        rcases Nat.lt_trichotomy ((put m).length - 1) k with c | c | c
        · have := hall _ hl c; omega
        · omega
        · have := h1 k hk (by omega); omega
      obtain ⟨e1, e2⟩ := of_take h
      have e3 : l.take (k + 1) = put m := by rw [e1, ← hlen]; simp
      exfalso
      apply e
      rw [e3, hn, e3, val_put m m (Nat.le_refl _), Nat.mod_eq_of_lt e2]

/-- A signed number as a number, and back. -/
def zig (m : Int) : Nat := if m < 0 then (-2 * m - 1).toNat else (2 * m).toNat
def zag (n : Nat) : Int := if n % 2 = 1 then -((n / 2 : Nat) : Int) - 1 else ((n / 2 : Nat) : Int)
theorem zig_lt {m : Int} (h0 : -9223372036854775808 ≤ m) (h1 : m ≤ 9223372036854775807) : zig m < 18446744073709551616 := by unfold zig; split <;> omega
theorem zag_zig (m : Int) : zag (zig m) = m := by
  unfold zag zig
  by_cases h : m < 0
  · rw [if_pos h, if_pos (by omega)]; omega
  · rw [if_neg h, if_neg (by omega)]; omega
theorem zig_zag (n : Nat) : zig (zag n) = n := by
  unfold zag zig
  by_cases h : n % 2 = 1
  · rw [if_pos h, if_pos (by omega)]; omega
  · rw [if_neg h, if_neg (by omega)]; omega
theorem zag_bd {n : Nat} (h : n < 18446744073709551616) : -9223372036854775808 ≤ zag n ∧ zag n ≤ 9223372036854775807 := by unfold zag; split <;> omega

end Num
end Go.Proofs.YtpbiongoigbmpaaGreat
namespace Go.Proofs.YtpbiongoigbmpaaGreat
open Go.RowKit

theorem hide {p : Prop} (h : p) : Hid p := h
theorem unhide {p : Prop} (h : Hid p) : p := h

theorem ret_true {b : Bool} (h : b = true) : Ending.returned (.bool b) = .returned (.bool true) := by rw [h]

theorem extract_bs (s : ByteArray) (k : Nat) : s.extract k s.size = Num.bs (s.data.toList.drop k) := by
  apply ByteArray.ext
  apply Array.ext'
  simp [Num.bs]
  exact List.take_of_length_le (by simp)

/-- Two calls, one behind the other. -/
theorem bl {a b c : World} (h : Below a.heap.size a b) (k : Below b.heap.size b c) : Below a.heap.size a c := h.trans (k.mono h.size)

def bytesV (l : List UInt8) : List Value := l.map (fun b => Value.int .u8 (b.toNat : Int))

theorem ret_bs {a b : List UInt8} (h : a = b) : Ending.returned (.string (Num.bs a)) = .returned (.string (Num.bs b)) := by rw [h]

/-- 'string(b)' of bytes that the call owns. -/
theorem conv_own {P : Program} {w : World} {base src dst e : Nat} {v : Value} {n : Nat} {vs : List Value} (l : List UInt8) (hs : P.underlying src = some (.slice e)) (he : P.underlying e = some (.int .u8)) (hd : P.underlying dst = some .string)
    (hown : w.ownsRow base e 1 v n vs) (hn : n = l.length) (hvs : vs = bytesV l) (hl : l ≠ []) : (convert src dst v).run P w = .ok (.string (Num.bs l)) w := by
  subst hn hvs
  rcases hown.2 with ⟨rfl, h0⟩ | ⟨g, cap, cur, rfl, hg, hh, hnc, hcp, hcs, htake⟩
  · exact absurd (List.length_eq_zero_iff.1 h0) hl
  · refine run_convert_bytes_back (P := P) w src dst e ⟨g, 0, none⟩ cap l hs he hd fun j hj => ?_
    rw [Addr.add_lit, Nat.zero_add, hown.cellAt j (by omega)]
    simp [bytesV, hj]

end Go.Proofs.YtpbiongoigbmpaaGreat
namespace Go.Proofs.YtpbiongoigbmpaaGreat.Lab
open Go.Proofs.YtpbiongoigbmpaaGreat

abbrev Pr := ByteArray × ByteArray

theorem bytes_ext {a b : ByteArray} (h : a.toList = b.toList) : a = b := by
  rw [ByteArray.toList_eq, ByteArray.toList_eq] at h
  exact ByteArray.ext (Array.ext' h)
theorem eqB (a b : ByteArray) : (a.toList == b.toList) = decide (a = b) := by
  by_cases h : a = b
  · subst h; simp
  · rw [decide_eq_false h]
    exact beq_eq_false_iff_ne.2 (fun e => h (bytes_ext e))
theorem eqB_true {a b : ByteArray} (h : (a.toList == b.toList) = true) : a = b := by rw [eqB] at h; exact of_decide_eq_true h
theorem eqB_false {a b : ByteArray} (h : (a.toList == b.toList) = false) : a ≠ b := by rw [eqB] at h; exact of_decide_eq_false h

/-! The order of bytes. -/
theorem less_irrefl : ∀ a : List UInt8, Op.bytesLess a a = false
  | [] => rfl
  | x :: r => by simp [Op.bytesLess, less_irrefl r]
theorem u8_lt {a b : UInt8} : a < b ↔ a.toNat < b.toNat := Iff.rfl
theorem u8_ne {a b : UInt8} (h : a ≠ b) : a.toNat ≠ b.toNat := fun e => h (UInt8.toNat_inj.1 e)
theorem less_trans : ∀ a b c : List UInt8, Op.bytesLess a b = true → Op.bytesLess b c = true → Op.bytesLess a c = true
  | _, _, [], _, h => by cases ‹List UInt8› <;> simp [Op.bytesLess] at h
  | _, [], _ :: _, h, _ => by cases ‹List UInt8› <;> simp [Op.bytesLess] at h
  | [], _ :: _, _ :: _, _, _ => rfl
  | x :: a, y :: b, z :: c, h, k => by
    simp only [Op.bytesLess, Bool.or_eq_true, Bool.and_eq_true, decide_eq_true_eq, beq_iff_eq] at h k ⊢
    rcases h with h | ⟨rfl, h⟩
    · rcases k with k | ⟨rfl, k⟩
      · left; rw [u8_lt] at *; omega
      · left; exact h
    · rcases k with k | ⟨rfl, k⟩
      · left; exact k
      · right; exact ⟨rfl, less_trans a b c h k⟩
theorem less_total : ∀ a b : List UInt8, a ≠ b → Op.bytesLess a b = true ∨ Op.bytesLess b a = true
  | [], [], h => absurd rfl h
  | [], _ :: _, _ => .inl rfl
  | _ :: _, [], _ => .inr rfl
  | x :: a, y :: b, h => by
    simp only [Op.bytesLess, Bool.or_eq_true, Bool.and_eq_true, decide_eq_true_eq, beq_iff_eq]
    by_cases hxy : x = y
    · subst hxy
      rcases less_total a b (fun e => h (by rw [e])) with k | k
      · exact .inl (.inr ⟨rfl, k⟩)
      · exact .inr (.inr ⟨rfl, k⟩)
    · have := u8_ne hxy
      rw [u8_lt, u8_lt]
      rcases Nat.lt_or_gt_of_ne this with k | k
      · exact .inl (.inl k)
      · exact .inr (.inl k)

/-- Is a name ahead of another? -/
def lt (a b : ByteArray) : Bool := Op.bytesLess a.toList b.toList
theorem lt_irrefl (a : ByteArray) : lt a a = false := less_irrefl _
theorem lt_trans {a b c : ByteArray} (h : lt a b = true) (k : lt b c = true) : lt a c = true := less_trans _ _ _ h k
theorem lt_total {a b : ByteArray} (h : a ≠ b) : lt a b = true ∨ lt b a = true := less_total _ _ (fun e => h (bytes_ext e))
theorem lt_asymm {a b : ByteArray} (h : lt a b = true) : lt b a = false := by
  cases k : lt b a with
  | false => rfl
  | true => have := lt_trans h k; rw [lt_irrefl] at this; cases this
theorem lt_ne {a b : ByteArray} (h : lt a b = true) : a ≠ b := fun e => by rw [e, lt_irrefl] at h; cases h
/-- not ahead of, and ahead of a third -/
theorem lt_of_not_lt {a b c : ByteArray} (h : lt b a = false) (k : lt b c = true) : lt a c = true := by
  by_cases e : a = b
  · rw [e]; exact k
  · rcases lt_total e with q | q
    · exact lt_trans q k
    · rw [h] at q; cases q
theorem lt_of_lt_not {a b c : ByteArray} (h : lt a b = true) (k : lt c b = false) : lt a c = true := by
  by_cases e : c = b
  · rw [e]; exact h
  · rcases lt_total e with q | q
    · rw [k] at q; cases q
    · exact lt_trans h q
theorem not_lt_trans {a b c : ByteArray} (h : lt b a = false) (k : lt c b = false) : lt c a = false := by
  cases q : lt c a with
  | false => rfl
  | true => have := lt_of_lt_not q h; rw [k] at this; cases this
theorem empty_lt {a : ByteArray} (h : a.size ≠ 0) : lt ⟨#[]⟩ a = true := by
  unfold lt
  rw [ByteArray.toList_eq, ByteArray.toList_eq]
  obtain ⟨⟨l⟩⟩ := a
  cases l with
  | nil => exact absurd rfl h
  | cons x r => rfl

/-! Names. -/
def letB (n : Nat) : Bool := decide (97 ≤ n ∧ n ≤ 122 ∨ n = 95)
def digB (n : Nat) : Bool := decide (48 ≤ n ∧ n ≤ 57)
def okAt (i : Nat) (b : UInt8) : Bool := letB b.toNat || (decide (i ≠ 0) && digB b.toNat)
def isName (s : ByteArray) : Bool := decide (1 ≤ s.size ∧ s.size ≤ 20 ∧ ∀ i, i < s.size → okAt i (s.data.toList.getD i 0) = true)
theorem isName_true {s : ByteArray} (h : isName s = true) : 1 ≤ s.size ∧ s.size ≤ 20 ∧ ∀ i, i < s.size → okAt i (s.data.toList.getD i 0) = true := of_decide_eq_true h
theorem isName_mk {s : ByteArray} (h : 1 ≤ s.size ∧ s.size ≤ 20 ∧ ∀ i, i < s.size → okAt i (s.data.toList.getD i 0) = true) : isName s = true := decide_eq_true h
theorem isName_no {s : ByteArray} (h : ¬ (1 ≤ s.size ∧ s.size ≤ 20 ∧ ∀ i, i < s.size → okAt i (s.data.toList.getD i 0) = true)) : isName s = false := decide_eq_false h
theorem getD_at (s : ByteArray) (k : Nat) (h : k < s.size) : s.data.toList.getD k 0 = s[k] := by
  have h' : k < s.data.size := h
  simp [List.getD, Array.getElem?_eq_getElem h']
  rfl

/-! What is wrong. -/
def has (ps : List Pr) (n : ByteArray) : Bool := ps.any (fun p => decide (p.1 = n))
theorem has_app (a b : List Pr) (n : ByteArray) : has (a ++ b) n = (has a n || has b n) := by simp [has]
theorem has_iff {ps : List Pr} {n : ByteArray} : has ps n = true ↔ ∃ p ∈ ps, p.1 = n := by simp [has]
theorem has_no {ps : List Pr} {n : ByteArray} : has ps n = false ↔ ∀ p ∈ ps, p.1 ≠ n := by simp [has]
def chkAt (pre : List Pr) (p : Pr) : Nat := if isName p.1 = false then 3 else if 40 < p.2.size then 7 else if has pre p.1 = true then 4 else 0
def chk : List Pr → List Pr → Nat
  | _, [] => 0
  | pre, p :: r => if chkAt pre p = 0 then chk (pre ++ [p]) r else chkAt pre p
def check (l : List Pr) : Nat := if 8 < l.length then 6 else chk [] l
/-- Right labels: as C1's words say. -/
def Right (l : List Pr) : Prop := l.length ≤ 8 ∧ (∀ p ∈ l, isName p.1 = true ∧ p.2.size ≤ 40) ∧ l.Pairwise (fun a b => a.1 ≠ b.1)
theorem chkAt_zero {pre : List Pr} {p : Pr} : chkAt pre p = 0 ↔ isName p.1 = true ∧ p.2.size ≤ 40 ∧ ∀ q ∈ pre, q.1 ≠ p.1 := by
  unfold chkAt
  rw [← has_no]
  cases isName p.1 <;> cases has pre p.1 <;> by_cases h2 : 40 < p.2.size <;> simp [h2] <;> omega
theorem chk_zero : ∀ (r pre : List Pr), chk pre r = 0 ↔ (∀ p ∈ r, isName p.1 = true ∧ p.2.size ≤ 40) ∧ r.Pairwise (fun a b => a.1 ≠ b.1) ∧ ∀ q ∈ pre, ∀ p ∈ r, q.1 ≠ p.1
  | [], pre => by simp [chk]
  | p :: r, pre => by
    unfold chk
    by_cases h : chkAt pre p = 0
    · rw [if_pos h, chk_zero r (pre ++ [p])]
      obtain ⟨h1, h2, h3⟩ := chkAt_zero.1 h
      constructor
      · rintro ⟨a, b, c⟩
        refine ⟨fun q hq => ?_, List.pairwise_cons.2 ⟨fun q hq => c p (by simp) q hq, b⟩, fun q hq x hx => ?_⟩
        · rcases List.mem_cons.1 hq with rfl | hq
          · exact ⟨h1, h2⟩
          · exact a q hq
        · rcases List.mem_cons.1 hx with rfl | hx
          · exact h3 q hq
          · exact c q (by simp [hq]) x hx
      · rintro ⟨a, b, c⟩
        obtain ⟨b1, b2⟩ := List.pairwise_cons.1 b
        refine ⟨fun q hq => a q (List.mem_cons_of_mem _ hq), b2, fun q hq x hx => ?_⟩
        rcases List.mem_append.1 hq with hq | hq
        · exact c q hq x (List.mem_cons_of_mem _ hx)
        · rw [List.mem_singleton.1 hq]; exact b1 x hx
    · rw [if_neg h]
      refine ⟨fun e => absurd e h, fun ⟨a, b, c⟩ => absurd (chkAt_zero.2 ⟨(a p (by simp)).1, (a p (by simp)).2, fun q hq => c q hq p (by simp)⟩) h⟩
theorem check_zero {l : List Pr} : check l = 0 ↔ Right l := by
  unfold check Right
  by_cases h : 8 < l.length
  · rw [if_pos h]; constructor
    · intro e; cases e
    · rintro ⟨a, _⟩; omega
  · rw [if_neg h, chk_zero]
    simp only [List.not_mem_nil, false_implies, implies_true, and_true]
    exact ⟨fun ⟨a, b⟩ => ⟨by omega, a, b⟩, fun ⟨_, a, b⟩ => ⟨a, b⟩⟩
theorem chkAt_lt (pre : List Pr) (p : Pr) : chkAt pre p < 8 := by
  unfold chkAt; repeat' split
  all_goals omega
theorem chk_lt : ∀ (r pre : List Pr), chk pre r < 8
  | [], _ => by simp [chk]
  | p :: r, pre => by
    unfold chk; split
    · exact chk_lt r _
    · exact chkAt_lt _ _
theorem check_lt (l : List Pr) : check l < 8 := by
  unfold check; split
  · omega
  · exact chk_lt _ _

/-! In order. -/
def ins (x : Pr) : List Pr → List Pr
  | [] => [x]
  | y :: r => if lt x.1 y.1 = true then x :: y :: r else y :: ins x r
def canon (l : List Pr) : List Pr := l.foldl (fun s x => ins x s) []
def Sorted (l : List Pr) : Prop := l.Pairwise (fun a b => lt b.1 a.1 = false)
def Rise (l : List Pr) : Prop := l.Pairwise (fun a b => lt a.1 b.1 = true)
theorem ins_perm (x : Pr) : ∀ l : List Pr, (ins x l).Perm (x :: l)
  | [] => List.Perm.refl _
  | y :: r => by
    unfold ins; split
    · exact List.Perm.refl _
    · exact ((ins_perm x r).cons y).trans (List.Perm.swap x y r)
theorem ins_sorted (x : Pr) : ∀ l : List Pr, Sorted l → Sorted (ins x l)
  | [], _ => List.pairwise_singleton _ _
  | y :: r, h => by
    obtain ⟨h1, h2⟩ := List.pairwise_cons.1 h
    unfold ins; split
    · rename_i q
      refine List.pairwise_cons.2 ⟨fun z hz => ?_, h⟩
      rcases List.mem_cons.1 hz with rfl | hz
      · exact lt_asymm q
      · exact not_lt_trans (lt_asymm q) (h1 z hz)
    · rename_i q
      refine List.pairwise_cons.2 ⟨fun z hz => ?_, ins_sorted x r h2⟩
      rcases List.mem_cons.1 ((ins_perm x r).mem_iff.1 hz) with rfl | hz
      · simpa using q
      · exact h1 z hz
theorem canon_snoc (l : List Pr) (x : Pr) : canon (l ++ [x]) = ins x (canon l) := by simp [canon, List.foldl_append]
theorem canon_ind {p : List Pr → List Pr → Prop} (h0 : p [] []) (hs : ∀ l x, p l (canon l) → p (l ++ [x]) (ins x (canon l))) : ∀ (n : Nat) (l : List Pr), l.length = n → p l (canon l)
  | 0, l, h => by rw [List.length_eq_zero_iff.1 h]; exact h0
  | n + 1, l, h => by
    have hne : l ≠ [] := by intro e; rw [e] at h; simp at h
    rw [← List.dropLast_concat_getLast hne, canon_snoc]
    exact hs _ _ (canon_ind h0 hs n l.dropLast (by simp; omega))
theorem canon_perm (l : List Pr) : (canon l).Perm l :=
  canon_ind (p := fun l c => c.Perm l) (List.Perm.refl _) (fun l x h => (ins_perm x _).trans ((h.cons x).trans (List.perm_append_comm (l₁ := [x]) (l₂ := l)))) _ l rfl
theorem canon_sorted (l : List Pr) : Sorted (canon l) := canon_ind (p := fun _ c => Sorted c) List.Pairwise.nil (fun _ x h => ins_sorted x _ h) _ l rfl
theorem canon_length (l : List Pr) : (canon l).length = l.length := (canon_perm l).length_eq
/-- where it goes -/
theorem ins_at (x : Pr) : ∀ (s : List Pr) (k : Nat), Sorted s → k ≤ s.length → (∀ j (h : j < s.length), k ≤ j → lt x.1 (s[j]).1 = true) → (∀ j (h : j < s.length), j + 1 = k → lt x.1 (s[j]).1 = false) → ins x s = s.take k ++ x :: s.drop k
  | [], k, _, hk, _, _ => by simp at hk; subst hk; rfl
  | y :: r, k, hs, hk, h1, h2 => by
    obtain ⟨s1, s2⟩ := List.pairwise_cons.1 hs
    cases k with
    | zero =>
      have := h1 0 (by simp) (by omega)
      unfold ins; rw [if_pos (by simpa using this)]; rfl
    | succ k =>
      have hy : lt x.1 y.1 = false := by
        cases k with
        | zero => exact h2 0 (by simp) rfl
        | succ k =>
          have hk' : k < r.length := by simp at hk; omega
          have q : lt x.1 (r[k]).1 = false := h2 (k + 1) (by simp; omega) rfl
          exact not_lt_trans (s1 _ (List.getElem_mem hk')) q
      unfold ins; rw [if_neg (by rw [hy]; simp)]
      rw [ins_at x r k s2 (by simpa using hk) (fun j h hj => h1 (j + 1) (by simp; omega) (by omega)) (fun j h hj => h2 (j + 1) (by simp; omega) (by omega))]
      rfl
theorem rise_of {l : List Pr} (h : Sorted l) (hd : l.Pairwise (fun a b => a.1 ≠ b.1)) : Rise l :=
  List.Pairwise.imp₂ (fun a b h1 h2 => (lt_total h2).elim id (fun q => by rw [h1] at q; cases q)) h hd
theorem perm_ne {a b : List Pr} (h : a.Perm b) (hd : a.Pairwise (fun x y => x.1 ≠ y.1)) : b.Pairwise (fun x y => x.1 ≠ y.1) :=
  h.pairwise hd (fun h e => h e.symm)
theorem canon_rise {l : List Pr} (h : Right l) : Rise (canon l) := rise_of (canon_sorted l) (perm_ne (canon_perm l).symm h.2.2)
theorem canon_right {l : List Pr} (h : Right l) : Right (canon l) :=
  ⟨by rw [canon_length]; exact h.1, fun p hp => h.2.1 p ((canon_perm l).mem_iff.1 hp), perm_ne (canon_perm l).symm h.2.2⟩
theorem perm_right {a b : List Pr} (hp : a.Perm b) (h : Right a) : Right b :=
  ⟨by rw [← hp.length_eq]; exact h.1, fun p hq => h.2.1 p (hp.mem_iff.2 hq), perm_ne hp h.2.2⟩
/-- There is one order that rises. -/
theorem rise_unique : ∀ {a b : List Pr}, a.Perm b → Rise a → Rise b → a = b
  | [], b, h, _, _ => (List.nil_perm.1 h).symm
  | x :: a, [], h, _, _ => by simpa using h.length_eq
  | x :: a, y :: b, h, ha, hb => by
    obtain ⟨a1, a2⟩ := List.pairwise_cons.1 ha
    obtain ⟨b1, b2⟩ := List.pairwise_cons.1 hb
    have e : x = y := by
      rcases List.mem_cons.1 (h.mem_iff.1 (List.mem_cons_self ..)) with e | hx
      · exact e
      · rcases List.mem_cons.1 (h.mem_iff.2 (List.mem_cons_self ..)) with e | hy
        · exact e.symm
        · have := lt_asymm (b1 x hx); rw [a1 y hy] at this; cases this
    subst e
    rw [rise_unique (List.Perm.cons_inv h) a2 b2]
theorem canon_of_rise {l : List Pr} (h : Rise l) (hr : Right l) : canon l = l := rise_unique (canon_perm l) (canon_rise hr) h
theorem canon_same {a b : List Pr} (h : a.Perm b) (ha : Right a) : canon a = canon b :=
  rise_unique ((canon_perm a).trans (h.trans (canon_perm b).symm)) (canon_rise ha) (canon_rise (perm_right h ha))

/-! Values, matchers. -/
def value (ps : List Pr) (n : ByteArray) : ByteArray := match ps.find? (fun p => decide (p.1 = n)) with | some p => p.2 | none => ⟨#[]⟩
theorem value_cons_eq {p : Pr} {r : List Pr} {n : ByteArray} (h : p.1 = n) : value (p :: r) n = p.2 := by simp [value, h]
theorem value_cons_ne {p : Pr} {r : List Pr} {n : ByteArray} (h : p.1 ≠ n) : value (p :: r) n = value r n := by simp [value, h]
theorem value_mem {l : List Pr} (hd : l.Pairwise (fun a b => a.1 ≠ b.1)) {p : Pr} (hp : p ∈ l) : value l p.1 = p.2 := by
  induction l with
  | nil => cases hp
  | cons q r ih =>
    obtain ⟨h1, h2⟩ := List.pairwise_cons.1 hd
    rcases List.mem_cons.1 hp with rfl | hp
    · exact value_cons_eq rfl
    · rw [value_cons_ne (h1 p hp)]; exact ih h2 hp
theorem value_none {l : List Pr} {n : ByteArray} (h : ∀ p ∈ l, p.1 ≠ n) : value l n = ⟨#[]⟩ := by
  induction l with
  | nil => rfl
  | cons q r ih => rw [value_cons_ne (h q (by simp))]; exact ih (fun p hp => h p (List.mem_cons_of_mem _ hp))
theorem value_perm {a b : List Pr} (h : a.Perm b) (hd : a.Pairwise (fun x y => x.1 ≠ y.1)) (n : ByteArray) : value a n = value b n := by
  cases q : has a n with
  | true =>
    obtain ⟨p, hp, rfl⟩ := has_iff.1 q
    rw [value_mem hd hp, value_mem (perm_ne h hd) (h.mem_iff.1 hp)]
  | false =>
    rw [value_none (has_no.1 q), value_none (fun p hp => has_no.1 q p (h.mem_iff.2 hp))]

/-! Their bytes. -/
def txt (s : ByteArray) : List UInt8 := Num.put s.size ++ s.data.toList
def pb : List Pr → List UInt8
  | [] => []
  | p :: r => txt p.1 ++ txt p.2 ++ pb r
def putL (l : List Pr) : List UInt8 := Num.put l.length ++ pb l
theorem pb_app : ∀ a b : List Pr, pb (a ++ b) = pb a ++ pb b
  | [], b => rfl
  | p :: r, b => by simp only [List.cons_append, pb]; rw [pb_app r b]; simp
theorem txt_len {s : ByteArray} (h : s.size ≤ 1099511627776) : (txt s).length ≤ s.size + 10 := by
  have := Num.put_len10 (n := s.size) (by omega)
  simp [txt]; omega
theorem pb_len : ∀ l : List Pr, (∀ p ∈ l, p.1.size ≤ 2000 ∧ p.2.size ≤ 2000) → (pb l).length ≤ 5000 * l.length
  | [], _ => by simp [pb]
  | p :: r, h => by
    have h1 := pb_len r (fun q hq => h q (List.mem_cons_of_mem _ hq))
    obtain ⟨h2, h3⟩ := h p (by simp)
    have h4 := txt_len (s := p.1) (by omega)
    have h5 := txt_len (s := p.2) (by omega)
    simp only [pb, List.length_append, List.length_cons]; omega
theorem txt_inj {a b : ByteArray} {x y : List UInt8} (ha : a.size ≤ 1099511627776) (hb : b.size ≤ 1099511627776) (h : txt a ++ x = txt b ++ y) : a = b ∧ x = y := by
  unfold txt at h
  rw [List.append_assoc, List.append_assoc] at h
  obtain ⟨e, k⟩ := Num.put_inj (by omega) (by omega) h
  have hl : a.data.toList.length = b.data.toList.length := e
  obtain ⟨k1, k2⟩ := List.append_inj k hl
  exact ⟨ByteArray.ext (Array.ext' k1), k2⟩
theorem pb_inj : ∀ {a b : List Pr} {x y : List UInt8}, a.length = b.length → (∀ p ∈ a, p.1.size ≤ 2000 ∧ p.2.size ≤ 2000) → (∀ p ∈ b, p.1.size ≤ 2000 ∧ p.2.size ≤ 2000) → pb a ++ x = pb b ++ y → a = b ∧ x = y
  | [], [], x, y, _, _, _, h => ⟨rfl, h⟩
  | [], _ :: _, _, _, h, _, _, _ => by simp at h
  | _ :: _, [], _, _, h, _, _, _ => by simp at h
  | (p1, p2) :: a, (q1, q2) :: b, x, y, hl, ha, hb, h => by
    have hp := ha (p1, p2) (by simp)
    have hq := hb (q1, q2) (by simp)
    simp only [pb, List.append_assoc] at h hp hq
    obtain ⟨e1, h2⟩ := txt_inj (by omega) (by omega) h
    obtain ⟨e2, h3⟩ := txt_inj (by omega) (by omega) h2
    obtain ⟨e3, e4⟩ := pb_inj (by simpa using hl) (fun r hr => ha r (by simp [hr])) (fun r hr => hb r (by simp [hr])) h3
    rw [e1, e2, e3, e4]; exact ⟨rfl, rfl⟩
theorem right_small {l : List Pr} (h : Right l) : ∀ p ∈ l, p.1.size ≤ 2000 ∧ p.2.size ≤ 2000 := fun p hp => by
  obtain ⟨h1, h2⟩ := h.2.1 p hp
  have := isName_true h1
  omega
theorem putL_inj {a b : List Pr} {x y : List UInt8} (ha : Right a) (hb : Right b) (h : putL a ++ x = putL b ++ y) : a = b ∧ x = y := by
  unfold putL at h
  rw [List.append_assoc, List.append_assoc] at h
  have h8 := ha.1
  have h9 := hb.1
  obtain ⟨e, k⟩ := Num.put_inj (by omega) (by omega) h
  exact pb_inj e (right_small ha) (right_small hb) k
theorem putL_len {l : List Pr} (h : Right l) : (putL l).length ≤ 50000 := by
  have h1 := pb_len l (right_small h)
  have h2 := h.1
  have h3 := Num.put_len10 (n := l.length) (by omega)
  simp [putL]; omega

end Go.Proofs.YtpbiongoigbmpaaGreat.Lab
namespace Go.Proofs.YtpbiongoigbmpaaGreat.Dsk
open Go.Proofs.YtpbiongoigbmpaaGreat

abbrev By := List UInt8
abbrev Row := List (ByteArray × Nat)
structure Dk where
  room : Nat
  files : List (List By)
  dirs : List Row
  ops : Nat
  fail : Nat
  left : Int

def fresh (room : Int) : Dk := ⟨room.toNat, [], [[]], 0, 0, -1⟩
def isName (s : ByteArray) : Bool := decide ((∀ b ∈ s.data.toList, 33 ≤ b.toNat ∧ b.toNat ≤ 126) ∧ 1 ≤ s.size ∧ s.size ≤ 24)
def dir (d : Dk) : Row := d.dirs.getLastD []
def find : Row → ByteArray → Option Nat
  | [], _ => none
  | (m, f) :: r, n => if m = n then some f else find r n
def without (r : Row) (n : ByteArray) : Row := r.filter (fun p => decide (p.1 ≠ n))
def hist (d : Dk) (f : Nat) : List By := d.files.getD f []
def now (d : Dk) (f : Nat) : By := (hist d f).getLastD []
def used (d : Dk) : Nat := ((dir d).map (fun p => (now d p.2).length)).sum
/-- One more operation. -/
def on (d : Dk) : Dk := { d with ops := d.ops + 1, left := if 0 < d.left then d.left - 1 else d.left }
def act (d : Dk) (f : Dk → Dk × Int) : Dk × Int := if d.left = 0 then (d, 11) else f (on d)
def fronts (b s : By) : List By := (List.range s.length).map (fun i => b ++ s.take (i + 1))
def createB (n : ByteArray) (d : Dk) : Dk × Int :=
  if isName n = false then (d, 3) else match find (dir d) n with
    | some _ => (d, 4)
    | none => ({ d with files := d.files ++ [[[]]], dirs := d.dirs ++ [without (dir d) n ++ [(n, d.files.length)]] }, 0)
def create (n : ByteArray) (d : Dk) : Dk × Int := act d (createB n)
def appendB (n : ByteArray) (s : By) (d : Dk) : Dk × Int := match find (dir d) n with
  | none => (d, 5)
  | some f => if d.room < used d + s.length then (d, 9) else if d.fail = 1 then ({ d with fail := 0 }, 10)
    else ({ d with fail := d.fail - 1, files := d.files.set f (hist d f ++ fronts (now d f) s) }, 0)
def append (n : ByteArray) (s : By) (d : Dk) : Dk × Int := act d (appendB n s)
def cutB (n : ByteArray) (to : Int) (d : Dk) : Dk × Int := match find (dir d) n with
  | none => (d, 5)
  | some f => if to < 0 ∨ ((now d f).length : Int) < to then (d, 1) else ({ d with files := d.files.set f (hist d f ++ [(now d f).take to.toNat]) }, 0)
def cut (n : ByteArray) (to : Int) (d : Dk) : Dk × Int := act d (cutB n to)
def syncB (n : ByteArray) (d : Dk) : Dk × Int := match find (dir d) n with
  | none => (d, 5)
  | some f => if d.fail = 1 then ({ d with fail := 0 }, 10) else ({ d with fail := d.fail - 1, files := d.files.set f [now d f] }, 0)
def sync (n : ByteArray) (d : Dk) : Dk × Int := act d (syncB n)
def renameB (n m : ByteArray) (d : Dk) : Dk × Int := match find (dir d) n with
  | none => (d, 5)
  | some f => if isName m = false then (d, 3) else ({ d with dirs := d.dirs ++ [without (without (dir d) n) m ++ [(m, f)]] }, 0)
def rename (n m : ByteArray) (d : Dk) : Dk × Int := act d (renameB n m)
def removeB (n : ByteArray) (d : Dk) : Dk × Int := match find (dir d) n with
  | none => (d, 5)
  | some _ => ({ d with dirs := d.dirs ++ [without (dir d) n] }, 0)
def remove (n : ByteArray) (d : Dk) : Dk × Int := act d (removeB n)
def syncDirB (d : Dk) : Dk × Int := ({ d with dirs := [dir d] }, 0)
def syncDir (d : Dk) : Dk × Int := act d syncDirB
def read (n : ByteArray) (d : Dk) : By × Int := if d.left = 0 then ([], 11) else match find (dir d) n with
  | none => ([], 5)
  | some f => (now d f, 0)
def setFail (n : Int) (d : Dk) : Dk := { d with fail := n.toNat }
def setStop (n : Int) (d : Dk) : Dk := { d with left := max n (-1) }
/-- The names, rising. -/
def ins (n : ByteArray) : List ByteArray → List ByteArray
  | [] => [n]
  | m :: r => if Lab.lt n m = true then n :: m :: r else m :: ins n r
def sortN : List ByteArray → List ByteArray
  | [] => []
  | n :: r => ins n (sortN r)
def names (r : Row) : List ByteArray := r.map (·.1)
def list (d : Dk) : List ByteArray := sortN (names (dir d))
/-- What is left. -/
def rowAt (d : Dk) (k : Int) : Row := d.dirs.getD (min k ((d.dirs.length : Int) - 1)).toNat []
def momAt (d : Dk) (ks : List Int) (n : Nat) : By := (hist d n).getD (if n < ks.length then (min (ks.getD n 0) (((hist d n).length : Int) - 1)).toNat else 0) []
def picks (d : Dk) (k : Int) (ks : List Int) : List (ByteArray × By) :=
  (List.range d.files.length).flatMap fun n => ((rowAt d k).filter (fun p => decide (p.2 = n))).map (fun p => (p.1, momAt d ks n))
def numbered : Nat → List (ByteArray × By) → Row
  | _, [] => []
  | i, p :: r => (p.1, i) :: numbered (i + 1) r
def crash (k : Int) (ks : List Int) (d : Dk) : Dk := ⟨d.room, (picks d k ks).map (fun p => [p.2]), [numbered 0 (picks d k ks)], 0, 0, -1⟩

/-! ## What holds of every disk -/
/-- A row of names is right: of files that there are, no two of one name, nor of one file. -/
def RowOk (n : Nat) (r : Row) : Prop := (∀ p ∈ r, isName p.1 = true ∧ p.2 < n) ∧ r.Pairwise (fun p q => p.1 ≠ q.1) ∧ r.Pairwise (fun p q => p.2 ≠ q.2)
structure Ok (d : Dk) : Prop where
  rows : ∀ r ∈ d.dirs, RowOk d.files.length r
  some : d.dirs ≠ []
  hists : ∀ h ∈ d.files, h ≠ []
  left : -1 ≤ d.left

theorem dir_mem {d : Dk} (h : d.dirs ≠ []) : dir d ∈ d.dirs := by
  unfold dir
  rw [List.getLastD_eq_getLast?, List.getLast?_eq_some_getLast h]
  exact List.getLast_mem h
theorem Ok.row {d : Dk} (h : Ok d) : RowOk d.files.length (dir d) := h.rows _ (dir_mem h.some)
theorem find_some {r : Row} {n : ByteArray} {f : Nat} (h : find r n = some f) : (n, f) ∈ r := by
  induction r with
  | nil => cases h
  | cons p r ih =>
    obtain ⟨m, g⟩ := p
    unfold find at h
    split at h
    · rename_i e; cases h; subst e; exact List.mem_cons_self ..
    · exact List.mem_cons_of_mem _ (ih h)
theorem find_none {r : Row} {n : ByteArray} : find r n = none ↔ ∀ p ∈ r, p.1 ≠ n := by
  induction r with
  | nil => simp [find]
  | cons p r ih =>
    obtain ⟨m, g⟩ := p
    unfold find
    by_cases e : m = n
    · simp [e]
    · rw [if_neg e, ih]; simp [e]
theorem find_mem {r : Row} {n : ByteArray} {f : Nat} (hr : r.Pairwise (fun p q => p.1 ≠ q.1)) (h : (n, f) ∈ r) : find r n = some f := by
  induction r with
  | nil => simp at h
  | cons p r ih =>
    obtain ⟨m, g⟩ := p
    obtain ⟨h1, h2⟩ := List.pairwise_cons.1 hr
    unfold find
    rcases List.mem_cons.1 h with e | h
    · cases e; rw [if_pos rfl]
    · rw [if_neg (h1 _ h), ih h2 h]
theorem find_app (a b : Row) (n : ByteArray) : find (a ++ b) n = (find a n).or (find b n) := by
  induction a with
  | nil => simp [find]
  | cons p a ih =>
    obtain ⟨m, g⟩ := p
    simp only [List.cons_append, find]
    split
    · rfl
    · exact ih
theorem RowOk.without {n : Nat} {r : Row} (h : RowOk n r) (m : ByteArray) : RowOk n (without r m) :=
  ⟨fun p hp => h.1 p (List.mem_filter.1 hp).1, h.2.1.filter _, h.2.2.filter _⟩
theorem without_ne {r : Row} {m : ByteArray} {p : ByteArray × Nat} (h : p ∈ without r m) : p.1 ≠ m := of_decide_eq_true (List.mem_filter.1 h).2
theorem without_sub {r : Row} {m : ByteArray} {p : ByteArray × Nat} (h : p ∈ without r m) : p ∈ r := (List.mem_filter.1 h).1
theorem RowOk.mono {n m : Nat} {r : Row} (h : RowOk n r) (hm : n ≤ m) : RowOk m r := ⟨fun p hp => ⟨(h.1 p hp).1, by have := (h.1 p hp).2; omega⟩, h.2.1, h.2.2⟩
theorem RowOk.snoc {n : Nat} {r : Row} (h : RowOk n r) {m : ByteArray} {f : Nat} (hm : isName m = true) (hf : f < n) (h1 : ∀ p ∈ r, p.1 ≠ m) (h2 : ∀ p ∈ r, p.2 ≠ f) : RowOk n (r ++ [(m, f)]) := by
  refine ⟨fun p hp => ?_, ?_, ?_⟩
  · rcases List.mem_append.1 hp with hp | hp
    · exact h.1 p hp
    · simp at hp; subst hp; exact ⟨hm, hf⟩
  · rw [List.pairwise_append]
    exact ⟨h.2.1, List.pairwise_singleton _ _, fun p hp q hq => by simp at hq; subst hq; exact h1 p hp⟩
  · rw [List.pairwise_append]
    exact ⟨h.2.2, List.pairwise_singleton _ _, fun p hp q hq => by simp at hq; subst hq; exact h2 p hp⟩
theorem row_one {r : Row} (h : r.Pairwise (fun p q => p.2 ≠ q.2)) {p q : ByteArray × Nat} (hp : p ∈ r) (hq : q ∈ r) (e : p.2 = q.2) : p = q := by
  induction r with
  | nil => simp at hp
  | cons x r ih =>
    obtain ⟨h1, h2⟩ := List.pairwise_cons.1 h
    rcases List.mem_cons.1 hp with rfl | hp
    · rcases List.mem_cons.1 hq with rfl | hq
      · rfl
      · exact absurd e (h1 q hq)
    · rcases List.mem_cons.1 hq with rfl | hq
      · rename_i hp'; exact absurd e.symm (h1 p hp')
      · exact ih h2 hp hq


theorem dir_snoc (d : Dk) (l : List Row) (r : Row) : dir { d with dirs := l ++ [r] } = r := by
  show (l ++ [r]).getLastD [] = r
  simp [List.getLastD_eq_getLast?]
theorem hist_set (d : Dk) {f : Nat} (hf : f < d.files.length) (h : List By) (i : Nat) : (d.files.set f h).getD i [] = if i = f then h else hist d i := by
  unfold hist
  rw [List.getD_eq_getElem?_getD, List.getElem?_set, List.getD_eq_getElem?_getD]
  by_cases e : f = i
  · subst e; simp [hf]
  · rw [if_neg e, if_neg (fun k => e k.symm)]
theorem act_ok {d : Dk} {f : Dk → Dk × Int} (h : Ok d) (hf : ∀ d, Ok d → Ok (f d).1) : Ok (act d f).1 := by
  unfold act
  split
  · exact h
  · refine hf _ ⟨h.rows, h.some, h.hists, ?_⟩
    have := h.left
    unfold on
    simp only
    split <;> omega
theorem find_lt {d : Dk} (h : Ok d) {n : ByteArray} {f : Nat} (hf : find (dir d) n = some f) : f < d.files.length := (h.row.1 _ (find_some hf)).2
theorem set_ok {d : Dk} (h : Ok d) (f : Nat) (l : List By) (hl : l ≠ []) (k : Nat) : Ok { d with fail := k, files := d.files.set f l } :=
  ⟨fun r hr => by show RowOk (d.files.set f l).length r; rw [List.length_set]; exact h.rows r hr, h.some, fun x hx => by
    rcases List.mem_or_eq_of_mem_set hx with hx | rfl
    · exact h.hists x hx
    · exact hl, h.left⟩
theorem dirs_ok {d : Dk} (h : Ok d) (r : Row) (hr : RowOk d.files.length r) : Ok { d with dirs := d.dirs ++ [r] } :=
  ⟨fun x hx => by
    rcases List.mem_append.1 hx with hx | hx
    · exact h.rows x hx
    · simp at hx; subst hx; exact hr, by simp, h.hists, h.left⟩
theorem create_ok (n : ByteArray) {d : Dk} (h : Ok d) : Ok (create n d).1 := by
  refine act_ok h fun d h => ?_
  unfold createB
  split
  · exact h
  · rename_i hn
    split
    · exact h
    · rename_i hf
      refine ⟨fun r hr => ?_, by simp, fun x hx => ?_, h.left⟩
      · show RowOk (d.files ++ [[[]]]).length r
        rw [List.length_append]
        rcases List.mem_append.1 hr with hr | hr
        · exact (h.rows r hr).mono (by simp)
        · simp at hr
          subst hr
          refine (RowOk.mono (h.row.without n) (Nat.le_succ _)).snoc (by simpa using hn) (by simp) (fun p hp => without_ne hp) (fun p hp e => ?_)
          have := (h.row.1 p (without_sub hp)).2
          omega
      · rcases List.mem_append.1 hx with hx | hx
        · exact h.hists x hx
        · simp at hx; subst hx; simp
theorem append_ok (n : ByteArray) (s : By) {d : Dk} (h : Ok d) : Ok (append n s d).1 := by
  refine act_ok h fun d h => ?_
  unfold appendB
  split
  · exact h
  · rename_i f hf
    split
    · exact h
    · split
      · exact ⟨h.rows, h.some, h.hists, h.left⟩
      · refine set_ok h f _ ?_ _
        have h1 := h.hists (hist d f) (by unfold hist; rw [List.getD_eq_getElem?_getD, List.getElem?_eq_getElem (find_lt h hf)]; exact List.getElem_mem _)
        intro e
        exact h1 (List.append_eq_nil_iff.1 e).1
theorem cut_ok (n : ByteArray) (to : Int) {d : Dk} (h : Ok d) : Ok (cut n to d).1 := by
  refine act_ok h fun d h => ?_
  unfold cutB
  split
  · exact h
  · split
    · exact h
    · exact set_ok h _ _ (by simp) d.fail
theorem sync_ok (n : ByteArray) {d : Dk} (h : Ok d) : Ok (sync n d).1 := by
  refine act_ok h fun d h => ?_
  unfold syncB
  split
  · exact h
  · split
    · exact ⟨h.rows, h.some, h.hists, h.left⟩
    · exact set_ok h _ _ (by simp) _
theorem rename_ok (n m : ByteArray) {d : Dk} (h : Ok d) : Ok (rename n m d).1 := by
  refine act_ok h fun d h => ?_
  unfold renameB
  split
  · exact h
  · rename_i f hf
    split
    · exact h
    · rename_i hm
      refine dirs_ok h _ ?_
      refine RowOk.snoc ((h.row.without n).without m) (by simpa using hm) (find_lt h hf) (fun p hp => without_ne hp) (fun p hp e => ?_)
      have h1 := without_sub hp
      have h2 := row_one h.row.2.2 (without_sub h1) (find_some hf) e
      exact without_ne h1 (by rw [h2])
theorem remove_ok (n : ByteArray) {d : Dk} (h : Ok d) : Ok (remove n d).1 := by
  refine act_ok h fun d h => ?_
  unfold removeB
  split
  · exact h
  · exact dirs_ok h _ (h.row.without n)
theorem syncDir_ok {d : Dk} (h : Ok d) : Ok (syncDir d).1 := by
  refine act_ok h fun d h => ?_
  unfold syncDirB
  exact ⟨fun r hr => by simp at hr; subst hr; exact h.row, by simp, h.hists, h.left⟩
theorem setFail_ok (n : Int) {d : Dk} (h : Ok d) : Ok (setFail n d) := ⟨h.rows, h.some, h.hists, h.left⟩
theorem setStop_ok (n : Int) {d : Dk} (h : Ok d) : Ok (setStop n d) := ⟨h.rows, h.some, h.hists, by unfold setStop; simp only; omega⟩
theorem fresh_ok (room : Int) : Ok (fresh room) := ⟨fun r hr => by simp [fresh] at hr; subst hr; exact ⟨fun p hp => by simp at hp, List.Pairwise.nil, List.Pairwise.nil⟩, by simp [fresh], fun x hx => by simp [fresh] at hx, by simp [fresh]⟩

end Go.Proofs.YtpbiongoigbmpaaGreat.Dsk
namespace Go.Proofs.YtpbiongoigbmpaaGreat.Dsk
open Go.Proofs.YtpbiongoigbmpaaGreat

/-! ## Names in order -/
def Up (l : List ByteArray) : Prop := l.Pairwise (fun a b => Lab.lt a b = true)
theorem ins_perm (n : ByteArray) : ∀ l : List ByteArray, (ins n l).Perm (n :: l)
  | [] => List.Perm.refl _
  | m :: r => by
    unfold ins
    split
    · exact List.Perm.refl _
    · exact ((ins_perm n r).cons m).trans (List.Perm.swap n m r)
theorem sortN_perm : ∀ l : List ByteArray, (sortN l).Perm l
  | [] => List.Perm.refl _
  | n :: r => (ins_perm n (sortN r)).trans ((sortN_perm r).cons n)
theorem ins_up {n : ByteArray} : ∀ {l : List ByteArray}, Up l → (∀ m ∈ l, m ≠ n) → Up (ins n l)
  | [], _, _ => List.pairwise_singleton _ _
  | m :: r, h, hn => by
    obtain ⟨h1, h2⟩ := List.pairwise_cons.1 h
    unfold ins
    split
    · rename_i hl
      exact List.pairwise_cons.2 ⟨fun q hq => by
        rcases List.mem_cons.1 hq with rfl | hq
        · exact hl
        · exact Lab.lt_trans hl (h1 q hq), h⟩
    · rename_i hl
      refine List.pairwise_cons.2 ⟨fun q hq => ?_, ins_up h2 (fun q hq => hn q (List.mem_cons_of_mem _ hq))⟩
      rcases List.mem_cons.1 ((ins_perm n r).mem_iff.1 hq) with rfl | hq
      · rcases Lab.lt_total (hn m (List.mem_cons_self ..)) with k | k
        · exact k
        · exact absurd k hl
      · exact h1 q hq
theorem sortN_up : ∀ {l : List ByteArray}, l.Pairwise (fun a b => a ≠ b) → Up (sortN l)
  | [], _ => List.Pairwise.nil
  | n :: r, h => by
    obtain ⟨h1, h2⟩ := List.pairwise_cons.1 h
    exact ins_up (sortN_up h2) (fun m hm e => h1 m ((sortN_perm r).mem_iff.1 hm) e.symm)
theorem up_unique : ∀ {a b : List ByteArray}, Up a → Up b → (∀ x, x ∈ a ↔ x ∈ b) → a = b
  | [], [], _, _, _ => rfl
  | [], y :: b, _, _, h => absurd ((h y).2 (List.mem_cons_self ..)) (by simp)
  | x :: a, [], _, _, h => absurd ((h x).1 (List.mem_cons_self ..)) (by simp)
  | x :: a, y :: b, ha, hb, h => by
    obtain ⟨a1, a2⟩ := List.pairwise_cons.1 ha
    obtain ⟨b1, b2⟩ := List.pairwise_cons.1 hb
    have hxy : x = y := by
      rcases List.mem_cons.1 ((h x).1 (List.mem_cons_self ..)) with e | hx
      · exact e
      · rcases List.mem_cons.1 ((h y).2 (List.mem_cons_self ..)) with e | hy
        · exact e.symm
        · have := Lab.lt_asymm (a1 y hy)
          rw [b1 x hx] at this; cases this
    subst hxy
    have irr : ∀ {c : List ByteArray}, (∀ z ∈ c, Lab.lt x z = true) → x ∉ c := fun hc hm => by
      have := hc x hm
      rw [Lab.lt_irrefl] at this; cases this
    rw [up_unique a2 b2 (fun z => ?_)]
    constructor
    · intro hz
      rcases List.mem_cons.1 ((h z).1 (List.mem_cons_of_mem _ hz)) with rfl | k
      · exact absurd hz (irr a1)
      · exact k
    · intro hz
      rcases List.mem_cons.1 ((h z).2 (List.mem_cons_of_mem _ hz)) with rfl | k
      · exact absurd hz (irr b1)
      · exact k
theorem sortN_eq {a b : List ByteArray} (ha : a.Pairwise (fun x y => x ≠ y)) (h : a.Perm b) : sortN a = sortN b := by
  have hb : b.Pairwise (fun x y => x ≠ y) := h.pairwise ha (fun h e => h e.symm)
  exact up_unique (sortN_up ha) (sortN_up hb) (fun x => by rw [(sortN_perm a).mem_iff, (sortN_perm b).mem_iff, h.mem_iff])
theorem names_ne {r : Row} (h : r.Pairwise (fun p q => p.1 ≠ q.1)) : (names r).Pairwise (fun a b => a ≠ b) := by
  unfold names
  rw [List.pairwise_map]
  exact h
theorem mem_list {d : Dk} {n : ByteArray} : n ∈ list d ↔ ∃ f, (n, f) ∈ dir d := by
  unfold list
  rw [(sortN_perm _).mem_iff]
  unfold names
  simp

/-! ## What is left -/
theorem split_perm {α : Type} (f : α → Nat) : ∀ (N : Nat) (r : List α), ((List.range N).flatMap fun n => r.filter (fun p => decide (f p = n))).Perm (r.filter (fun p => decide (f p < N)))
  | 0, r => by
    have : r.filter (fun p => decide (f p < 0)) = [] := List.filter_eq_nil_iff.2 (fun p _ => by simp)
    rw [this]; exact List.Perm.refl _
  | N + 1, r => by
    rw [List.range_succ, List.flatMap_append]
    have h1 := split_perm f N r
    have h2 : (r.filter (fun p => decide (f p < N)) ++ r.filter (fun p => decide (f p = N))).Perm (r.filter (fun p => decide (f p < N + 1))) := by
      clear h1
      induction r with
      | nil => exact List.Perm.refl _
      | cons p r ih =>
        by_cases a : f p < N
        · rw [List.filter_cons_of_pos (by simpa using a), List.filter_cons_of_neg (by simp; omega), List.filter_cons_of_pos (by simp; omega)]
          exact ih.cons p
        · by_cases b : f p = N
          · rw [List.filter_cons_of_neg (by simpa using a), List.filter_cons_of_pos (by simpa using b), List.filter_cons_of_pos (by simp; omega)]
            exact List.perm_middle.trans (ih.cons p)
          · rw [List.filter_cons_of_neg (by simpa using a), List.filter_cons_of_neg (by simpa using b), List.filter_cons_of_neg (by simp; omega)]
            exact ih
    simp only [List.flatMap_cons, List.flatMap_nil, List.append_nil]
    exact (h1.append_right _).trans h2
theorem row_perm {N : Nat} {r : Row} (h : ∀ p ∈ r, p.2 < N) : ((List.range N).flatMap fun n => r.filter (fun p => decide (p.2 = n))).Perm r := by
  have h1 := split_perm (fun p : ByteArray × Nat => p.2) N r
  rwa [List.filter_eq_self.2 (fun p hp => by simpa using h p hp)] at h1
theorem rowAt_mem {d : Dk} (h : Ok d) (k : Int) : rowAt d k ∈ d.dirs := by
  unfold rowAt
  have hl : 0 < d.dirs.length := List.length_pos_iff.2 h.some
  rw [List.getD_eq_getElem?_getD, List.getElem?_eq_getElem (by omega)]
  exact List.getElem_mem _
/-- Each name of that row, with what its file is. -/
theorem picks_perm {d : Dk} (h : Ok d) (k : Int) (ks : List Int) : (picks d k ks).Perm ((rowAt d k).map (fun p => (p.1, momAt d ks p.2))) := by
  have hr := h.rows _ (rowAt_mem h k)
  have h1 := (row_perm (fun p hp => (hr.1 p hp).2)).map (fun p => (p.1, momAt d ks p.2))
  refine List.Perm.trans (List.Perm.of_eq ?_) h1
  unfold picks
  rw [List.map_flatMap]
  congr 1
  funext n
  refine List.map_congr_left fun p hp => ?_
  have := of_decide_eq_true (List.mem_filter.1 hp).2
  rw [this]
theorem numbered_names : ∀ (i : Nat) (l : List (ByteArray × By)), names (numbered i l) = l.map (·.1)
  | _, [] => rfl
  | i, p :: r => by simp only [numbered, names, List.map_cons]; rw [← numbered_names (i + 1) r]; rfl
theorem numbered_at : ∀ (i : Nat) (l : List (ByteArray × By)) (j : Nat) (h : j < l.length), (numbered i l)[j]? = some (l[j].1, i + j)
  | i, p :: r, 0, _ => rfl
  | i, p :: r, j + 1, h => by
    simp only [numbered, List.getElem?_cons_succ, List.getElem_cons_succ]
    rw [numbered_at (i + 1) r j (by simpa using h), show i + 1 + j = i + (j + 1) by omega]
theorem numbered_len : ∀ (i : Nat) (l : List (ByteArray × By)), (numbered i l).length = l.length
  | _, [] => rfl
  | i, p :: r => by simp [numbered, numbered_len (i + 1) r]
theorem numbered_mem {l : List (ByteArray × By)} {q : ByteArray × Nat} {i : Nat} (h : q ∈ numbered i l) : ∃ j, ∃ hj : j < l.length, q = (l[j].1, i + j) := by
  obtain ⟨j, hj, e⟩ := List.getElem_of_mem h
  rw [numbered_len] at hj
  have := numbered_at i l j hj
  rw [List.getElem?_eq_getElem (by rw [numbered_len]; exact hj)] at this
  exact ⟨j, hj, by rw [← e]; exact Option.some.inj this⟩
theorem numbered_idx (i : Nat) (l : List (ByteArray × By)) : (numbered i l).Pairwise (fun p q => p.2 ≠ q.2) := by
  induction l generalizing i with
  | nil => exact List.Pairwise.nil
  | cons p r ih =>
    refine List.pairwise_cons.2 ⟨fun q hq => ?_, ih (i + 1)⟩
    obtain ⟨j, _, rfl⟩ := numbered_mem hq
    simp only; omega

theorem picks_names {d : Dk} (h : Ok d) (k : Int) (ks : List Int) : ((picks d k ks).map (·.1)).Perm (names (rowAt d k)) := by
  have := (picks_perm h k ks).map (·.1)
  rw [List.map_map] at this
  exact this
theorem picks_ne {d : Dk} (h : Ok d) (k : Int) (ks : List Int) : ((picks d k ks).map (·.1)).Pairwise (fun a b => a ≠ b) :=
  (picks_names h k ks).symm.pairwise (names_ne (h.rows _ (rowAt_mem h k)).2.1) (fun h e => h e.symm)
theorem crash_dir (k : Int) (ks : List Int) (d : Dk) : dir (crash k ks d) = numbered 0 (picks d k ks) := rfl
theorem crash_ok {d : Dk} (h : Ok d) (k : Int) (ks : List Int) : Ok (crash k ks d) := by
  refine ⟨fun r hr => ?_, by simp [crash], fun x hx => ?_, by simp [crash]⟩
  · simp only [crash, List.mem_singleton] at hr
    subst hr
    refine ⟨fun q hq => ?_, ?_, numbered_idx _ _⟩
    · obtain ⟨j, hj, rfl⟩ := numbered_mem hq
      refine ⟨?_, by simp only [crash, List.length_map]; omega⟩
      have hm : (picks d k ks)[j].1 ∈ names (rowAt d k) := (picks_names h k ks).mem_iff.1 (List.mem_map_of_mem (List.getElem_mem hj))
      obtain ⟨p, hp, e⟩ := List.mem_map.1 hm
      rw [← e]
      exact ((h.rows _ (rowAt_mem h k)).1 p hp).1
    · have := picks_ne h k ks
      rw [← numbered_names 0, names, List.pairwise_map] at this
      exact this
  · simp only [crash, List.mem_map] at hx
    obtain ⟨p, _, rfl⟩ := hx
    simp
theorem crash_hist {d : Dk} {k : Int} {ks : List Int} {j : Nat} (hj : j < (picks d k ks).length) : hist (crash k ks d) j = [(picks d k ks)[j].2] := by
  unfold hist crash
  simp [List.getD_eq_getElem?_getD, List.getElem?_map, List.getElem?_eq_getElem hj]
theorem crash_now {d : Dk} {k : Int} {ks : List Int} {j : Nat} (hj : j < (picks d k ks).length) : now (crash k ks d) j = (picks d k ks)[j].2 := by
  unfold now; rw [crash_hist hj]; rfl
/-- What a name has then. -/
theorem crash_read {d : Dk} (h : Ok d) (k : Int) (ks : List Int) {n : ByteArray} {f : Nat} (hn : (n, f) ∈ rowAt d k) : read n (crash k ks d) = (momAt d ks f, 0) := by
  have hm : (n, momAt d ks f) ∈ picks d k ks := (picks_perm h k ks).mem_iff.2 (List.mem_map.2 ⟨(n, f), hn, rfl⟩)
  obtain ⟨j, hj, e⟩ := List.getElem_of_mem hm
  have h1 : (n, j) ∈ dir (crash k ks d) := by
    rw [crash_dir]
    have := numbered_at 0 (picks d k ks) j hj
    rw [e, Nat.zero_add] at this
    exact List.mem_of_getElem? this
  have h2 := find_mem (crash_ok h k ks).row.2.1 h1
  unfold read
  rw [if_neg (by simp [crash]), h2]
  simp only
  rw [crash_now hj, e]
theorem crash_none {d : Dk} (h : Ok d) (k : Int) (ks : List Int) {n : ByteArray} (hn : ∀ p ∈ rowAt d k, p.1 ≠ n) : read n (crash k ks d) = ([], 5) := by
  have h2 : find (dir (crash k ks d)) n = none := by
    refine find_none.2 fun p hp e => ?_
    rw [crash_dir] at hp
    obtain ⟨j, hj, rfl⟩ := numbered_mem hp
    have hm := (picks_names h k ks).mem_iff.1 (List.mem_map_of_mem (List.getElem_mem hj))
    obtain ⟨q, hq, e'⟩ := List.mem_map.1 hm
    exact hn q hq (e'.trans e)
  unfold read
  rw [if_neg (by simp [crash]), h2]
theorem crash_list {d : Dk} (h : Ok d) (k : Int) (ks : List Int) : list (crash k ks d) = sortN (names (rowAt d k)) := by
  unfold list
  rw [crash_dir, numbered_names]
  exact sortN_eq (picks_ne h k ks) (picks_names h k ks)
theorem numbered_sum (g : Nat → Nat) (l : List (ByteArray × By)) : ∀ (i : Nat), (∀ j (hj : j < l.length), g (i + j) = l[j].2.length) → ((numbered i l).map (fun p => g p.2)).sum = (l.map (fun p => p.2.length)).sum := by
  induction l with
  | nil => exact fun _ _ => rfl
  | cons p r ih =>
    intro i h
    simp only [numbered, List.map_cons, List.sum_cons]
    have h0 := h 0 (by simp)
    rw [Nat.add_zero] at h0
    simp only [List.getElem_cons_zero] at h0
    rw [h0, ih (i + 1) (fun j hj => by have := h (j + 1) (by simpa using hj); rw [show i + 1 + j = i + (j + 1) by omega]; simpa using this)]
theorem crash_used {d : Dk} (h : Ok d) (k : Int) (ks : List Int) : used (crash k ks d) = ((rowAt d k).map (fun p => (momAt d ks p.2).length)).sum := by
  unfold used
  rw [crash_dir, numbered_sum (fun j => (now (crash k ks d) j).length) _ 0 (fun j hj => by rw [Nat.zero_add, crash_now hj])]
  have := ((picks_perm h k ks).map (fun p => p.2.length)).sum_nat
  rw [this, List.map_map]
  rfl
/-- A second time nothing more is lost. -/
theorem filter_numbered : ∀ (i : Nat) (l : List (ByteArray × By)) (j : Nat) (h : j < l.length), (numbered i l).filter (fun p => decide (p.2 = i + j)) = [(l[j].1, i + j)]
  | i, p :: r, 0, _ => by
    simp only [numbered, Nat.add_zero, List.getElem_cons_zero]
    rw [List.filter_cons_of_pos (by simp), List.filter_eq_nil_iff.2 ?_]
    intro q hq
    obtain ⟨j, _, rfl⟩ := numbered_mem hq
    simp; omega
  | i, p :: r, j + 1, h => by
    simp only [numbered, List.getElem_cons_succ]
    rw [List.filter_cons_of_neg (by simp)]
    have := filter_numbered (i + 1) r j (by simpa using h)
    rw [show i + 1 + j = i + (j + 1) by omega] at this
    exact this
theorem range_map_get {α : Type} (l : List α) (g : Nat → List α) (h : ∀ j (hj : j < l.length), g j = [l[j]]) : (List.range l.length).flatMap g = l := by
  have : (List.range l.length).flatMap g = (List.range l.length).flatMap (fun j => match l[j]? with | some x => [x] | none => []) := by
    have hc : ∀ j ∈ List.range l.length, g j = (match l[j]? with | some x => [x] | none => []) := fun j hj => by
      rw [List.mem_range] at hj
      rw [h j hj, List.getElem?_eq_getElem hj]
    rw [List.flatMap_def, List.flatMap_def, List.map_congr_left hc]
  rw [this]
  clear this h g
  induction l with
  | nil => rfl
  | cons x r ih =>
    rw [List.length_cons, List.range_succ_eq_map, List.flatMap_cons, List.flatMap_map]
    simp only [List.getElem?_cons_zero, List.getElem?_cons_succ, List.cons_append, List.nil_append]
    rw [ih]
theorem crash_crash (j : Int) (js : List Int) (k : Int) (ks : List Int) (d : Dk) : crash j js (crash k ks d) = crash k ks d := by
  have hp : picks (crash k ks d) j js = picks d k ks := by
    unfold picks
    have hl : (crash k ks d).files.length = (picks d k ks).length := by simp [crash]
    rw [hl]
    refine range_map_get (picks d k ks) _ fun n hn => ?_
    have hr : rowAt (crash k ks d) j = numbered 0 (picks d k ks) := by
      unfold rowAt
      have : (min j (((crash k ks d).dirs.length : Int) - 1)).toNat = 0 := by simp only [crash, List.length_singleton]; omega
      rw [this]; rfl
    rw [hr]
    have := filter_numbered 0 (picks d k ks) n hn
    rw [Nat.zero_add] at this
    rw [this]
    have hm : momAt (crash k ks d) js n = (picks d k ks)[n].2 := by
      unfold momAt
      rw [crash_hist hn]
      split
      · have : (min (js.getD n 0) (([(picks d k ks)[n].2].length : Int) - 1)).toNat = 0 := by simp only [List.length_singleton]; omega
        rw [this]; rfl
      · rfl
    simp [hm]
  show Dk.mk _ _ _ _ _ _ = Dk.mk _ _ _ _ _ _
  rw [hp]
  rfl


/-! ## What fits -/
theorem sum_le {α : Type} (l : List α) (g h : α → Nat) (k : ∀ x ∈ l, g x ≤ h x) : (l.map g).sum ≤ (l.map h).sum := by
  induction l with
  | nil => exact Nat.le_refl _
  | cons x r ih =>
    simp only [List.map_cons, List.sum_cons]
    have := ih (fun y hy => k y (List.mem_cons_of_mem _ hy))
    have := k x (List.mem_cons_self ..)
    omega
theorem sum_eq {α : Type} (l : List α) (g h : α → Nat) (k : ∀ x ∈ l, g x = h x) : (l.map g).sum = (l.map h).sum := by rw [List.map_congr_left k]
theorem sum_filter {α : Type} (l : List α) (g : α → Nat) (p : α → Bool) : ((l.filter p).map g).sum ≤ (l.map g).sum := by
  induction l with
  | nil => exact Nat.le_refl _
  | cons x r ih =>
    by_cases h : p x = true
    · rw [List.filter_cons_of_pos h]; simp only [List.map_cons, List.sum_cons]; omega
    · rw [List.filter_cons_of_neg h]; simp only [List.map_cons, List.sum_cons]; omega
theorem sum_change {r : Row} (hr : r.Pairwise (fun p q => p.2 ≠ q.2)) {g h : Nat → Nat} {f : Nat} (k : ∀ i, i ≠ f → h i = g i) {n : ByteArray} (hm : (n, f) ∈ r) : (r.map (fun p => h p.2)).sum + g f = (r.map (fun p => g p.2)).sum + h f := by
  induction r with
  | nil => simp at hm
  | cons p r ih =>
    obtain ⟨h1, h2⟩ := List.pairwise_cons.1 hr
    simp only [List.map_cons, List.sum_cons]
    rcases List.mem_cons.1 hm with e | hm
    · subst e
      rw [sum_eq r (fun p => h p.2) (fun p => g p.2) (fun q hq => k q.2 (fun e => h1 q hq e.symm))]
      simp only; omega
    · have := ih h2 hm
      rw [k p.2 (h1 _ hm)]
      omega
theorem without_sum {r : Row} {g : ByteArray × Nat → Nat} {n : ByteArray} {f : Nat} (hm : (n, f) ∈ r) : ((without r n).map g).sum + g (n, f) ≤ (r.map g).sum := by
  induction r with
  | nil => simp at hm
  | cons p r ih =>
    unfold without at *
    simp only [List.map_cons, List.sum_cons]
    rcases List.mem_cons.1 hm with e | hm
    · subst e
      rw [List.filter_cons_of_neg (by simp)]
      have := sum_filter r g (fun p => decide (p.1 ≠ n))
      omega
    · have := ih hm
      by_cases h : p.1 = n
      · rw [List.filter_cons_of_neg (by simpa using h)]; omega
      · rw [List.filter_cons_of_pos (by simpa using h)]
        simp only [List.map_cons, List.sum_cons]; omega
theorem now_set (d : Dk) {f : Nat} (hf : f < d.files.length) (l : List By) (k : Nat) (i : Nat) : now { d with fail := k, files := d.files.set f l } i = if i = f then l.getLastD [] else now d i := by
  unfold now
  show ((d.files.set f l).getD i []).getLastD [] = _
  rw [hist_set d hf]
  split <;> rfl
theorem used_set {d : Dk} (h : Ok d) {n : ByteArray} {f : Nat} (hf : find (dir d) n = some f) (l : List By) (k : Nat) : used { d with fail := k, files := d.files.set f l } + (now d f).length = used d + (l.getLastD []).length := by
  unfold used
  show ((dir d).map _).sum + _ = _
  have := sum_change h.row.2.2 (g := fun i => (now d i).length) (h := fun i => (now { d with fail := k, files := d.files.set f l } i).length) (f := f) (fun i hi => by rw [now_set d (find_lt h hf), if_neg hi]) (find_some hf)
  rw [now_set d (find_lt h hf) l k f, if_pos rfl] at this
  exact this
theorem fronts_last (h : List By) (b s : By) (hb : h.getLastD [] = b) : (h ++ fronts b s).getLastD [] = b ++ s := by
  rw [List.getLastD_eq_getLast?, List.getLast?_append]
  cases s with
  | nil => simp only [fronts, List.length_nil, List.range_zero, List.map_nil, List.getLast?_nil, Option.none_or, List.append_nil]; rw [← hb, List.getLastD_eq_getLast?]
  | cons x r =>
    have : (fronts b (x :: r)).getLast? = some (b ++ (x :: r)) := by
      unfold fronts
      rw [List.length_cons, List.range_succ, List.map_append, List.map_singleton, List.getLast?_concat]
      simp
    rw [this]; rfl
theorem take_last (h : List By) (c : By) : (h ++ [c]).getLastD [] = c := by simp [List.getLastD_eq_getLast?]
theorem now_on (d : Dk) (f : Nat) : now (on d) f = now d f := rfl
theorem used_on (d : Dk) : used (on d) = used d := rfl
theorem on_ok {d : Dk} (h : Ok d) : Ok (on d) := act_ok (f := fun d => (d, 0)) (d := d) h (fun _ h => h) |> fun k => by
  unfold act at k
  split at k
  · rename_i e
    refine ⟨h.rows, h.some, h.hists, ?_⟩
    unfold on; simp only; rw [e]; simp
  · exact k
def Fits (d : Dk) : Prop := used d ≤ d.room
theorem act_fits {d : Dk} {f : Dk → Dk × Int} (hk : Ok d) (h : Fits d) (hf : ∀ d, Ok d → Fits d → Fits (f d).1) : Fits (act d f).1 := by
  unfold act
  split
  · exact h
  · exact hf _ (on_ok hk) h
theorem row_fits {d : Dk} (h : Fits d) (r : Row) (hr : (r.map (fun p => (now d p.2).length)).sum ≤ used d) : Fits { d with dirs := d.dirs ++ [r] } := by
  unfold Fits used
  rw [dir_snoc d d.dirs r]
  exact Nat.le_trans hr h
theorem create_fits (n : ByteArray) {d : Dk} (hk : Ok d) (h : Fits d) : Fits (create n d).1 := by
  refine act_fits hk h fun d hk h => ?_
  unfold createB
  split
  · exact h
  · split
    · exact h
    · show used _ ≤ d.room
      unfold used
      rw [dir_snoc { d with files := d.files ++ [[[]]] } d.dirs _, List.map_append, List.sum_append]
      have h1 : ((without (dir d) n).map (fun p => (now { d with files := d.files ++ [[[]]], dirs := d.dirs ++ [without (dir d) n ++ [(n, d.files.length)]] } p.2).length)).sum ≤ used d := by
        refine Nat.le_trans (Nat.le_of_eq (sum_eq _ _ (fun p => (now d p.2).length) fun p hp => ?_)) (sum_filter _ _ _)
        have := (hk.row.1 p (without_sub hp)).2
        unfold now hist
        simp only
        rw [List.getD_eq_getElem?_getD, List.getElem?_append_left this, ← List.getD_eq_getElem?_getD]
      have h2 : now { d with files := d.files ++ [[[]]], dirs := d.dirs ++ [without (dir d) n ++ [(n, d.files.length)]] } d.files.length = [] := by
        unfold now hist
        simp [List.getD_eq_getElem?_getD]
      simp only [List.map_cons, List.map_nil, List.sum_cons, List.sum_nil, h2, List.length_nil]
      unfold Fits at h
      omega
theorem append_fits (n : ByteArray) (s : By) {d : Dk} (hk : Ok d) (h : Fits d) : Fits (append n s d).1 := by
  refine act_fits hk h fun d hk h => ?_
  unfold appendB
  split
  · exact h
  · rename_i f hf
    split
    · exact h
    · rename_i hr
      split
      · exact h
      · have := used_set hk hf (hist d f ++ fronts (now d f) s) (d.fail - 1)
        rw [fronts_last (hist d f) (now d f) s rfl, List.length_append] at this
        show used { d with fail := d.fail - 1, files := d.files.set f (hist d f ++ fronts (now d f) s) } ≤ d.room
        omega
theorem cut_fits (n : ByteArray) (to : Int) {d : Dk} (hk : Ok d) (h : Fits d) : Fits (cut n to d).1 := by
  refine act_fits hk h fun d hk h => ?_
  unfold cutB
  split
  · exact h
  · rename_i f hf
    split
    · exact h
    · have := used_set hk hf (hist d f ++ [(now d f).take to.toNat]) d.fail
      rw [take_last, List.length_take] at this
      unfold Fits at h
      show used { d with fail := d.fail, files := d.files.set f (hist d f ++ [(now d f).take to.toNat]) } ≤ d.room
      omega
theorem sync_fits (n : ByteArray) {d : Dk} (hk : Ok d) (h : Fits d) : Fits (sync n d).1 := by
  refine act_fits hk h fun d hk h => ?_
  unfold syncB
  split
  · exact h
  · rename_i f hf
    split
    · exact h
    · have := used_set hk hf [now d f] (d.fail - 1)
      unfold Fits at h
      show used { d with fail := d.fail - 1, files := d.files.set f [now d f] } ≤ d.room
      simp only [List.getLastD_cons, List.getLastD_nil] at this
      omega
theorem rename_fits (n m : ByteArray) {d : Dk} (hk : Ok d) (h : Fits d) : Fits (rename n m d).1 := by
  refine act_fits hk h fun d hk h => ?_
  unfold renameB
  split
  · exact h
  · rename_i f hf
    split
    · exact h
    · refine row_fits h _ ?_
      rw [List.map_append, List.sum_append]
      simp only [List.map_cons, List.map_nil, List.sum_cons, List.sum_nil]
      have h1 : ((without (without (dir d) n) m).map (fun p => (now d p.2).length)).sum ≤ ((without (dir d) n).map (fun p => (now d p.2).length)).sum := sum_filter _ _ _
      have h2 := without_sum (g := fun p => (now d p.2).length) (find_some hf)
      unfold used
      simp only at h2
      omega
theorem remove_fits (n : ByteArray) {d : Dk} (hk : Ok d) (h : Fits d) : Fits (remove n d).1 := by
  refine act_fits hk h fun d hk h => ?_
  unfold removeB
  split
  · exact h
  · exact row_fits h _ (sum_filter _ _ _)
theorem syncDir_fits {d : Dk} (hk : Ok d) (h : Fits d) : Fits (syncDir d).1 := by
  refine act_fits hk h fun d hk h => ?_
  unfold syncDirB
  exact h

end Go.Proofs.YtpbiongoigbmpaaGreat.Dsk
namespace Go.Proofs.YtpbiongoigbmpaaGreat.Dsk
open Go.Proofs.YtpbiongoigbmpaaGreat

abbrev Ct := Nat × By
structure Fl where
  text : By
  cuts : List Ct
  grown : Nat

/-! ## A file's moments, found backwards -/
def segs (t : By) (g : Nat) : List By := (List.range (g + 1)).map (fun i => t.take (t.length - g + i))
def histR : List Ct → By → Nat → List By
  | [], t, g => segs t g
  | c :: r, t, g => histR r (t.take (t.length - g) ++ c.2) c.1 ++ segs t g
def wfR : List Ct → By → Nat → Prop
  | [], t, g => g ≤ t.length
  | c :: r, t, g => g ≤ t.length ∧ wfR r (t.take (t.length - g) ++ c.2) c.1
def momR : List Ct → Nat → Nat
  | [], g => g
  | c :: r, g => momR r c.1 + g + 1
def behindR : List Ct → By → Nat → Nat → By
  | [], t, _, back => t.take (t.length - back)
  | c :: r, t, g, back => if back ≤ g then t.take (t.length - back) else behindR r (t.take (t.length - g) ++ c.2) c.1 (back - (g + 1))
def moms (f : Fl) : Nat := f.grown + (f.cuts.map (fun c => c.1 + 1)).sum
structure FRel (f : Fl) (h : List By) : Prop where
  wf : wfR f.cuts.reverse f.text f.grown
  eq : h = histR f.cuts.reverse f.text f.grown

theorem segs_len (t : By) (g : Nat) : (segs t g).length = g + 1 := by simp [segs]
theorem segs_at (t : By) {g i : Nat} (h : i ≤ g) : (segs t g).getD i [] = t.take (t.length - g + i) := by
  unfold segs
  rw [List.getD_eq_getElem?_getD, List.getElem?_map, List.getElem?_range (by omega)]
  rfl
theorem segs_last (t : By) (g : Nat) : (segs t g).getLast? = some t := by
  unfold segs
  rw [List.range_succ, List.map_append, List.map_singleton, List.getLast?_concat, List.take_of_length_le (by omega)]
theorem segs_zero (t : By) : segs t 0 = [t] := by simp [segs]
theorem segs_grow (t s : By) {g : Nat} (h : g ≤ t.length) : segs (t ++ s) (g + s.length) = segs t g ++ fronts t s := by
  unfold segs fronts
  rw [show g + s.length + 1 = (g + 1) + s.length by omega, List.range_add, List.map_append, List.map_map]
  congr 1
  · refine List.map_congr_left fun i hi => ?_
    rw [List.mem_range] at hi
    rw [List.length_append, show t.length + s.length - (g + s.length) + i = t.length - g + i by omega, List.take_append_of_le_length (by omega)]
  · refine List.map_congr_left fun i hi => ?_
    simp only [Function.comp]
    rw [List.length_append, show t.length + s.length - (g + s.length) + (g + 1 + i) = t.length + (i + 1) by omega, List.take_append, List.take_of_length_le (l := t) (by omega), show t.length + (i + 1) - t.length = i + 1 by omega]
theorem wfR_g : ∀ {r : List Ct} {t : By} {g : Nat}, wfR r t g → g ≤ t.length
  | [], _, _, h => h
  | _ :: _, _, _, h => h.1
theorem histR_len : ∀ (r : List Ct) (t : By) (g : Nat), (histR r t g).length = momR r g + 1
  | [], t, g => segs_len t g
  | c :: r, t, g => by simp only [histR, List.length_append, histR_len r, segs_len, momR]; omega
theorem histR_last (r : List Ct) (t : By) (g : Nat) : (histR r t g).getLast? = some t := by
  cases r with
  | nil => exact segs_last t g
  | cons c r => simp only [histR, List.getLast?_append, segs_last, Option.some_or]
theorem momR_eq : ∀ (r : List Ct) (g : Nat), momR r g = g + (r.map (fun c => c.1 + 1)).sum
  | [], g => by simp [momR]
  | c :: r, g => by simp only [momR, List.map_cons, List.sum_cons, momR_eq r]; omega
theorem moms_eq (f : Fl) : momR f.cuts.reverse f.grown = moms f := by
  rw [momR_eq, moms, List.map_reverse]
  congr 1
  exact (List.reverse_perm _).sum_nat
theorem histR_grow (s : By) : ∀ (r : List Ct) (t : By) (g : Nat), wfR r t g → wfR r (t ++ s) (g + s.length) ∧ histR r (t ++ s) (g + s.length) = histR r t g ++ fronts t s
  | [], t, g, h => ⟨by show _ ≤ _; rw [List.length_append]; exact Nat.add_le_add_right h _, segs_grow t s h⟩
  | c :: r, t, g, h => by
    have e : (t ++ s).take ((t ++ s).length - (g + s.length)) = t.take (t.length - g) := by
      rw [List.length_append, show t.length + s.length - (g + s.length) = t.length - g by omega, List.take_append_of_le_length (by omega)]
    refine ⟨⟨by rw [List.length_append]; have := h.1; omega, by rw [e]; exact h.2⟩, ?_⟩
    simp only [histR]
    rw [e, segs_grow t s h.1, List.append_assoc]
theorem FRel.grow {f : Fl} {h : List By} (k : FRel f h) (s : By) : FRel { f with text := f.text ++ s, grown := f.grown + s.length } (h ++ fronts f.text s) := by
  obtain ⟨a, b⟩ := histR_grow s _ _ _ k.wf
  exact ⟨a, by rw [k.eq]; exact b.symm⟩
theorem FRel.cut {f : Fl} {h : List By} (k : FRel f h) (n : Nat) : FRel { text := f.text.take n, cuts := f.cuts ++ [(f.grown, f.text.drop n)], grown := 0 } (h ++ [f.text.take n]) := by
  have e : (f.text.take n).take ((f.text.take n).length - 0) ++ f.text.drop n = f.text := by
    rw [Nat.sub_zero, List.take_length, List.take_append_drop]
  refine ⟨?_, ?_⟩
  · show wfR (f.cuts ++ [_]).reverse _ 0
    rw [List.reverse_append]
    simp only [List.reverse_singleton, List.singleton_append]
    refine ⟨Nat.zero_le _, ?_⟩
    rw [e]; exact k.wf
  · show _ = histR (f.cuts ++ [_]).reverse _ 0
    rw [List.reverse_append]
    simp only [List.reverse_singleton, List.singleton_append, histR]
    rw [e, segs_zero, k.eq]
theorem FRel.sync {f : Fl} (t : By) (e : t = f.text) : FRel { f with cuts := [], grown := 0 } [t] := by
  subst e
  exact ⟨Nat.zero_le _, (segs_zero _).symm⟩
theorem FRel.new : FRel ⟨[], [], 0⟩ [[]] := ⟨Nat.zero_le _, (segs_zero _).symm⟩
theorem FRel.one (t : By) : FRel ⟨t, [], 0⟩ [t] := ⟨Nat.zero_le _, (segs_zero _).symm⟩
theorem FRel.last {f : Fl} {h : List By} (k : FRel f h) : h.getLastD [] = f.text := by
  rw [k.eq, List.getLastD_eq_getLast?, histR_last]; rfl
theorem FRel.len {f : Fl} {h : List By} (k : FRel f h) : h.length = moms f + 1 := by rw [k.eq, histR_len, moms_eq]
theorem behindR_eq : ∀ (r : List Ct) (t : By) (g back : Nat), wfR r t g → back ≤ momR r g → behindR r t g back = (histR r t g).getD (momR r g - back) []
  | [], t, g, back, h, hb => by
    simp only [wfR] at h
    simp only [momR] at hb
    simp only [behindR, histR, momR]
    rw [segs_at t (by omega)]
    congr 1; omega
  | c :: r, t, g, back, h, hb => by
    simp only [momR] at hb
    have hl := histR_len r (t.take (t.length - g) ++ c.2) c.1
    have hg := h.1
    simp only [behindR, histR, momR]
    rw [List.getD_eq_getElem?_getD]
    split
    · rename_i hk
      rw [List.getElem?_append_right (by rw [hl]; omega), hl, ← List.getD_eq_getElem?_getD, show momR r c.1 + g + 1 - back - (momR r c.1 + 1) = g - back by omega, segs_at t (by omega)]
      congr 1; omega
    · rename_i hk
      rw [List.getElem?_append_left (by rw [hl]; omega), ← List.getD_eq_getElem?_getD, behindR_eq r _ _ _ h.2 (by omega), show momR r c.1 + g + 1 - back = momR r c.1 - (back - (g + 1)) by omega]
/-- What the file had behind so many moments. -/
def behind (f : Fl) (k : Nat) : By := behindR f.cuts.reverse f.text f.grown (moms f - k)
theorem FRel.behind {f : Fl} {h : List By} (r : FRel f h) {k : Nat} (hk : k ≤ moms f) : Dsk.behind f k = h.getD k [] := by
  unfold Dsk.behind
  rw [behindR_eq _ _ _ _ r.wf (by rw [moms_eq]; omega), moms_eq, r.eq]
  congr 1; omega
theorem histR_mem (r : List Ct) (t : By) (g : Nat) : t ∈ histR r t g := List.mem_of_getLast? (histR_last r t g)
/-! ## Names, found backwards -/
abbrev Nm := ByteArray → Option Nat
abbrev Hold := ByteArray × Option Nat
def putN (h : Hold) (f : Nm) : Nm := fun m => if m = h.1 then h.2 else f m
def undo (c : List Hold) (f : Nm) : Nm := c.foldr putN f
def undoAll (cs : List (List Hold)) (f : Nm) : Nm := cs.foldr undo f
structure NRel (f : Nm) (cs : List (List Hold)) (ds : List Row) : Prop where
  len : ds.length = cs.length + 1
  all : ∀ k, k ≤ cs.length → ∀ n, undoAll (cs.drop k) f n = find (ds.getD k []) n
def chg : List Hold → List Hold → Nm → List Hold × Nm
  | [], c, f => (c, f)
  | h :: r, c, f => chg r (c ++ [(h.1, f h.1)]) (putN h f)
theorem put_back (h : Hold) (f : Nm) : putN (h.1, f h.1) (putN h f) = f := by
  funext m
  unfold putN
  simp only
  split
  · rename_i e; rw [e]
  · rfl
theorem chg_undo : ∀ (now c : List Hold) (f : Nm), undo (chg now c f).1 (chg now c f).2 = undo c f
  | [], _, _ => rfl
  | h :: r, c, f => by
    rw [chg, chg_undo r]
    unfold undo
    rw [List.foldr_append, List.foldr_cons, List.foldr_nil, put_back]
theorem NRel.now {f : Nm} {cs : List (List Hold)} {d : Dk} (h : NRel f cs d.dirs) (n : ByteArray) : f n = find (dir d) n := by
  have := h.all cs.length (Nat.le_refl _) n
  rw [List.drop_length] at this
  refine Eq.trans this ?_
  congr 1
  unfold dir
  rw [List.getLastD_eq_getLast?, List.getLast?_eq_getElem?, List.getD_eq_getElem?_getD, h.len]
  rfl
theorem NRel.add {f f' : Nm} {cs : List (List Hold)} {ds : List Row} (h : NRel f cs ds) {c : List Hold} {row : Row} (hu : undo c f' = f) (hr : ∀ n, f' n = find row n) : NRel f' (cs ++ [c]) (ds ++ [row]) := by
  refine ⟨by simp only [List.length_append, List.length_singleton, h.len], fun k hk n => ?_⟩
  by_cases e : k ≤ cs.length
  · rw [List.drop_append_of_le_length e]
    unfold undoAll
    rw [List.foldr_append, List.foldr_cons, List.foldr_nil, hu]
    refine (h.all k e n).trans ?_
    rw [List.getD_eq_getElem?_getD, List.getD_eq_getElem?_getD, List.getElem?_append_left (by rw [h.len]; omega)]
  · rw [List.length_append, List.length_singleton] at hk
    have hk : k = cs.length + 1 := by omega
    subst hk
    rw [List.drop_of_length_le (by simp)]
    refine (hr n).trans ?_
    rw [List.getD_eq_getElem?_getD, ← h.len, List.getElem?_concat_length]
    rfl
theorem NRel.one {f : Nm} {row : Row} (h : ∀ n, f n = find row n) : NRel f [] [row] := ⟨rfl, fun k hk n => by
  have : k = 0 := by simpa using hk
  subst this
  exact h n⟩
theorem find_without (r : Row) (n m : ByteArray) : find (without r n) m = if m = n then none else find r m := by
  induction r with
  | nil => simp [without, find]
  | cons p r ih =>
    obtain ⟨x, i⟩ := p
    unfold without at ih ⊢
    by_cases e : x = n
    · rw [List.filter_cons_of_neg (by simpa using e), ih]
      subst e
      by_cases h : m = x
      · rw [if_pos h, if_pos h]
      · rw [if_neg h, if_neg h, show find ((x, i) :: r) m = (if x = m then some i else find r m) from rfl, if_neg (fun k => h k.symm)]
    · rw [List.filter_cons_of_pos (by simpa using e)]
      unfold find
      by_cases h : x = m
      · rw [if_pos h, if_pos h, if_neg (by rw [← h]; exact e)]
      · rw [if_neg h, if_neg h, ih]
theorem find_one (n : ByteArray) (i : Nat) (m : ByteArray) : find [(n, i)] m = if m = n then some i else none := by
  unfold find
  by_cases h : n = m
  · rw [if_pos h, if_pos h.symm]
  · rw [if_neg h, if_neg (fun k => h k.symm)]; rfl
theorem find_snoc (r : Row) (n : ByteArray) (i : Nat) (m : ByteArray) : find (without r n ++ [(n, i)]) m = if m = n then some i else find r m := by
  rw [find_app, find_without, find_one]
  by_cases h : m = n
  · rw [if_pos h, if_pos h, if_pos h]; rfl
  · rw [if_neg h, if_neg h, if_neg h, Option.or_none]
theorem sum_without {r : Row} (hr : r.Pairwise (fun p q => p.1 ≠ q.1)) (g : Nat → Nat) (n : ByteArray) : ((without r n).map (fun p => g p.2)).sum + (match find r n with | none => 0 | some i => g i) = (r.map (fun p => g p.2)).sum := by
  induction r with
  | nil => simp [without, find]
  | cons p r ih =>
    obtain ⟨x, i⟩ := p
    obtain ⟨h1, h2⟩ := List.pairwise_cons.1 hr
    have ih := ih h2
    unfold without at ih ⊢
    unfold find
    simp only [List.map_cons, List.sum_cons]
    by_cases e : x = n
    · rw [List.filter_cons_of_neg (by simpa using e), if_pos e]
      have : find r n = none := find_none.2 (fun p hp k => h1 p hp (e.trans k.symm))
      rw [this] at ih
      simp only at ih ⊢
      omega
    · rw [List.filter_cons_of_pos (by simpa using e), if_neg e]
      simp only [List.map_cons, List.sum_cons]
      omega

end Go.Proofs.YtpbiongoigbmpaaGreat.Dsk
