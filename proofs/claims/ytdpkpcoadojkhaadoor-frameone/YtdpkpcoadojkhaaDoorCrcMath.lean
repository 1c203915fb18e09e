/-
  Plain mathematics of chapter 2: a register of 32 bits, one bit, four bits and a byte at a time; it is linear, and nothing is lost in it. Nothing of the program stands here.
-/
import Derived.RowKit
namespace Go.Proofs.YtdpkpcoadojkhaaDoor
namespace Crc

/-- One bit falls out. -/
def stp (r : Nat) : Nat := if r % 2 = 1 then r / 2 ^^^ 2197175160 else r / 2

def stpN : Nat → Nat → Nat
  | 0, r => r
  | n + 1, r => stpN n (stp r)

theorem stpN_add : ∀ (a b r : Nat), stpN (a + b) r = stpN b (stpN a r)
  | 0, b, r => by rw [Nat.zero_add]; rfl
  | a + 1, b, r => by rw [show a + 1 + b = (a + b) + 1 from by omega]; exact stpN_add a b (stp r)

theorem xor_swap (a b c d : Nat) : (a ^^^ b) ^^^ (c ^^^ d) = (a ^^^ c) ^^^ (b ^^^ d) := by
  rw [Nat.xor_assoc, Nat.xor_assoc, ← Nat.xor_assoc b c d, Nat.xor_comm b c, Nat.xor_assoc c b d]
theorem xor_two (a b p : Nat) : (a ^^^ p) ^^^ (b ^^^ p) = a ^^^ b := by
  rw [xor_swap, Nat.xor_self, Nat.xor_zero]

theorem stp_xor (a b : Nat) : stp (a ^^^ b) = stp a ^^^ stp b := by
  unfold stp
  have hd : (a ^^^ b) / 2 = a / 2 ^^^ b / 2 := Nat.xor_div_two
  have hm : (a ^^^ b) % 2 = (a + b) % 2 := by
    have := @Nat.xor_mod_two_eq_one a b
    omega
  rw [hd, hm]
  by_cases ha : a % 2 = 1 <;> by_cases hb : b % 2 = 1
  · rw [if_pos ha, if_pos hb, if_neg (by omega), xor_two]
  · rw [if_pos ha, if_neg hb, if_pos (by omega), Nat.xor_assoc, Nat.xor_assoc, Nat.xor_comm (b / 2)]
  · rw [if_neg ha, if_pos hb, if_pos (by omega), Nat.xor_assoc]
  · rw [if_neg ha, if_neg hb, if_neg (by omega)]

theorem stpN_xor : ∀ (n a b : Nat), stpN n (a ^^^ b) = stpN n a ^^^ stpN n b
  | 0, _, _ => rfl
  | n + 1, a, b => by simp only [stpN]; rw [stp_xor, stpN_xor n]

theorem stp_two (q : Nat) : stp (2 * q) = q := by unfold stp; rw [if_neg (by omega)]; omega
theorem stpN_pow : ∀ (n q : Nat), stpN n (2 ^ n * q) = q
  | 0, q => by simp [stpN]
  | n + 1, q => by
    simp only [stpN]
    rw [show 2 ^ (n + 1) * q = 2 * (2 ^ n * q) from by rw [Nat.pow_succ, Nat.mul_comm (2 ^ n) 2, Nat.mul_assoc], stp_two, stpN_pow n]

theorem xor_lt {a b : Nat} (ha : a < 4294967296) (hb : b < 4294967296) : a ^^^ b < 4294967296 := Nat.xor_lt_two_pow (n := 32) ha hb
theorem stp_lt {r : Nat} (h : r < 4294967296) : stp r < 4294967296 := by
  unfold stp
  split
  · exact xor_lt (by omega) (by omega)
  · omega
theorem stpN_lt : ∀ (n r : Nat), r < 4294967296 → stpN n r < 4294967296
  | 0, _, h => h
  | n + 1, _, h => stpN_lt n _ (stp_lt h)

theorem xor_zero_eq {a b : Nat} (h : a ^^^ b = 0) : a = b := by
  have := congrArg (· ^^^ b) h
  simp only [Nat.xor_assoc, Nat.xor_self, Nat.xor_zero, Nat.zero_xor] at this
  exact this

theorem stp_zero {r : Nat} (hr : r < 4294967296) (h : stp r = 0) : r = 0 := by
  unfold stp at h
  by_cases c : r % 2 = 1
  · rw [if_pos c] at h
    have := xor_zero_eq h
    omega
  · rw [if_neg c] at h
    omega
theorem stpN_zero : ∀ (n r : Nat), r < 4294967296 → stpN n r = 0 → r = 0
  | 0, _, _, h => h
  | n + 1, _, hr, h => stp_zero hr (stpN_zero n _ (stp_lt hr) h)
theorem stpN_inj {n a b : Nat} (ha : a < 4294967296) (hb : b < 4294967296) (h : stpN n a = stpN n b) : a = b := by
  have : stpN n (a ^^^ b) = 0 := by rw [stpN_xor, h, Nat.xor_self]
  exact xor_zero_eq (stpN_zero n _ (xor_lt ha hb) this)

/-- What four bits change the register by. -/
def tab (m : Nat) : Nat := [0, 274646895, 549293790, 820201905, 1098587580, 1361435347, 1640403810, 1905808397, 2197175160, 2460548119, 2722870694, 2987750089, 3280807620, 3553878443, 3811616794, 4084100981].getD m 0

theorem tab_stp : ∀ m, m < 16 → stpN 4 m = tab m := by decide +kernel
theorem tab_lt : ∀ m, m < 16 → tab m < 4294967296 := by decide +kernel

/-- Four bits at a time. -/
def half (r : Nat) : Nat := r / 16 ^^^ tab (r % 16)
theorem split16 (r : Nat) : r = (2 ^ 4 * (r / 16)) ^^^ (r % 16) := by
  have h := Nat.two_pow_add_eq_or_of_lt (i := 4) (b := r % 16) (by omega) (r / 16)
  have h2 : 2 ^ 4 * (r / 16) + r % 16 = r := by omega
  rw [h2] at h
  have : (2 ^ 4 * (r / 16)) &&& (r % 16) = 0 := by
    apply Nat.eq_of_testBit_eq
    intro i
    rw [Nat.testBit_and, Nat.testBit_two_pow_mul]
    by_cases hi : 4 ≤ i
    · have : (r % 16).testBit i = false := Nat.testBit_lt_two_pow (Nat.lt_of_lt_of_le (show r % 16 < 2 ^ 4 by omega) (Nat.pow_le_pow_right (by decide) hi))
      simp [this]
    · simp [hi]
  conv => lhs; rw [h]
  apply Nat.eq_of_testBit_eq
  intro i
  have hz := congrArg (fun n => n.testBit i) this
  simp only [Nat.testBit_and, Nat.zero_testBit] at hz
  rw [Nat.testBit_or, Nat.testBit_xor]
  revert hz
  cases (2 ^ 4 * (r / 16)).testBit i <;> cases (r % 16).testBit i <;> simp
theorem half_stp (r : Nat) : half r = stpN 4 r := by
  conv => rhs; rw [split16 r]
  rw [stpN_xor, stpN_pow, tab_stp _ (Nat.mod_lt _ (by decide))]; rfl
theorem half_half (r : Nat) : half (half r) = stpN 8 r := by rw [half_stp, half_stp, ← stpN_add]
theorem half_lt {r : Nat} (h : r < 4294967296) : half r < 4294967296 := by rw [half_stp]; exact stpN_lt _ _ h

/-- A byte, and bytes, go through the register. -/
def thr (r : Nat) (b : UInt8) : Nat := stpN 8 (r ^^^ b.toNat)
def run (r : Nat) (l : List UInt8) : Nat := l.foldl thr r
theorem run_nil (r : Nat) : run r [] = r := rfl
theorem run_cons (r : Nat) (b : UInt8) (l : List UInt8) : run r (b :: l) = run (thr r b) l := rfl
theorem run_append (r : Nat) (a b : List UInt8) : run r (a ++ b) = run (run r a) b := by simp [run, List.foldl_append]
theorem run_snoc (r : Nat) (a : List UInt8) (b : UInt8) : run r (a ++ [b]) = thr (run r a) b := by rw [run_append]; rfl
theorem byte_lt (b : UInt8) : b.toNat < 4294967296 := Nat.lt_of_lt_of_le b.toNat_lt (by decide)
theorem thr_lt {r : Nat} (b : UInt8) (h : r < 4294967296) : thr r b < 4294967296 := stpN_lt _ _ (xor_lt h (byte_lt b))
theorem run_lt : ∀ (l : List UInt8) (r : Nat), r < 4294967296 → run r l < 4294967296
  | [], _, h => h
  | b :: l, _, h => run_lt l _ (thr_lt b h)

theorem xor_left {a b c : Nat} (h : a ^^^ b = a ^^^ c) : b = c := by
  have := congrArg (a ^^^ ·) h
  simpa [← Nat.xor_assoc] using this
theorem xor_right {a b c : Nat} (h : a ^^^ c = b ^^^ c) : a = b := by
  rw [Nat.xor_comm a c, Nat.xor_comm b c] at h; exact xor_left h

theorem thr_inj {r q : Nat} {b : UInt8} (hr : r < 4294967296) (hq : q < 4294967296) (h : thr r b = thr q b) : r = q :=
  xor_right (stpN_inj (xor_lt hr (byte_lt b)) (xor_lt hq (byte_lt b)) h)
theorem thr_byte {r : Nat} {a b : UInt8} (hr : r < 4294967296) (h : thr r a = thr r b) : a = b :=
  UInt8.toNat_inj.1 (xor_left (stpN_inj (xor_lt hr (byte_lt a)) (xor_lt hr (byte_lt b)) h))
theorem run_inj : ∀ (l : List UInt8) (r q : Nat), r < 4294967296 → q < 4294967296 → run r l = run q l → r = q
  | [], _, _, _, _, h => h
  | b :: l, _, _, hr, hq, h => thr_inj hr hq (run_inj l _ _ (thr_lt b hr) (thr_lt b hq) h)

/-- One byte is another one: the register is, too. -/
theorem run_set {l : List UInt8} {i : Nat} (hi : i < l.length) {b : UInt8} (hb : b ≠ l[i]) {r : Nat} (hr : r < 4294967296) : run r (l.set i b) ≠ run r l := by
  intro h
  have e1 : l.set i b = l.take i ++ b :: l.drop (i + 1) := List.set_eq_take_append_cons_drop.trans (if_pos hi)
  have e2 : l = l.take i ++ l[i] :: l.drop (i + 1) := by
    rw [List.getElem_cons_drop, List.take_append_drop]
  rw [e1] at h
  conv at h => rhs; rw [e2]
  rw [run_append, run_append, run_cons, run_cons] at h
  have hq := run_lt (l.take i) r hr
  exact hb (thr_byte hq (run_inj _ _ _ (thr_lt _ hq) (thr_lt _ hq) h))

theorem thr3 (a b c : Nat) (x y z v : UInt8) (hv : v.toNat = x.toNat ^^^ y.toNat ^^^ z.toNat) : thr (a ^^^ b ^^^ c) v = thr a x ^^^ thr b y ^^^ thr c z := by
  unfold thr
  rw [← stpN_xor, ← stpN_xor, hv]
  congr 1
  rw [xor_swap (a ^^^ b) c, xor_swap a b]

def mix : List UInt8 → List UInt8 → List UInt8 → List UInt8
  | a :: x, b :: y, c :: z => (a ^^^ b ^^^ c) :: mix x y z
  | _, _, _ => []
theorem run_mix : ∀ (x y z : List UInt8) (a b c : Nat), x.length = y.length → y.length = z.length → run (a ^^^ b ^^^ c) (mix x y z) = run a x ^^^ run b y ^^^ run c z
  | [], [], [], _, _, _, _, _ => rfl
  | p :: x, q :: y, r :: z, a, b, c, h1, h2 => by
    simp only [mix, run_cons]
    rw [thr3 a b c p q r _ (by simp [UInt8.toNat_xor])]
    exact run_mix x y z _ _ _ (by simpa using h1) (by simpa using h2)

def ones : Nat := 4294967295
theorem ones_eq : ones = 4294967295 := rfl
def add (sum : Nat) (l : List UInt8) : Nat := run (sum ^^^ 4294967295) l ^^^ 4294967295
def sum (l : List UInt8) : Nat := add 0 l
theorem inv_lt {a : Nat} (h : a < 4294967296) : a ^^^ 4294967295 < 4294967296 := xor_lt h (by omega)
theorem inv_inv (a : Nat) : a ^^^ 4294967295 ^^^ 4294967295 = a := by rw [Nat.xor_assoc, Nat.xor_self, Nat.xor_zero]
theorem inv_sub {a : Nat} (h : a < 4294967296) : a ^^^ 4294967295 = 4294967295 - a := by
  have h1 := Nat.testBit_two_pow_sub_succ (x := a) (n := 32) h
  apply Nat.eq_of_testBit_eq
  intro i
  have := h1 i
  rw [show 2 ^ 32 - (a + 1) = 4294967295 - a from by omega] at this
  rw [this, Nat.testBit_xor, show (4294967295 : Nat) = 2 ^ 32 - 1 from by decide, Nat.testBit_two_pow_sub_one]
  by_cases hi : i < 32
  · simp [hi]
  · have : a.testBit i = false := Nat.testBit_lt_two_pow (Nat.lt_of_lt_of_le (show a < 2 ^ 32 by omega) (Nat.pow_le_pow_right (by decide) (by omega)))
    simp [hi, this]
theorem add_lt {s : Nat} (l : List UInt8) (h : s < 4294967296) : add s l < 4294967296 := inv_lt (run_lt _ _ (inv_lt h))
theorem sum_lt (l : List UInt8) : sum l < 4294967296 := add_lt l (by omega)
theorem add_nil (s : Nat) : add s [] = s := inv_inv s
theorem add_append (s : Nat) (a b : List UInt8) : add s (a ++ b) = add (add s a) b := by
  unfold add; rw [run_append, inv_inv]
theorem sum_append (a b : List UInt8) : sum (a ++ b) = add (sum a) b := add_append 0 a b
theorem add_inj {l : List UInt8} {a b : Nat} (ha : a < 4294967296) (hb : b < 4294967296) (h : add a l = add b l) : a = b :=
  xor_right (run_inj l _ _ (inv_lt ha) (inv_lt hb) (xor_right h))
theorem sum_set {l : List UInt8} {i : Nat} (hi : i < l.length) {b : UInt8} (hb : b ≠ l[i]) : sum (l.set i b) ≠ sum l :=
  fun h => run_set hi hb (inv_lt (show (0 : Nat) < 4294967296 by omega)) (xor_right h)
theorem sum_mix (x y z : List UInt8) (h1 : x.length = y.length) (h2 : y.length = z.length) : sum (mix x y z) = sum x ^^^ sum y ^^^ sum z := by
  unfold sum add
  have h := run_mix x y z (0 ^^^ 4294967295) (0 ^^^ 4294967295) (0 ^^^ 4294967295) h1 h2
  rw [Nat.xor_self, Nat.zero_xor, Nat.zero_xor] at h
  rw [Nat.zero_xor, h]
  generalize run 4294967295 x = a
  generalize run 4294967295 y = b
  generalize run 4294967295 z = c
  rw [xor_two, Nat.xor_assoc (a ^^^ b)]

/-- Four bytes of a number, the lowest first. -/
def four (n : Nat) : List UInt8 := [UInt8.ofNat n, UInt8.ofNat (n / 256), UInt8.ofNat (n / 65536), UInt8.ofNat (n / 16777216)]
theorem xor_add {i a b : Nat} (h : b < 2 ^ i) : 2 ^ i * a + b = (2 ^ i * a) ^^^ b := by
  rw [Nat.two_pow_add_eq_or_of_lt h]
  apply Nat.eq_of_testBit_eq
  intro j
  rw [Nat.testBit_or, Nat.testBit_xor, Nat.testBit_two_pow_mul]
  by_cases hj : i ≤ j
  · have : b.testBit j = false := Nat.testBit_lt_two_pow (Nat.lt_of_lt_of_le h (Nat.pow_le_pow_right (by decide) hj))
    simp [this]
  · simp [hj]
theorem ofNat_mod (n : Nat) : (UInt8.ofNat n).toNat = n % 256 := by simp
theorem thr_word (r n : Nat) : stpN 8 (r ^^^ n % 256) ^^^ n / 256 = stpN 8 (r ^^^ n) := by
  have h : n = 2 ^ 8 * (n / 256) ^^^ n % 256 := by rw [← xor_add (show n % 256 < 2 ^ 8 by omega)]; omega
  conv => rhs; rw [h]
  rw [stpN_xor, stpN_xor, stpN_xor, stpN_pow]
  rw [Nat.xor_comm (n / 256) _, Nat.xor_assoc]
theorem run_four (r n : Nat) (h : n < 4294967296) : run r (four n) = stpN 32 (r ^^^ n) := by
  simp only [four, run_cons, run_nil, thr, ofNat_mod]
  have e1 := thr_word r n
  have e2 := thr_word (stpN 8 (r ^^^ n % 256)) (n / 256)
  have e3 := thr_word (stpN 8 (stpN 8 (r ^^^ n % 256) ^^^ n / 256 % 256)) (n / 256 / 256)
  have e4 := thr_word (stpN 8 (stpN 8 (stpN 8 (r ^^^ n % 256) ^^^ n / 256 % 256) ^^^ n / 256 / 256 % 256)) (n / 256 / 256 / 256)
  rw [show n / 65536 = n / 256 / 256 from by omega, show n / 16777216 = n / 256 / 256 / 256 from by omega]
  rw [show n / 256 / 256 / 256 / 256 = 0 from by omega, Nat.xor_zero] at e4
  rw [e4, e3, e2, e1, ← stpN_add, ← stpN_add, ← stpN_add]
theorem sum_four (s t : List UInt8) (a b : Nat) (ha : a < 4294967296) (hb : b < 4294967296) : sum (s ++ four a ++ t) = sum (s ++ four b ++ t) ↔ a = b := by
  constructor
  · intro h
    unfold sum add at h
    have h := xor_right h
    rw [run_append, run_append, run_append, run_append, run_four _ _ ha, run_four _ _ hb] at h
    have hq := run_lt s (0 ^^^ 4294967295) (inv_lt (by omega))
    have h := run_inj _ _ _ (stpN_lt _ _ (xor_lt hq ha)) (stpN_lt _ _ (xor_lt hq hb)) h
    exact xor_left (stpN_inj (xor_lt hq ha) (xor_lt hq hb) h)
  · rintro rfl; rfl

end Crc
end Go.Proofs.YtdpkpcoadojkhaaDoor
