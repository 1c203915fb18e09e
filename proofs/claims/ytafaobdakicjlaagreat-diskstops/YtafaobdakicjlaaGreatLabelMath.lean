/-
  Chapter 3, plain: names, labels in order, what is wrong with them, their bytes. No program here.
-/
import Derived.Test.YtafaobdakicjlaaGreatMath
import GoSem.Op.String
import Derived.Laws.Strings
namespace Go.Proofs.YtafaobdakicjlaaGreat.Lab
open Go.Proofs.YtafaobdakicjlaaGreat

abbrev Pr := ByteArray × ByteArray

theorem bytes_ext {a b : ByteArray} (h : a.toList = b.toList) : a = b := by
  rw [ByteArray.toList_eq, ByteArray.toList_eq] at h
  exact ByteArray.ext (Array.ext' h)
theorem eqB (a b : ByteArray) : (a.toList == b.toList) = decide (a = b) := by
  by_cases h : a = b
  · subst h; simp
  · rw [decide_eq_false h]
    exact beq_eq_false_iff_ne.2 (fun e => h (bytes_ext e))
theorem eqB_true {a b : ByteArray} (h : (a.toList == b.toList) = true) : a = b := by rw [eqB] at h; exact of_decide_eq_true h
theorem eqB_false {a b : ByteArray} (h : (a.toList == b.toList) = false) : a ≠ b := by rw [eqB] at h; exact of_decide_eq_false h

/-! The order of bytes. -/
theorem less_irrefl : ∀ a : List UInt8, Op.bytesLess a a = false
  | [] => rfl
  | x :: r => by simp [Op.bytesLess, less_irrefl r]
theorem u8_lt {a b : UInt8} : a < b ↔ a.toNat < b.toNat := Iff.rfl
theorem u8_ne {a b : UInt8} (h : a ≠ b) : a.toNat ≠ b.toNat := fun e => h (UInt8.toNat_inj.1 e)
theorem less_trans : ∀ a b c : List UInt8, Op.bytesLess a b = true → Op.bytesLess b c = true → Op.bytesLess a c = true
  | _, _, [], _, h => by cases ‹List UInt8› <;> simp [Op.bytesLess] at h
  | _, [], _ :: _, h, _ => by cases ‹List UInt8› <;> simp [Op.bytesLess] at h
  | [], _ :: _, _ :: _, _, _ => rfl
  | x :: a, y :: b, z :: c, h, k => by
    simp only [Op.bytesLess, Bool.or_eq_true, Bool.and_eq_true, decide_eq_true_eq, beq_iff_eq] at h k ⊢
    rcases h with h | ⟨rfl, h⟩
    · rcases k with k | ⟨rfl, k⟩
      · left; rw [u8_lt] at *; omega
      · left; exact h
    · rcases k with k | ⟨rfl, k⟩
      · left; exact k
      · right; exact ⟨rfl, less_trans a b c h k⟩
theorem less_total : ∀ a b : List UInt8, a ≠ b → Op.bytesLess a b = true ∨ Op.bytesLess b a = true
  | [], [], h => absurd rfl h
  | [], _ :: _, _ => .inl rfl
  | _ :: _, [], _ => .inr rfl
  | x :: a, y :: b, h => by
    simp only [Op.bytesLess, Bool.or_eq_true, Bool.and_eq_true, decide_eq_true_eq, beq_iff_eq]
    by_cases hxy : x = y
    · subst hxy
      rcases less_total a b (fun e => h (by rw [e])) with k | k
      · exact .inl (.inr ⟨rfl, k⟩)
      · exact .inr (.inr ⟨rfl, k⟩)
    · have := u8_ne hxy
      rw [u8_lt, u8_lt]
      rcases Nat.lt_or_gt_of_ne this with k | k
      · exact .inl (.inl k)
      · exact .inr (.inl k)

/-- Is a name ahead of another? -/
def lt (a b : ByteArray) : Bool := Op.bytesLess a.toList b.toList
theorem lt_irrefl (a : ByteArray) : lt a a = false := less_irrefl _
theorem lt_trans {a b c : ByteArray} (h : lt a b = true) (k : lt b c = true) : lt a c = true := less_trans _ _ _ h k
theorem lt_total {a b : ByteArray} (h : a ≠ b) : lt a b = true ∨ lt b a = true := less_total _ _ (fun e => h (bytes_ext e))
theorem lt_asymm {a b : ByteArray} (h : lt a b = true) : lt b a = false := by
  cases k : lt b a with
  | false => rfl
  | true => have := lt_trans h k; rw [lt_irrefl] at this; cases this
theorem lt_ne {a b : ByteArray} (h : lt a b = true) : a ≠ b := fun e => by rw [e, lt_irrefl] at h; cases h
/-- not ahead of, and ahead of a third -/
theorem lt_of_not_lt {a b c : ByteArray} (h : lt b a = false) (k : lt b c = true) : lt a c = true := by
  by_cases e : a = b
  · rw [e]; exact k
  · rcases lt_total e with q | q
    · exact lt_trans q k
    · rw [h] at q; cases q
theorem lt_of_lt_not {a b c : ByteArray} (h : lt a b = true) (k : lt c b = false) : lt a c = true := by
  by_cases e : c = b
  · rw [e]; exact h
  · rcases lt_total e with q | q
    · rw [k] at q; cases q
    · exact lt_trans h q
theorem not_lt_trans {a b c : ByteArray} (h : lt b a = false) (k : lt c b = false) : lt c a = false := by
  cases q : lt c a with
  | false => rfl
  | true => have := lt_of_lt_not q h; rw [k] at this; cases this
theorem empty_lt {a : ByteArray} (h : a.size ≠ 0) : lt ⟨#[]⟩ a = true := by
  unfold lt
  rw [ByteArray.toList_eq, ByteArray.toList_eq]
  obtain ⟨⟨l⟩⟩ := a
  cases l with
  | nil => exact absurd rfl h
  | cons x r => rfl

/-! Names. -/
def letB (n : Nat) : Bool := decide (97 ≤ n ∧ n ≤ 122 ∨ n = 95)
def digB (n : Nat) : Bool := decide (48 ≤ n ∧ n ≤ 57)
def okAt (i : Nat) (b : UInt8) : Bool := letB b.toNat || (decide (i ≠ 0) && digB b.toNat)
def isName (s : ByteArray) : Bool := decide (1 ≤ s.size ∧ s.size ≤ 20 ∧ ∀ i, i < s.size → okAt i (s.data.toList.getD i 0) = true)
theorem isName_true {s : ByteArray} (h : isName s = true) : 1 ≤ s.size ∧ s.size ≤ 20 ∧ ∀ i, i < s.size → okAt i (s.data.toList.getD i 0) = true := of_decide_eq_true h
theorem isName_mk {s : ByteArray} (h : 1 ≤ s.size ∧ s.size ≤ 20 ∧ ∀ i, i < s.size → okAt i (s.data.toList.getD i 0) = true) : isName s = true := decide_eq_true h
theorem isName_no {s : ByteArray} (h : ¬ (1 ≤ s.size ∧ s.size ≤ 20 ∧ ∀ i, i < s.size → okAt i (s.data.toList.getD i 0) = true)) : isName s = false := decide_eq_false h
theorem getD_at (s : ByteArray) (k : Nat) (h : k < s.size) : s.data.toList.getD k 0 = s[k] := by
  have h' : k < s.data.size := h
  simp [List.getD, Array.getElem?_eq_getElem h']
  rfl

/-! What is wrong. -/
def has (ps : List Pr) (n : ByteArray) : Bool := ps.any (fun p => decide (p.1 = n))
theorem has_app (a b : List Pr) (n : ByteArray) : has (a ++ b) n = (has a n || has b n) := by simp [has]
theorem has_iff {ps : List Pr} {n : ByteArray} : has ps n = true ↔ ∃ p ∈ ps, p.1 = n := by simp [has]
theorem has_no {ps : List Pr} {n : ByteArray} : has ps n = false ↔ ∀ p ∈ ps, p.1 ≠ n := by simp [has]
def chkAt (pre : List Pr) (p : Pr) : Nat := if isName p.1 = false then 3 else if 40 < p.2.size then 7 else if has pre p.1 = true then 4 else 0
def chk : List Pr → List Pr → Nat
  | _, [] => 0
  | pre, p :: r => if chkAt pre p = 0 then chk (pre ++ [p]) r else chkAt pre p
def check (l : List Pr) : Nat := if 8 < l.length then 6 else chk [] l
/-- Right labels: as C1's words say. -/
def Right (l : List Pr) : Prop := l.length ≤ 8 ∧ (∀ p ∈ l, isName p.1 = true ∧ p.2.size ≤ 40) ∧ l.Pairwise (fun a b => a.1 ≠ b.1)
theorem chkAt_zero {pre : List Pr} {p : Pr} : chkAt pre p = 0 ↔ isName p.1 = true ∧ p.2.size ≤ 40 ∧ ∀ q ∈ pre, q.1 ≠ p.1 := by
  unfold chkAt
  rw [← has_no]
  cases isName p.1 <;> cases has pre p.1 <;> by_cases h2 : 40 < p.2.size <;> simp [h2] <;> omega
theorem chk_zero : ∀ (r pre : List Pr), chk pre r = 0 ↔ (∀ p ∈ r, isName p.1 = true ∧ p.2.size ≤ 40) ∧ r.Pairwise (fun a b => a.1 ≠ b.1) ∧ ∀ q ∈ pre, ∀ p ∈ r, q.1 ≠ p.1
  | [], pre => by simp [chk]
  | p :: r, pre => by
    unfold chk
    by_cases h : chkAt pre p = 0
    · rw [if_pos h, chk_zero r (pre ++ [p])]
      obtain ⟨h1, h2, h3⟩ := chkAt_zero.1 h
      constructor
      · rintro ⟨a, b, c⟩
        refine ⟨fun q hq => ?_, List.pairwise_cons.2 ⟨fun q hq => c p (by simp) q hq, b⟩, fun q hq x hx => ?_⟩
        · rcases List.mem_cons.1 hq with rfl | hq
          · exact ⟨h1, h2⟩
          · exact a q hq
        · rcases List.mem_cons.1 hx with rfl | hx
          · exact h3 q hq
          · exact c q (by simp [hq]) x hx
      · rintro ⟨a, b, c⟩
        obtain ⟨b1, b2⟩ := List.pairwise_cons.1 b
        refine ⟨fun q hq => a q (List.mem_cons_of_mem _ hq), b2, fun q hq x hx => ?_⟩
        rcases List.mem_append.1 hq with hq | hq
        · exact c q hq x (List.mem_cons_of_mem _ hx)
        · rw [List.mem_singleton.1 hq]; exact b1 x hx
    · rw [if_neg h]
      refine ⟨fun e => absurd e h, fun ⟨a, b, c⟩ => absurd (chkAt_zero.2 ⟨(a p (by simp)).1, (a p (by simp)).2, fun q hq => c q hq p (by simp)⟩) h⟩
theorem check_zero {l : List Pr} : check l = 0 ↔ Right l := by
  unfold check Right
  by_cases h : 8 < l.length
  · rw [if_pos h]; constructor
    · intro e; cases e
    · rintro ⟨a, _⟩; omega
  · rw [if_neg h, chk_zero]
    simp only [List.not_mem_nil, false_implies, implies_true, and_true]
    exact ⟨fun ⟨a, b⟩ => ⟨by omega, a, b⟩, fun ⟨_, a, b⟩ => ⟨a, b⟩⟩
theorem chkAt_lt (pre : List Pr) (p : Pr) : chkAt pre p < 8 := by
  unfold chkAt; repeat' split
  all_goals omega
theorem chk_lt : ∀ (r pre : List Pr), chk pre r < 8
  | [], _ => by simp [chk]
  | p :: r, pre => by
    unfold chk; split
    · exact chk_lt r _
    · exact chkAt_lt _ _
theorem check_lt (l : List Pr) : check l < 8 := by
  unfold check; split
  · omega
  · exact chk_lt _ _

/-! In order. -/
def ins (x : Pr) : List Pr → List Pr
  | [] => [x]
  | y :: r => if lt x.1 y.1 = true then x :: y :: r else y :: ins x r
def canon (l : List Pr) : List Pr := l.foldl (fun s x => ins x s) []
def Sorted (l : List Pr) : Prop := l.Pairwise (fun a b => lt b.1 a.1 = false)
def Rise (l : List Pr) : Prop := l.Pairwise (fun a b => lt a.1 b.1 = true)
theorem ins_perm (x : Pr) : ∀ l : List Pr, (ins x l).Perm (x :: l)
  | [] => List.Perm.refl _
  | y :: r => by
    unfold ins; split
    · exact List.Perm.refl _
    · exact ((ins_perm x r).cons y).trans (List.Perm.swap x y r)
theorem ins_sorted (x : Pr) : ∀ l : List Pr, Sorted l → Sorted (ins x l)
  | [], _ => List.pairwise_singleton _ _
  | y :: r, h => by
    obtain ⟨h1, h2⟩ := List.pairwise_cons.1 h
    unfold ins; split
    · rename_i q
      refine List.pairwise_cons.2 ⟨fun z hz => ?_, h⟩
      rcases List.mem_cons.1 hz with rfl | hz
      · exact lt_asymm q
      · exact not_lt_trans (lt_asymm q) (h1 z hz)
    · rename_i q
      refine List.pairwise_cons.2 ⟨fun z hz => ?_, ins_sorted x r h2⟩
      rcases List.mem_cons.1 ((ins_perm x r).mem_iff.1 hz) with rfl | hz
      · simpa using q
      · exact h1 z hz
theorem canon_snoc (l : List Pr) (x : Pr) : canon (l ++ [x]) = ins x (canon l) := by simp [canon, List.foldl_append]
theorem canon_ind {p : List Pr → List Pr → Prop} (h0 : p [] []) (hs : ∀ l x, p l (canon l) → p (l ++ [x]) (ins x (canon l))) : ∀ (n : Nat) (l : List Pr), l.length = n → p l (canon l)
  | 0, l, h => by rw [List.length_eq_zero_iff.1 h]; exact h0
  | n + 1, l, h => by
    have hne : l ≠ [] := by intro e; rw [e] at h; simp at h
    rw [← List.dropLast_concat_getLast hne, canon_snoc]
    exact hs _ _ (canon_ind h0 hs n l.dropLast (by simp; omega))
theorem canon_perm (l : List Pr) : (canon l).Perm l :=
  canon_ind (p := fun l c => c.Perm l) (List.Perm.refl _) (fun l x h => (ins_perm x _).trans ((h.cons x).trans (List.perm_append_comm (l₁ := [x]) (l₂ := l)))) _ l rfl
theorem canon_sorted (l : List Pr) : Sorted (canon l) := canon_ind (p := fun _ c => Sorted c) List.Pairwise.nil (fun _ x h => ins_sorted x _ h) _ l rfl
theorem canon_length (l : List Pr) : (canon l).length = l.length := (canon_perm l).length_eq
/-- where it goes -/
theorem ins_at (x : Pr) : ∀ (s : List Pr) (k : Nat), Sorted s → k ≤ s.length → (∀ j (h : j < s.length), k ≤ j → lt x.1 (s[j]).1 = true) → (∀ j (h : j < s.length), j + 1 = k → lt x.1 (s[j]).1 = false) → ins x s = s.take k ++ x :: s.drop k
  | [], k, _, hk, _, _ => by simp at hk; subst hk; rfl
  | y :: r, k, hs, hk, h1, h2 => by
    obtain ⟨s1, s2⟩ := List.pairwise_cons.1 hs
    cases k with
    | zero =>
      have := h1 0 (by simp) (by omega)
      unfold ins; rw [if_pos (by simpa using this)]; rfl
    | succ k =>
      have hy : lt x.1 y.1 = false := by
        cases k with
        | zero => exact h2 0 (by simp) rfl
        | succ k =>
          have hk' : k < r.length := by simp at hk; omega
          have q : lt x.1 (r[k]).1 = false := h2 (k + 1) (by simp; omega) rfl
          exact not_lt_trans (s1 _ (List.getElem_mem hk')) q
      unfold ins; rw [if_neg (by rw [hy]; simp)]
      rw [ins_at x r k s2 (by simpa using hk) (fun j h hj => h1 (j + 1) (by simp; omega) (by omega)) (fun j h hj => h2 (j + 1) (by simp; omega) (by omega))]
      rfl
theorem rise_of {l : List Pr} (h : Sorted l) (hd : l.Pairwise (fun a b => a.1 ≠ b.1)) : Rise l :=
  List.Pairwise.imp₂ (fun a b h1 h2 => (lt_total h2).elim id (fun q => by rw [h1] at q; cases q)) h hd
theorem perm_ne {a b : List Pr} (h : a.Perm b) (hd : a.Pairwise (fun x y => x.1 ≠ y.1)) : b.Pairwise (fun x y => x.1 ≠ y.1) :=
  h.pairwise hd (fun h e => h e.symm)
theorem canon_rise {l : List Pr} (h : Right l) : Rise (canon l) := rise_of (canon_sorted l) (perm_ne (canon_perm l).symm h.2.2)
theorem canon_right {l : List Pr} (h : Right l) : Right (canon l) :=
  ⟨by rw [canon_length]; exact h.1, fun p hp => h.2.1 p ((canon_perm l).mem_iff.1 hp), perm_ne (canon_perm l).symm h.2.2⟩
theorem perm_right {a b : List Pr} (hp : a.Perm b) (h : Right a) : Right b :=
  ⟨by rw [← hp.length_eq]; exact h.1, fun p hq => h.2.1 p (hp.mem_iff.2 hq), perm_ne hp h.2.2⟩
/-- There is one order that rises. -/
theorem rise_unique : ∀ {a b : List Pr}, a.Perm b → Rise a → Rise b → a = b
  | [], b, h, _, _ => (List.nil_perm.1 h).symm
  | x :: a, [], h, _, _ => by simpa using h.length_eq
  | x :: a, y :: b, h, ha, hb => by
    obtain ⟨a1, a2⟩ := List.pairwise_cons.1 ha
    obtain ⟨b1, b2⟩ := List.pairwise_cons.1 hb
    have e : x = y := by
      rcases List.mem_cons.1 (h.mem_iff.1 (List.mem_cons_self ..)) with e | hx
      · exact e
      · rcases List.mem_cons.1 (h.mem_iff.2 (List.mem_cons_self ..)) with e | hy
        · exact e.symm
        · have := lt_asymm (b1 x hx); rw [a1 y hy] at this; cases this
    subst e
    rw [rise_unique (List.Perm.cons_inv h) a2 b2]
theorem canon_of_rise {l : List Pr} (h : Rise l) (hr : Right l) : canon l = l := rise_unique (canon_perm l) (canon_rise hr) h
theorem canon_same {a b : List Pr} (h : a.Perm b) (ha : Right a) : canon a = canon b :=
  rise_unique ((canon_perm a).trans (h.trans (canon_perm b).symm)) (canon_rise ha) (canon_rise (perm_right h ha))

/-! Values, matchers. -/
def value (ps : List Pr) (n : ByteArray) : ByteArray := match ps.find? (fun p => decide (p.1 = n)) with | some p => p.2 | none => ⟨#[]⟩
theorem value_cons_eq {p : Pr} {r : List Pr} {n : ByteArray} (h : p.1 = n) : value (p :: r) n = p.2 := by simp [value, h]
theorem value_cons_ne {p : Pr} {r : List Pr} {n : ByteArray} (h : p.1 ≠ n) : value (p :: r) n = value r n := by simp [value, h]
theorem value_mem {l : List Pr} (hd : l.Pairwise (fun a b => a.1 ≠ b.1)) {p : Pr} (hp : p ∈ l) : value l p.1 = p.2 := by
  induction l with
  | nil => cases hp
  | cons q r ih =>
    obtain ⟨h1, h2⟩ := List.pairwise_cons.1 hd
    rcases List.mem_cons.1 hp with rfl | hp
    · exact value_cons_eq rfl
    · rw [value_cons_ne (h1 p hp)]; exact ih h2 hp
theorem value_none {l : List Pr} {n : ByteArray} (h : ∀ p ∈ l, p.1 ≠ n) : value l n = ⟨#[]⟩ := by
  induction l with
  | nil => rfl
  | cons q r ih => rw [value_cons_ne (h q (by simp))]; exact ih (fun p hp => h p (List.mem_cons_of_mem _ hp))
theorem value_perm {a b : List Pr} (h : a.Perm b) (hd : a.Pairwise (fun x y => x.1 ≠ y.1)) (n : ByteArray) : value a n = value b n := by
  cases q : has a n with
  | true =>
    obtain ⟨p, hp, rfl⟩ := has_iff.1 q
    rw [value_mem hd hp, value_mem (perm_ne h hd) (h.mem_iff.1 hp)]
  | false =>
    rw [value_none (has_no.1 q), value_none (fun p hp => has_no.1 q p (h.mem_iff.2 hp))]

/-! Their bytes. -/
def txt (s : ByteArray) : List UInt8 := Num.put s.size ++ s.data.toList
def pb : List Pr → List UInt8
  | [] => []
  | p :: r => txt p.1 ++ txt p.2 ++ pb r
def putL (l : List Pr) : List UInt8 := Num.put l.length ++ pb l
theorem pb_app : ∀ a b : List Pr, pb (a ++ b) = pb a ++ pb b
  | [], b => rfl
  | p :: r, b => by simp only [List.cons_append, pb]; rw [pb_app r b]; simp
theorem txt_len {s : ByteArray} (h : s.size ≤ 1099511627776) : (txt s).length ≤ s.size + 10 := by
  have := Num.put_len10 (n := s.size) (by omega)
  simp [txt]; omega
theorem pb_len : ∀ l : List Pr, (∀ p ∈ l, p.1.size ≤ 2000 ∧ p.2.size ≤ 2000) → (pb l).length ≤ 5000 * l.length
  | [], _ => by simp [pb]
  | p :: r, h => by
    have h1 := pb_len r (fun q hq => h q (List.mem_cons_of_mem _ hq))
    obtain ⟨h2, h3⟩ := h p (by simp)
    have h4 := txt_len (s := p.1) (by omega)
    have h5 := txt_len (s := p.2) (by omega)
    simp only [pb, List.length_append, List.length_cons]; omega
theorem txt_inj {a b : ByteArray} {x y : List UInt8} (ha : a.size ≤ 1099511627776) (hb : b.size ≤ 1099511627776) (h : txt a ++ x = txt b ++ y) : a = b ∧ x = y := by
  unfold txt at h
  rw [List.append_assoc, List.append_assoc] at h
  obtain ⟨e, k⟩ := Num.put_inj (by omega) (by omega) h
  have hl : a.data.toList.length = b.data.toList.length := e
  obtain ⟨k1, k2⟩ := List.append_inj k hl
  exact ⟨ByteArray.ext (Array.ext' k1), k2⟩
theorem pb_inj : ∀ {a b : List Pr} {x y : List UInt8}, a.length = b.length → (∀ p ∈ a, p.1.size ≤ 2000 ∧ p.2.size ≤ 2000) → (∀ p ∈ b, p.1.size ≤ 2000 ∧ p.2.size ≤ 2000) → pb a ++ x = pb b ++ y → a = b ∧ x = y
  | [], [], x, y, _, _, _, h => ⟨rfl, h⟩
  | [], _ :: _, _, _, h, _, _, _ => by simp at h
  | _ :: _, [], _, _, h, _, _, _ => by simp at h
  | (p1, p2) :: a, (q1, q2) :: b, x, y, hl, ha, hb, h => by
    have hp := ha (p1, p2) (by simp)
    have hq := hb (q1, q2) (by simp)
    simp only [pb, List.append_assoc] at h hp hq
    obtain ⟨e1, h2⟩ := txt_inj (by omega) (by omega) h
    obtain ⟨e2, h3⟩ := txt_inj (by omega) (by omega) h2
    obtain ⟨e3, e4⟩ := pb_inj (by simpa using hl) (fun r hr => ha r (by simp [hr])) (fun r hr => hb r (by simp [hr])) h3
    rw [e1, e2, e3, e4]; exact ⟨rfl, rfl⟩
theorem right_small {l : List Pr} (h : Right l) : ∀ p ∈ l, p.1.size ≤ 2000 ∧ p.2.size ≤ 2000 := fun p hp => by
  obtain ⟨h1, h2⟩ := h.2.1 p hp
  have := isName_true h1
  omega
theorem putL_inj {a b : List Pr} {x y : List UInt8} (ha : Right a) (hb : Right b) (h : putL a ++ x = putL b ++ y) : a = b ∧ x = y := by
  unfold putL at h
  rw [List.append_assoc, List.append_assoc] at h
  have h8 := ha.1
  have h9 := hb.1
  obtain ⟨e, k⟩ := Num.put_inj (by omega) (by omega) h
  exact pb_inj e (right_small ha) (right_small hb) k
theorem putL_len {l : List Pr} (h : Right l) : (putL l).length ≤ 50000 := by
  have h1 := pb_len l (right_small h)
  have h2 := h.1
  have h3 := Num.put_len10 (n := l.length) (by omega)
  simp [putL]; omega

end Go.Proofs.YtafaobdakicjlaaGreat.Lab
