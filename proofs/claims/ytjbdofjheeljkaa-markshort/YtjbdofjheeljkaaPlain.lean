/-
  Laid one behind the other: LabelMath LdgM LdgRM LdgRfM LdgAbsM LdgActM LdgDoesM MkM LdgStepM LdgLawsM.
-/
import Derived.Test.YtjbdofjheeljkaaMath
import GoSem.Op.String
import Derived.Laws.Strings
namespace Go.Proofs.Ytjbdofjheeljkaa.Lab
open Go.Proofs.Ytjbdofjheeljkaa

abbrev Pr := ByteArray × ByteArray

theorem bytes_ext {a b : ByteArray} (h : a.toList = b.toList) : a = b := by
  rw [ByteArray.toList_eq, ByteArray.toList_eq] at h
  exact ByteArray.ext (Array.ext' h)
theorem eqB (a b : ByteArray) : (a.toList == b.toList) = decide (a = b) := by
  by_cases h : a = b
  · subst h; simp
  · rw [decide_eq_false h]
    exact beq_eq_false_iff_ne.2 (fun e => h (bytes_ext e))
theorem eqB_true {a b : ByteArray} (h : (a.toList == b.toList) = true) : a = b := by rw [eqB] at h; exact of_decide_eq_true h
theorem eqB_false {a b : ByteArray} (h : (a.toList == b.toList) = false) : a ≠ b := by rw [eqB] at h; exact of_decide_eq_false h

/-! The order of bytes. -/
theorem less_irrefl : ∀ a : List UInt8, Op.bytesLess a a = false
  | [] => rfl
  | x :: r => by simp [Op.bytesLess, less_irrefl r]
theorem u8_lt {a b : UInt8} : a < b ↔ a.toNat < b.toNat := Iff.rfl
theorem u8_ne {a b : UInt8} (h : a ≠ b) : a.toNat ≠ b.toNat := fun e => h (UInt8.toNat_inj.1 e)
theorem less_trans : ∀ a b c : List UInt8, Op.bytesLess a b = true → Op.bytesLess b c = true → Op.bytesLess a c = true
  | _, _, [], _, h => by cases ‹List UInt8› <;> simp [Op.bytesLess] at h
  | _, [], _ :: _, h, _ => by cases ‹List UInt8› <;> simp [Op.bytesLess] at h
  | [], _ :: _, _ :: _, _, _ => rfl
  | x :: a, y :: b, z :: c, h, k => by
    simp only [Op.bytesLess, Bool.or_eq_true, Bool.and_eq_true, decide_eq_true_eq, beq_iff_eq] at h k ⊢
    rcases h with h | ⟨rfl, h⟩
    · rcases k with k | ⟨rfl, k⟩
      · left; rw [u8_lt] at *; omega
      · left; exact h
    · rcases k with k | ⟨rfl, k⟩
      · left; exact k
      · right; exact ⟨rfl, less_trans a b c h k⟩
theorem less_total : ∀ a b : List UInt8, a ≠ b → Op.bytesLess a b = true ∨ Op.bytesLess b a = true
  | [], [], h => absurd rfl h
  | [], _ :: _, _ => .inl rfl
  | _ :: _, [], _ => .inr rfl
  | x :: a, y :: b, h => by
    simp only [Op.bytesLess, Bool.or_eq_true, Bool.and_eq_true, decide_eq_true_eq, beq_iff_eq]
    by_cases hxy : x = y
    · subst hxy
      rcases less_total a b (fun e => h (by rw [e])) with k | k
      · exact .inl (.inr ⟨rfl, k⟩)
      · exact .inr (.inr ⟨rfl, k⟩)
    · have := u8_ne hxy
      rw [u8_lt, u8_lt]
      rcases Nat.lt_or_gt_of_ne this with k | k
      · exact .inl (.inl k)
      · exact .inr (.inl k)

/-- Is a name ahead of another? -/
def lt (a b : ByteArray) : Bool := Op.bytesLess a.toList b.toList
theorem lt_irrefl (a : ByteArray) : lt a a = false := less_irrefl _
theorem lt_trans {a b c : ByteArray} (h : lt a b = true) (k : lt b c = true) : lt a c = true := less_trans _ _ _ h k
theorem lt_total {a b : ByteArray} (h : a ≠ b) : lt a b = true ∨ lt b a = true := less_total _ _ (fun e => h (bytes_ext e))
theorem lt_asymm {a b : ByteArray} (h : lt a b = true) : lt b a = false := by
  cases k : lt b a with
  | false => rfl
  | true => have := lt_trans h k; rw [lt_irrefl] at this; cases this
theorem lt_ne {a b : ByteArray} (h : lt a b = true) : a ≠ b := fun e => by rw [e, lt_irrefl] at h; cases h
/-- not ahead of, and ahead of a third -/
theorem lt_of_not_lt {a b c : ByteArray} (h : lt b a = false) (k : lt b c = true) : lt a c = true := by
  by_cases e : a = b
  · rw [e]; exact k
  · rcases lt_total e with q | q
    · exact lt_trans q k
    · rw [h] at q; cases q
theorem lt_of_lt_not {a b c : ByteArray} (h : lt a b = true) (k : lt c b = false) : lt a c = true := by
  by_cases e : c = b
  · rw [e]; exact h
  · rcases lt_total e with q | q
    · rw [k] at q; cases q
    · exact lt_trans h q
theorem not_lt_trans {a b c : ByteArray} (h : lt b a = false) (k : lt c b = false) : lt c a = false := by
  cases q : lt c a with
  | false => rfl
  | true => have := lt_of_lt_not q h; rw [k] at this; cases this
theorem empty_lt {a : ByteArray} (h : a.size ≠ 0) : lt ⟨#[]⟩ a = true := by
  unfold lt
  rw [ByteArray.toList_eq, ByteArray.toList_eq]
  obtain ⟨⟨l⟩⟩ := a
  cases l with
  | nil => exact absurd rfl h
  | cons x r => rfl

/-! Names. -/
def letB (n : Nat) : Bool := decide (97 ≤ n ∧ n ≤ 122 ∨ n = 95)
def digB (n : Nat) : Bool := decide (48 ≤ n ∧ n ≤ 57)
def okAt (i : Nat) (b : UInt8) : Bool := letB b.toNat || (decide (i ≠ 0) && digB b.toNat)
def isName (s : ByteArray) : Bool := decide (1 ≤ s.size ∧ s.size ≤ 20 ∧ ∀ i, i < s.size → okAt i (s.data.toList.getD i 0) = true)
theorem isName_true {s : ByteArray} (h : isName s = true) : 1 ≤ s.size ∧ s.size ≤ 20 ∧ ∀ i, i < s.size → okAt i (s.data.toList.getD i 0) = true := of_decide_eq_true h
theorem isName_mk {s : ByteArray} (h : 1 ≤ s.size ∧ s.size ≤ 20 ∧ ∀ i, i < s.size → okAt i (s.data.toList.getD i 0) = true) : isName s = true := decide_eq_true h
theorem isName_no {s : ByteArray} (h : ¬ (1 ≤ s.size ∧ s.size ≤ 20 ∧ ∀ i, i < s.size → okAt i (s.data.toList.getD i 0) = true)) : isName s = false := decide_eq_false h
theorem getD_at (s : ByteArray) (k : Nat) (h : k < s.size) : s.data.toList.getD k 0 = s[k] := by
  have h' : k < s.data.size := h
  simp [List.getD, Array.getElem?_eq_getElem h']
  rfl

/-! What is wrong. -/
def has (ps : List Pr) (n : ByteArray) : Bool := ps.any (fun p => decide (p.1 = n))
theorem has_app (a b : List Pr) (n : ByteArray) : has (a ++ b) n = (has a n || has b n) := by simp [has]
theorem has_iff {ps : List Pr} {n : ByteArray} : has ps n = true ↔ ∃ p ∈ ps, p.1 = n := by simp [has]
theorem has_no {ps : List Pr} {n : ByteArray} : has ps n = false ↔ ∀ p ∈ ps, p.1 ≠ n := by simp [has]
def chkAt (pre : List Pr) (p : Pr) : Nat := if isName p.1 = false then 3 else if 40 < p.2.size then 7 else if has pre p.1 = true then 4 else 0
def chk : List Pr → List Pr → Nat
  | _, [] => 0
  | pre, p :: r => if chkAt pre p = 0 then chk (pre ++ [p]) r else chkAt pre p
def check (l : List Pr) : Nat := if 8 < l.length then 6 else chk [] l
/-- Right labels: as C1's words say. -/
def Right (l : List Pr) : Prop := l.length ≤ 8 ∧ (∀ p ∈ l, isName p.1 = true ∧ p.2.size ≤ 40) ∧ l.Pairwise (fun a b => a.1 ≠ b.1)
theorem chkAt_zero {pre : List Pr} {p : Pr} : chkAt pre p = 0 ↔ isName p.1 = true ∧ p.2.size ≤ 40 ∧ ∀ q ∈ pre, q.1 ≠ p.1 := by
  unfold chkAt
  rw [← has_no]
  cases isName p.1 <;> cases has pre p.1 <;> by_cases h2 : 40 < p.2.size <;> simp [h2] <;> omega
theorem chk_zero : ∀ (r pre : List Pr), chk pre r = 0 ↔ (∀ p ∈ r, isName p.1 = true ∧ p.2.size ≤ 40) ∧ r.Pairwise (fun a b => a.1 ≠ b.1) ∧ ∀ q ∈ pre, ∀ p ∈ r, q.1 ≠ p.1
  | [], pre => by simp [chk]
  | p :: r, pre => by
    unfold chk
    by_cases h : chkAt pre p = 0
    · rw [if_pos h, chk_zero r (pre ++ [p])]
      obtain ⟨h1, h2, h3⟩ := chkAt_zero.1 h
      constructor
      · rintro ⟨a, b, c⟩
        refine ⟨fun q hq => ?_, List.pairwise_cons.2 ⟨fun q hq => c p (by simp) q hq, b⟩, fun q hq x hx => ?_⟩
        · rcases List.mem_cons.1 hq with rfl | hq
          · exact ⟨h1, h2⟩
          · exact a q hq
        · rcases List.mem_cons.1 hx with rfl | hx
          · exact h3 q hq
          · exact c q (by simp [hq]) x hx
      · rintro ⟨a, b, c⟩
        obtain ⟨b1, b2⟩ := List.pairwise_cons.1 b
        refine ⟨fun q hq => a q (List.mem_cons_of_mem _ hq), b2, fun q hq x hx => ?_⟩
        rcases List.mem_append.1 hq with hq | hq
        · exact c q hq x (List.mem_cons_of_mem _ hx)
        · rw [List.mem_singleton.1 hq]; exact b1 x hx
    · rw [if_neg h]
      refine ⟨fun e => absurd e h, fun ⟨a, b, c⟩ => absurd (chkAt_zero.2 ⟨(a p (by simp)).1, (a p (by simp)).2, fun q hq => c q hq p (by simp)⟩) h⟩
theorem check_zero {l : List Pr} : check l = 0 ↔ Right l := by
  unfold check Right
  by_cases h : 8 < l.length
  · rw [if_pos h]; constructor
    · intro e; cases e
    · rintro ⟨a, _⟩; omega
  · rw [if_neg h, chk_zero]
    simp only [List.not_mem_nil, false_implies, implies_true, and_true]
    exact ⟨fun ⟨a, b⟩ => ⟨by omega, a, b⟩, fun ⟨_, a, b⟩ => ⟨a, b⟩⟩
theorem chkAt_lt (pre : List Pr) (p : Pr) : chkAt pre p < 8 := by
  unfold chkAt; repeat' split
  all_goals omega
theorem chk_lt : ∀ (r pre : List Pr), chk pre r < 8
  | [], _ => by simp [chk]
  | p :: r, pre => by
    unfold chk; split
    · exact chk_lt r _
    · exact chkAt_lt _ _
theorem check_lt (l : List Pr) : check l < 8 := by
  unfold check; split
  · omega
  · exact chk_lt _ _

/-! In order. -/
def ins (x : Pr) : List Pr → List Pr
  | [] => [x]
  | y :: r => if lt x.1 y.1 = true then x :: y :: r else y :: ins x r
def canon (l : List Pr) : List Pr := l.foldl (fun s x => ins x s) []
def Sorted (l : List Pr) : Prop := l.Pairwise (fun a b => lt b.1 a.1 = false)
def Rise (l : List Pr) : Prop := l.Pairwise (fun a b => lt a.1 b.1 = true)
theorem ins_perm (x : Pr) : ∀ l : List Pr, (ins x l).Perm (x :: l)
  | [] => List.Perm.refl _
  | y :: r => by
    unfold ins; split
    · exact List.Perm.refl _
    · exact ((ins_perm x r).cons y).trans (List.Perm.swap x y r)
theorem ins_sorted (x : Pr) : ∀ l : List Pr, Sorted l → Sorted (ins x l)
  | [], _ => List.pairwise_singleton _ _
  | y :: r, h => by
    obtain ⟨h1, h2⟩ := List.pairwise_cons.1 h
    unfold ins; split
    · rename_i q
      refine List.pairwise_cons.2 ⟨fun z hz => ?_, h⟩
      rcases List.mem_cons.1 hz with rfl | hz
      · exact lt_asymm q
      · exact not_lt_trans (lt_asymm q) (h1 z hz)
    · rename_i q
      refine List.pairwise_cons.2 ⟨fun z hz => ?_, ins_sorted x r h2⟩
      rcases List.mem_cons.1 ((ins_perm x r).mem_iff.1 hz) with rfl | hz
      · simpa using q
      · exact h1 z hz
theorem canon_snoc (l : List Pr) (x : Pr) : canon (l ++ [x]) = ins x (canon l) := by simp [canon, List.foldl_append]
theorem canon_ind {p : List Pr → List Pr → Prop} (h0 : p [] []) (hs : ∀ l x, p l (canon l) → p (l ++ [x]) (ins x (canon l))) : ∀ (n : Nat) (l : List Pr), l.length = n → p l (canon l)
  | 0, l, h => by rw [List.length_eq_zero_iff.1 h]; exact h0
  | n + 1, l, h => by
    have hne : l ≠ [] := by intro e; rw [e] at h; simp at h
    rw [← List.dropLast_concat_getLast hne, canon_snoc]
    exact hs _ _ (canon_ind h0 hs n l.dropLast (by simp; omega))
theorem canon_perm (l : List Pr) : (canon l).Perm l :=
  canon_ind (p := fun l c => c.Perm l) (List.Perm.refl _) (fun l x h => (ins_perm x _).trans ((h.cons x).trans (List.perm_append_comm (l₁ := [x]) (l₂ := l)))) _ l rfl
theorem canon_sorted (l : List Pr) : Sorted (canon l) := canon_ind (p := fun _ c => Sorted c) List.Pairwise.nil (fun _ x h => ins_sorted x _ h) _ l rfl
theorem canon_length (l : List Pr) : (canon l).length = l.length := (canon_perm l).length_eq
/-- where it goes -/
theorem ins_at (x : Pr) : ∀ (s : List Pr) (k : Nat), Sorted s → k ≤ s.length → (∀ j (h : j < s.length), k ≤ j → lt x.1 (s[j]).1 = true) → (∀ j (h : j < s.length), j + 1 = k → lt x.1 (s[j]).1 = false) → ins x s = s.take k ++ x :: s.drop k
  | [], k, _, hk, _, _ => by simp at hk; subst hk; rfl
  | y :: r, k, hs, hk, h1, h2 => by
    obtain ⟨s1, s2⟩ := List.pairwise_cons.1 hs
    cases k with
    | zero =>
      have := h1 0 (by simp) (by omega)
      unfold ins; rw [if_pos (by simpa using this)]; rfl
    | succ k =>
      have hy : lt x.1 y.1 = false := by
        cases k with
        | zero => exact h2 0 (by simp) rfl
        | succ k =>
          have hk' : k < r.length := by simp at hk; omega
          have q : lt x.1 (r[k]).1 = false := h2 (k + 1) (by simp; omega) rfl
          exact not_lt_trans (s1 _ (List.getElem_mem hk')) q
      unfold ins; rw [if_neg (by rw [hy]; simp)]
      rw [ins_at x r k s2 (by simpa using hk) (fun j h hj => h1 (j + 1) (by simp; omega) (by omega)) (fun j h hj => h2 (j + 1) (by simp; omega) (by omega))]
      rfl
theorem rise_of {l : List Pr} (h : Sorted l) (hd : l.Pairwise (fun a b => a.1 ≠ b.1)) : Rise l :=
  List.Pairwise.imp₂ (fun a b h1 h2 => (lt_total h2).elim id (fun q => by rw [h1] at q; cases q)) h hd
theorem perm_ne {a b : List Pr} (h : a.Perm b) (hd : a.Pairwise (fun x y => x.1 ≠ y.1)) : b.Pairwise (fun x y => x.1 ≠ y.1) :=
  h.pairwise hd (fun h e => h e.symm)
theorem canon_rise {l : List Pr} (h : Right l) : Rise (canon l) := rise_of (canon_sorted l) (perm_ne (canon_perm l).symm h.2.2)
theorem canon_right {l : List Pr} (h : Right l) : Right (canon l) :=
  ⟨by rw [canon_length]; exact h.1, fun p hp => h.2.1 p ((canon_perm l).mem_iff.1 hp), perm_ne (canon_perm l).symm h.2.2⟩
theorem perm_right {a b : List Pr} (hp : a.Perm b) (h : Right a) : Right b :=
  ⟨by rw [← hp.length_eq]; exact h.1, fun p hq => h.2.1 p (hp.mem_iff.2 hq), perm_ne hp h.2.2⟩
/-- There is one order that rises. -/
theorem rise_unique : ∀ {a b : List Pr}, a.Perm b → Rise a → Rise b → a = b
  | [], b, h, _, _ => (List.nil_perm.1 h).symm
  | x :: a, [], h, _, _ => by simpa using h.length_eq
  | x :: a, y :: b, h, ha, hb => by
    obtain ⟨a1, a2⟩ := List.pairwise_cons.1 ha
    obtain ⟨b1, b2⟩ := List.pairwise_cons.1 hb
    have e : x = y := by
      rcases List.mem_cons.1 (h.mem_iff.1 (List.mem_cons_self ..)) with e | hx
      · exact e
      · rcases List.mem_cons.1 (h.mem_iff.2 (List.mem_cons_self ..)) with e | hy
        · exact e.symm
        · have := lt_asymm (b1 x hx); rw [a1 y hy] at this; cases this
    subst e
    rw [rise_unique (List.Perm.cons_inv h) a2 b2]
theorem canon_of_rise {l : List Pr} (h : Rise l) (hr : Right l) : canon l = l := rise_unique (canon_perm l) (canon_rise hr) h
theorem canon_same {a b : List Pr} (h : a.Perm b) (ha : Right a) : canon a = canon b :=
  rise_unique ((canon_perm a).trans (h.trans (canon_perm b).symm)) (canon_rise ha) (canon_rise (perm_right h ha))

/-! Values, matchers. -/
def value (ps : List Pr) (n : ByteArray) : ByteArray := match ps.find? (fun p => decide (p.1 = n)) with | some p => p.2 | none => ⟨#[]⟩
theorem value_cons_eq {p : Pr} {r : List Pr} {n : ByteArray} (h : p.1 = n) : value (p :: r) n = p.2 := by simp [value, h]
theorem value_cons_ne {p : Pr} {r : List Pr} {n : ByteArray} (h : p.1 ≠ n) : value (p :: r) n = value r n := by simp [value, h]
theorem value_mem {l : List Pr} (hd : l.Pairwise (fun a b => a.1 ≠ b.1)) {p : Pr} (hp : p ∈ l) : value l p.1 = p.2 := by
  induction l with
  | nil => cases hp
  | cons q r ih =>
    obtain ⟨h1, h2⟩ := List.pairwise_cons.1 hd
    rcases List.mem_cons.1 hp with rfl | hp
    · exact value_cons_eq rfl
    · rw [value_cons_ne (h1 p hp)]; exact ih h2 hp
theorem value_none {l : List Pr} {n : ByteArray} (h : ∀ p ∈ l, p.1 ≠ n) : value l n = ⟨#[]⟩ := by
  induction l with
  | nil => rfl
  | cons q r ih => rw [value_cons_ne (h q (by simp))]; exact ih (fun p hp => h p (List.mem_cons_of_mem _ hp))
theorem value_perm {a b : List Pr} (h : a.Perm b) (hd : a.Pairwise (fun x y => x.1 ≠ y.1)) (n : ByteArray) : value a n = value b n := by
  cases q : has a n with
  | true =>
    obtain ⟨p, hp, rfl⟩ := has_iff.1 q
    rw [value_mem hd hp, value_mem (perm_ne h hd) (h.mem_iff.1 hp)]
  | false =>
    rw [value_none (has_no.1 q), value_none (fun p hp => has_no.1 q p (h.mem_iff.2 hp))]

/-! Their bytes. -/
def txt (s : ByteArray) : List UInt8 := Num.put s.size ++ s.data.toList
def pb : List Pr → List UInt8
  | [] => []
  | p :: r => txt p.1 ++ txt p.2 ++ pb r
def putL (l : List Pr) : List UInt8 := Num.put l.length ++ pb l
theorem pb_app : ∀ a b : List Pr, pb (a ++ b) = pb a ++ pb b
  | [], b => rfl
  | p :: r, b => by simp only [List.cons_append, pb]; rw [pb_app r b]; simp
theorem txt_len {s : ByteArray} (h : s.size ≤ 1099511627776) : (txt s).length ≤ s.size + 10 := by
  have := Num.put_len10 (n := s.size) (by omega)
  simp [txt]; omega
theorem pb_len : ∀ l : List Pr, (∀ p ∈ l, p.1.size ≤ 2000 ∧ p.2.size ≤ 2000) → (pb l).length ≤ 5000 * l.length
  | [], _ => by simp [pb]
  | p :: r, h => by
    have h1 := pb_len r (fun q hq => h q (List.mem_cons_of_mem _ hq))
    obtain ⟨h2, h3⟩ := h p (by simp)
    have h4 := txt_len (s := p.1) (by omega)
    have h5 := txt_len (s := p.2) (by omega)
    simp only [pb, List.length_append, List.length_cons]; omega
theorem txt_inj {a b : ByteArray} {x y : List UInt8} (ha : a.size ≤ 1099511627776) (hb : b.size ≤ 1099511627776) (h : txt a ++ x = txt b ++ y) : a = b ∧ x = y := by
  unfold txt at h
  rw [List.append_assoc, List.append_assoc] at h
  obtain ⟨e, k⟩ := Num.put_inj (by omega) (by omega) h
  have hl : a.data.toList.length = b.data.toList.length := e
  obtain ⟨k1, k2⟩ := List.append_inj k hl
  exact ⟨ByteArray.ext (Array.ext' k1), k2⟩
theorem pb_inj : ∀ {a b : List Pr} {x y : List UInt8}, a.length = b.length → (∀ p ∈ a, p.1.size ≤ 2000 ∧ p.2.size ≤ 2000) → (∀ p ∈ b, p.1.size ≤ 2000 ∧ p.2.size ≤ 2000) → pb a ++ x = pb b ++ y → a = b ∧ x = y
  | [], [], x, y, _, _, _, h => ⟨rfl, h⟩
  | [], _ :: _, _, _, h, _, _, _ => by simp at h
  | _ :: _, [], _, _, h, _, _, _ => by simp at h
  | (p1, p2) :: a, (q1, q2) :: b, x, y, hl, ha, hb, h => by
    have hp := ha (p1, p2) (by simp)
    have hq := hb (q1, q2) (by simp)
    simp only [pb, List.append_assoc] at h hp hq
    obtain ⟨e1, h2⟩ := txt_inj (by omega) (by omega) h
    obtain ⟨e2, h3⟩ := txt_inj (by omega) (by omega) h2
    obtain ⟨e3, e4⟩ := pb_inj (by simpa using hl) (fun r hr => ha r (by simp [hr])) (fun r hr => hb r (by simp [hr])) h3
    rw [e1, e2, e3, e4]; exact ⟨rfl, rfl⟩
theorem right_small {l : List Pr} (h : Right l) : ∀ p ∈ l, p.1.size ≤ 2000 ∧ p.2.size ≤ 2000 := fun p hp => by
  obtain ⟨h1, h2⟩ := h.2.1 p hp
  have := isName_true h1
  omega
theorem putL_inj {a b : List Pr} {x y : List UInt8} (ha : Right a) (hb : Right b) (h : putL a ++ x = putL b ++ y) : a = b ∧ x = y := by
  unfold putL at h
  rw [List.append_assoc, List.append_assoc] at h
  have h8 := ha.1
  have h9 := hb.1
  obtain ⟨e, k⟩ := Num.put_inj (by omega) (by omega) h
  exact pb_inj e (right_small ha) (right_small hb) k
theorem putL_len {l : List Pr} (h : Right l) : (putL l).length ≤ 50000 := by
  have h1 := pb_len l (right_small h)
  have h2 := h.1
  have h3 := Num.put_len10 (n := l.length) (by omega)
  simp [putL]; omega

end Go.Proofs.Ytjbdofjheeljkaa.Lab
namespace Go.Proofs.Ytjbdofjheeljkaa.Ldg
open Go.Proofs.Ytjbdofjheeljkaa

/-- A destination as the program has it. -/
structure De where
  name : ByteArray
  since : Nat
  low : Nat
  above : List Nat
  ak : Nat
  ev : Nat
  rj : Nat
structure Le where
  first : Nat
  next : Nat
  dests : List De
/-- .. and as each entry's state. -/
structure Rd where
  name : ByteArray
  since : Nat
  all : List Nat
structure Rl where
  first : Nat
  next : Nat
  dests : List Rd

def settle : Nat → List Nat → Nat × List Nat
  | lo, [] => (lo, [])
  | lo, x :: r => if x = lo then settle (lo + 1) r else (lo, x :: r)
def cnt (t : Nat) (l : List Nat) : Nat := l.countP (fun x => decide (x < t))
def ins (s : Nat) (l : List Nat) : List Nat := l.take (cnt s l) ++ s :: l.drop (cnt s l)
def De.settled (d : De) : De := { d with low := (settle d.low d.above).1, above := (settle d.low d.above).2 }
def De.finish (s : Nat) (d : De) : De := De.settled { d with above := ins s d.above }
def De.count (k : Nat) (d : De) : De := if k = 97 then { d with ak := d.ak + 1 } else { d with rj := d.rj + 1 }
def De.evict (t : Nat) (d : De) : De := if t ≤ d.low then d else De.settled { d with ev := d.ev + (t - d.low - cnt t d.above), low := t, above := d.above.drop (cnt t d.above) }
def De.waits (s next : Nat) (d : De) : Bool := decide (d.low ≤ s) && decide (s < next) && !(d.above.contains s)
def De.pend (next : Nat) (d : De) : List Nat := (List.range' d.low (next - d.low)).filter (fun s => !d.above.contains s)
def rises : Nat → List Nat → Nat → Bool
  | _, [], _ => true
  | lo, x :: r, next => decide (lo < x) && decide (x < next) && rises x r next

/-- What is right of a destination. -/
def De.right (first next : Nat) (d : De) : Bool := Lab.isName d.name && (decide (1 ≤ d.since) && (decide (d.since ≤ d.low) && (decide (d.low ≤ next) && (rises d.low d.above next && (decide (first ≤ d.low) && decide (d.ak + d.ev + d.rj = d.low - d.since + d.above.length))))))
/-- No number of it is great. -/
structure De.Small (d : De) : Prop where
  since : d.since ≤ 1000000000
  low : d.low ≤ 1000000000
  len : d.above.length ≤ 1000000000
  nums : ∀ x ∈ d.above, x ≤ 1000000000
  ak : d.ak ≤ 1000000000
  ev : d.ev ≤ 1000000000
  rj : d.rj ≤ 1000000000
  name : d.name.size ≤ 1000000000
def plcN : List ByteArray → ByteArray → Nat → Int
  | [], _, _ => -1
  | x :: r, n, k => if x = n then (k : Int) else plcN r n (k + 1)
/-- The place of a name; -1: there is none. -/
def plc (l : List ByteArray) (n : ByteArray) : Int := plcN l n 0
/-- The done numbers, rising. -/
def dn : Nat → List Nat → List Nat
  | _, [] => []
  | s, x :: r => if x = 112 then dn (s + 1) r else s :: dn (s + 1) r
/-- .. and those that are pending. -/
def pn : Nat → List Nat → List Nat
  | _, [] => []
  | s, x :: r => if x = 112 then s :: pn (s + 1) r else pn (s + 1) r
def evs : Nat → Nat → List Nat → List Nat
  | _, _, [] => []
  | s, t, x :: r => (if s < t ∧ x = 112 then 101 else x) :: evs (s + 1) t r
def lowR : Nat → List Nat → Nat
  | s, [] => s
  | s, x :: r => if x = 112 then s else lowR (s + 1) r
def Rd.low (d : Rd) : Nat := lowR d.since d.all
def Rd.above (d : Rd) : List Nat := (dn d.since d.all).filter (fun x => decide (d.low < x))
def Rd.abs (d : Rd) : De := ⟨d.name, d.since, d.low, d.above, d.all.count 97, d.all.count 101, d.all.count 114⟩
def Rl.abs (l : Rl) : Le := ⟨l.first, l.next, l.dests.map Rd.abs⟩

theorem dn_ge : ∀ (l : List Nat) (s : Nat), ∀ x ∈ dn s l, s ≤ x ∧ x < s + l.length
  | [], _, x, h => by simp [dn] at h
  | y :: r, s, x, h => by
    unfold dn at h
    simp only [List.length_cons]
    split at h
    · have := dn_ge r (s + 1) x h; omega
    · rcases List.mem_cons.1 h with rfl | h
      · omega
      · have := dn_ge r (s + 1) x h; omega
theorem dn_rise : ∀ (l : List Nat) (s : Nat), (dn s l).Pairwise (· < ·)
  | [], _ => List.Pairwise.nil
  | y :: r, s => by
    unfold dn
    split
    · exact dn_rise r (s + 1)
    · exact List.Pairwise.cons (fun x hx => by have := dn_ge r (s + 1) x hx; omega) (dn_rise r (s + 1))
theorem lowR_ge : ∀ (l : List Nat) (s : Nat), s ≤ lowR s l ∧ lowR s l ≤ s + l.length
  | [], s => by simp [lowR]
  | y :: r, s => by
    unfold lowR
    simp only [List.length_cons]
    split
    · omega
    · have := lowR_ge r (s + 1); omega
theorem settle_dn : ∀ (l : List Nat) (s : Nat), settle s (dn s l) = (lowR s l, (dn s l).filter (fun x => decide (lowR s l < x)))
  | [], s => by simp [settle, dn, lowR]
  | y :: r, s => by
    unfold dn lowR
    split
    · have hge := dn_ge r (s + 1)
      have hf : (dn (s + 1) r).filter (fun x => decide (s < x)) = dn (s + 1) r := List.filter_eq_self.2 (fun x hx => by have := hge x hx; simp; omega)
      rw [hf]
      cases hd : dn (s + 1) r with
      | nil => rfl
      | cons z t =>
        have := hge z (by rw [hd]; simp)
        unfold settle
        rw [if_neg (by omega)]
    · have h1 := settle_dn r (s + 1)
      have h2 := lowR_ge r (s + 1)
      unfold settle
      rw [if_pos rfl, h1, List.filter_cons_of_neg (by simp; omega)]
theorem settle_range : ∀ (k s : Nat) (l : List Nat), settle s (List.range' s k ++ l) = settle (s + k) l
  | 0, s, l => by simp
  | k + 1, s, l => by
    rw [List.range'_succ, List.cons_append]
    conv => lhs; unfold settle
    rw [if_pos rfl, settle_range k (s + 1) l]
    congr 1; omega
/-- The done numbers are those below Low, and those of Above. -/
theorem dn_split : ∀ (l : List Nat) (s : Nat), dn s l = List.range' s (lowR s l - s) ++ (dn s l).filter (fun x => decide (lowR s l < x))
  | [], s => by simp [dn, lowR]
  | y :: r, s => by
    unfold dn lowR
    split
    · rw [Nat.sub_self]
      have hf : (dn (s + 1) r).filter (fun x => decide (s < x)) = dn (s + 1) r := List.filter_eq_self.2 (fun x hx => by have := dn_ge r (s + 1) x hx; simp; omega)
      rw [hf]; rfl
    · have h2 := lowR_ge r (s + 1)
      have e : lowR (s + 1) r - s = lowR (s + 1) r - (s + 1) + 1 := by omega
      rw [List.filter_cons_of_neg (by simp; omega), e, List.range'_succ, List.cons_append, ← dn_split r (s + 1)]
theorem mem_dn : ∀ (l : List Nat) (s x : Nat), x ∈ dn s l ↔ s ≤ x ∧ ∃ h : x - s < l.length, l[x - s] ≠ 112
  | [], s, x => by simp [dn]
  | y :: r, s, x => by
    have ih := mem_dn r (s + 1) x
    unfold dn
    by_cases hx : x = s
    · subst hx
      have : ¬ x ∈ dn (x + 1) r := fun h => by have := dn_ge r (x + 1) x h; omega
      split
      · rename_i h; simp [this, h]
      · rename_i h; simp [h]
    · have hgt : s + 1 ≤ x → (x - s) = (x - (s + 1)) + 1 := fun _ => by omega
      have key : x ∈ dn (s + 1) r ↔ s ≤ x ∧ ∃ h : x - s < (y :: r).length, (y :: r)[x - s] ≠ 112 := by
        rw [ih]
        constructor
        · rintro ⟨h1, h2, h3⟩
          refine ⟨by omega, by simp; omega, ?_⟩
          simp only [hgt h1, List.getElem_cons_succ]; exact h3
        · rintro ⟨h1, h2, h3⟩
          have h4 : s + 1 ≤ x := by omega
          refine ⟨h4, by simp at h2; omega, ?_⟩
          simp only [hgt h4, List.getElem_cons_succ] at h3; exact h3
      split
      · exact key
      · rw [List.mem_cons, key]; simp [hx]
theorem mem_pn : ∀ (l : List Nat) (s x : Nat), x ∈ pn s l ↔ s ≤ x ∧ ∃ h : x - s < l.length, l[x - s] = 112
  | [], s, x => by simp [pn]
  | y :: r, s, x => by
    have ih := mem_pn r (s + 1) x
    unfold pn
    by_cases hx : x = s
    · subst hx
      have : ¬ x ∈ pn (x + 1) r := fun h => by have := ih.1 h; omega
      split
      · rename_i h; simp [h]
      · rename_i h; simp [this, h]
    · have hgt : s + 1 ≤ x → (x - s) = (x - (s + 1)) + 1 := fun _ => by omega
      have key : x ∈ pn (s + 1) r ↔ s ≤ x ∧ ∃ h : x - s < (y :: r).length, (y :: r)[x - s] = 112 := by
        rw [ih]
        constructor
        · rintro ⟨h1, h2, h3⟩
          refine ⟨by omega, by simp; omega, ?_⟩
          simp only [hgt h1, List.getElem_cons_succ]; exact h3
        · rintro ⟨h1, h2, h3⟩
          have h4 : s + 1 ≤ x := by omega
          refine ⟨h4, by simp at h2; omega, ?_⟩
          simp only [hgt h4, List.getElem_cons_succ] at h3; exact h3
      split
      · rw [List.mem_cons, key]; simp [hx]
      · exact key
theorem pn_rise : ∀ (l : List Nat) (s : Nat), (pn s l).Pairwise (· < ·)
  | [], _ => List.Pairwise.nil
  | y :: r, s => by
    unfold pn
    split
    · exact List.Pairwise.cons (fun x hx => by have := ((mem_pn r (s + 1) x).1 hx).1; omega) (pn_rise r (s + 1))
    · exact pn_rise r (s + 1)
theorem pn_eq : ∀ (l : List Nat) (s : Nat), pn s l = (List.range' s l.length).filter (fun x => !(dn s l).contains x)
  | [], s => by simp [pn]
  | y :: r, s => by
    have ih := pn_eq r (s + 1)
    have hge := dn_ge r (s + 1)
    have hs : (dn (s + 1) r).contains s = false := by
      rw [Bool.eq_false_iff]; intro h
      have := hge s (by simpa using h); omega
    rw [List.length_cons, List.range'_succ]
    unfold pn dn
    split
    · rw [List.filter_cons_of_pos (by rw [hs]; rfl), ih]
    · rw [List.filter_cons_of_neg (by simp), ih]
      refine List.filter_congr (fun x hx => ?_)
      have := List.mem_range'_1.1 hx
      have hne : x ≠ s := by omega
      simp [hne]
theorem pn_add : ∀ (l m : List Nat) (s : Nat), pn s (l ++ m) = pn s l ++ pn (s + l.length) m
  | [], m, s => by simp [pn]
  | y :: r, m, s => by
    have ih := pn_add r m (s + 1)
    rw [List.length_cons, show s + (r.length + 1) = s + 1 + r.length by omega]
    simp only [List.cons_append, pn]
    split
    · rw [ih]; rfl
    · exact ih
theorem dn_len : ∀ (l : List Nat) (s : Nat), (dn s l).length + l.count 112 = l.length
  | [], s => by simp [dn]
  | y :: r, s => by
    have ih := dn_len r (s + 1)
    unfold dn
    split
    · rename_i h; subst h; rw [List.count_cons_self, List.length_cons]; omega
    · rename_i h; rw [List.count_cons_of_ne (by exact h), List.length_cons, List.length_cons]; omega
theorem pn_len : ∀ (l : List Nat) (s : Nat), (pn s l).length = l.count 112
  | [], s => by simp [pn]
  | y :: r, s => by
    have ih := pn_len r (s + 1)
    unfold pn
    split
    · rename_i h; subst h; rw [List.count_cons_self, List.length_cons, ih]
    · rename_i h; rw [List.count_cons_of_ne (by exact h), ih]

theorem settle_go {lo : Nat} {l : List Nat} {m : Nat} (hm : m < l.length) (h : l[m] = lo + m) : settle (lo + m) (l.drop m) = settle (lo + (m + 1)) (l.drop (m + 1)) := by
  rw [List.drop_eq_getElem_cons hm]
  conv => lhs; unfold settle
  rw [if_pos h]; rfl
theorem settle_stop {lo : Nat} {l : List Nat} {m : Nat} (h : ∀ hm : m < l.length, l[m] ≠ lo + m) : settle (lo + m) (l.drop m) = (lo + m, l.drop m) := by
  by_cases hm : m < l.length
  · rw [List.drop_eq_getElem_cons hm]
    unfold settle
    rw [if_neg (h hm)]
  · rw [List.drop_eq_nil_of_le (by omega)]; rfl

theorem dn_add : ∀ (l m : List Nat) (s : Nat), dn s (l ++ m) = dn s l ++ dn (s + l.length) m
  | [], m, s => by simp [dn]
  | y :: r, m, s => by
    have ih := dn_add r m (s + 1)
    rw [List.length_cons, show s + (r.length + 1) = s + 1 + r.length by omega]
    simp only [List.cons_append, dn]
    split
    · exact ih
    · rw [ih]; rfl
theorem dn_next {l : List Nat} {s k x : Nat} (hk : k < l.length) (hx : l[k] = x) : dn s (l.take (k + 1)) = if x = 112 then dn s (l.take k) else dn s (l.take k) ++ [s + k] := by
  rw [List.take_succ_eq_append_getElem hk, dn_add, hx]
  have : (l.take k).length = k := by simp; omega
  rw [this]
  by_cases h : x = 112
  · simp [dn, h]
  · simp [dn, h]
theorem lowR_found {l : List Nat} {s k : Nat} (hk : k < l.length) (h : l[k] = 112) (hn : ∀ i (hi : i < l.length), i < k → l[i] ≠ 112) : lowR s l = s + k := by
  induction l generalizing s k with
  | nil => simp at hk
  | cons y r ih =>
    cases k with
    | zero =>
      have : y = 112 := h
      unfold lowR; rw [if_pos this]; omega
    | succ k =>
      have h0 : y ≠ 112 := hn 0 (by simp) (by omega)
      unfold lowR
      rw [if_neg h0, ih (s := s + 1) (k := k) (by simpa using hk) (by simpa using h) (fun i hi hik e => hn (i + 1) (by simp; omega) (by omega) (by simpa using e))]
      omega
theorem lowR_end {l : List Nat} {s : Nat} (hn : ∀ i (hi : i < l.length), l[i] ≠ 112) : lowR s l = s + l.length := by
  induction l generalizing s with
  | nil => simp [lowR]
  | cons y r ih =>
    have h0 : y ≠ 112 := hn 0 (by simp)
    unfold lowR
    rw [if_neg h0, ih (fun i hi e => hn (i + 1) (by simp; omega) (by simpa using e)), List.length_cons]
    omega

/-! ## An entry is done -/
theorem cnt_app (t : Nat) (a b : List Nat) : cnt t (a ++ b) = cnt t a + cnt t b := by simp [cnt]
theorem cnt_all {t : Nat} {a : List Nat} (h : ∀ x ∈ a, x < t) : cnt t a = a.length := by
  unfold cnt; rw [List.countP_eq_length]; simpa using h
theorem cnt_none {t : Nat} {a : List Nat} (h : ∀ x ∈ a, t ≤ x) : cnt t a = 0 := by
  unfold cnt; rw [List.countP_eq_zero]; intro x hx; have := h x hx; simp; omega
theorem cnt_le (t : Nat) (a : List Nat) : cnt t a ≤ a.length := List.countP_le_length
theorem ins_app {s : Nat} {a b : List Nat} (h : ∀ x ∈ a, x < s) : ins s (a ++ b) = a ++ ins s b := by
  have e : cnt s (a ++ b) = a.length + cnt s b := by rw [cnt_app, cnt_all h]
  unfold ins
  rw [e, List.take_length_add_append, List.drop_length_add_append, List.append_assoc]
theorem ins_cons {s y : Nat} {b : List Nat} (h : y < s) : ins s (y :: b) = y :: ins s b := ins_app (a := [y]) (by simpa using h)
theorem ins_none {s : Nat} {a : List Nat} (h : ∀ x ∈ a, s ≤ x) : ins s a = s :: a := by
  unfold ins; rw [cnt_none h]; rfl
theorem dn_set : ∀ (l : List Nat) (s i k : Nat) (hi : i < l.length), l[i] = 112 → k ≠ 112 → dn s (l.set i k) = ins (s + i) (dn s l)
  | [], s, i, k, hi, _, _ => by simp at hi
  | y :: r, s, 0, k, hi, h, hk => by
    have hy : y = 112 := h
    subst hy
    simp only [List.set_cons_zero, dn, if_neg hk, Nat.add_zero]
    rw [ins_none (fun x hx => by have := dn_ge r (s + 1) x hx; omega)]
    rfl
  | y :: r, s, i + 1, k, hi, h, hk => by
    have ih := dn_set r (s + 1) i k (by simpa using hi) (by simpa using h) hk
    rw [show s + 1 + i = s + (i + 1) by omega] at ih
    simp only [List.set_cons_succ, dn]
    split
    · exact ih
    · rw [ih, ins_cons (by omega)]
theorem lowR_le_pending {l : List Nat} {s i : Nat} (hi : i < l.length) (h : l[i] = 112) : lowR s l ≤ s + i := by
  by_cases hc : lowR s l ≤ s + i
  · exact hc
  · exfalso
    have hm : s + i ∈ dn s l := by
      rw [dn_split]
      exact List.mem_append_left _ (List.mem_range'_1.2 (by omega))
    obtain ⟨_, h2, h3⟩ := (mem_dn l s (s + i)).1 hm
    simp only [Nat.add_sub_cancel_left] at h3
    exact h3 h
theorem finish_dn {l : List Nat} {s i k : Nat} (hi : i < l.length) (h : l[i] = 112) (hk : k ≠ 112) :
    settle (lowR s l) (ins (s + i) ((dn s l).filter (fun x => decide (lowR s l < x)))) = (lowR s (l.set i k), (dn s (l.set i k)).filter (fun x => decide (lowR s (l.set i k) < x))) := by
  rw [← settle_dn, dn_set l s i k hi h hk]
  have h1 := lowR_ge l s
  have h2 := lowR_le_pending (s := s) hi h
  conv => rhs; rw [dn_split l s]
  rw [ins_app (fun x hx => by have := List.mem_range'_1.1 hx; omega), settle_range]
  congr 1; omega
theorem count_set : ∀ (l : List Nat) (i k c : Nat) (hi : i < l.length), l[i] = 112 → k ≠ 112 → c ≠ 112 → (l.set i k).count c = l.count c + (if k = c then 1 else 0)
  | [], i, k, c, hi, _, _, _ => by simp at hi
  | y :: r, 0, k, c, hi, h, hk, hc => by
    have hy : y = 112 := h
    subst hy
    rw [List.set_cons_zero, List.count_cons, List.count_cons_of_ne (by omega : (112 : Nat) ≠ c)]
    by_cases e : k = c
    · subst e; simp
    · simp [e]
  | y :: r, i + 1, k, c, hi, h, hk, hc => by
    have ih := count_set r i k c (by simpa using hi) (by simpa using h) hk hc
    rw [List.set_cons_succ, List.count_cons, List.count_cons, ih]; omega
/-- What Done makes of a destination. -/
theorem Rd.abs_done (d : Rd) (i k : Nat) (hi : i < d.all.length) (h : d.all[i] = 112) (hk : k = 97 ∨ k = 114) : De.count k (De.finish (d.since + i) d.abs) = Rd.abs { d with all := d.all.set i k } := by
  have hf := finish_dn (s := d.since) (k := k) hi h (by omega)
  have c1 := count_set d.all i k 97 hi h (by omega) (by omega)
  have c2 := count_set d.all i k 101 hi h (by omega) (by omega)
  have c3 := count_set d.all i k 114 hi h (by omega) (by omega)
  unfold De.finish De.settled Rd.abs Rd.above Rd.low
  simp only
  rw [hf, c1, c2, c3]
  unfold De.count
  rcases hk with rfl | rfl <;> simp

/-! ## Entries are evicted -/
theorem evs_len : ∀ (l : List Nat) (s t : Nat), (evs s t l).length = l.length
  | [], _, _ => rfl
  | y :: r, s, t => by simp [evs, evs_len r]
theorem evs_at : ∀ (l : List Nat) (s t i : Nat) (hi : i < l.length), (evs s t l)[i]'(by rw [evs_len]; exact hi) = (if s + i < t ∧ l[i] = 112 then 101 else l[i])
  | y :: r, s, t, 0, hi => by simp [evs]
  | y :: r, s, t, i + 1, hi => by
    have ih := evs_at r (s + 1) t i (by simpa using hi)
    rw [show s + 1 + i = s + (i + 1) by omega] at ih
    simpa [evs] using ih
theorem evs_low : ∀ (l : List Nat) (s t : Nat), t ≤ lowR s l → evs s t l = l
  | [], _, _, _ => rfl
  | y :: r, s, t, h => by
    unfold lowR at h
    unfold evs
    split at h
    · rw [if_neg (by omega)]
      have h2 := lowR_ge r (s + 1)
      rw [evs_low r (s + 1) t (by omega)]
    · rename_i hy
      rw [if_neg (fun x => hy x.2), evs_low r (s + 1) t h]
theorem evs_dn : ∀ (l : List Nat) (s t : Nat), s ≤ t → t ≤ s + l.length → dn s (evs s t l) = List.range' s (t - s) ++ (dn s l).drop (cnt t (dn s l))
  | [], s, t, h1, h2 => by
    have : t - s = 0 := by simp at h2; omega
    rw [this]; simp [evs, dn]
  | y :: r, s, t, h1, h2 => by
    have hge := dn_ge r (s + 1)
    by_cases ht : s < t
    · have ih := evs_dn r (s + 1) t (by omega) (by simp at h2; omega)
      have e : t - s = t - (s + 1) + 1 := by omega
      rw [e, List.range'_succ]
      unfold evs
      by_cases hy : y = 112
      · subst hy
        simp only [ht, true_and, if_true, dn, if_neg (by decide : ¬ (101 : Nat) = 112)]
        rw [ih]; rfl
      · simp only [hy, and_false, if_false, dn]
        rw [ih]
        have : cnt t (s :: dn (s + 1) r) = cnt t (dn (s + 1) r) + 1 := by
          have := cnt_app t [s] (dn (s + 1) r)
          rw [cnt_all (a := [s]) (by simpa using ht)] at this
          simp only [List.cons_append, List.nil_append, List.length_singleton] at this
          omega
        rw [this, List.drop_succ_cons]; rfl
    · have hts : t = s := by omega
      subst hts
      have h3 : evs t t (y :: r) = y :: r := evs_low _ _ _ (lowR_ge _ _).1
      rw [h3, Nat.sub_self]
      have : cnt t (dn t (y :: r)) = 0 := cnt_none (fun x hx => (dn_ge _ _ x hx).1)
      rw [this]; rfl
theorem evs_count : ∀ (l : List Nat) (s t : Nat), s ≤ t → t ≤ s + l.length → (evs s t l).count 101 + cnt t (dn s l) = l.count 101 + (t - s) ∧ (evs s t l).count 97 = l.count 97 ∧ (evs s t l).count 114 = l.count 114
  | [], s, t, h1, h2 => by
    have : t - s = 0 := by simp at h2; omega
    simp [evs, dn, cnt, this]
  | y :: r, s, t, h1, h2 => by
    have hge := dn_ge r (s + 1)
    by_cases ht : s < t
    · obtain ⟨i1, i2, i3⟩ := evs_count r (s + 1) t (by omega) (by simp at h2; omega)
      unfold evs
      by_cases hy : y = 112
      · subst hy
        simp only [ht, true_and, if_true, dn]
        rw [List.count_cons_self, List.count_cons_of_ne (by decide : (101 : Nat) ≠ 97), List.count_cons_of_ne (by decide : (101 : Nat) ≠ 114), List.count_cons_of_ne (by decide : (112 : Nat) ≠ 101), List.count_cons_of_ne (by decide : (112 : Nat) ≠ 97), List.count_cons_of_ne (by decide : (112 : Nat) ≠ 114)]
        exact ⟨by omega, i2, i3⟩
      · simp only [hy, and_false, if_false, dn]
        have e : cnt t (s :: dn (s + 1) r) = cnt t (dn (s + 1) r) + 1 := by
          have := cnt_app t [s] (dn (s + 1) r)
          rw [cnt_all (a := [s]) (by simpa using ht)] at this
          simp only [List.cons_append, List.nil_append, List.length_singleton] at this
          omega
        rw [e]
        simp only [List.count_cons]
        refine ⟨?_, ?_, ?_⟩ <;> omega
    · have hts : t = s := by omega
      subst hts
      have h3 : evs t t (y :: r) = y :: r := evs_low _ _ _ (lowR_ge _ _).1
      have : cnt t (dn t (y :: r)) = 0 := cnt_none (fun x hx => (dn_ge _ _ x hx).1)
      rw [h3, this]
      exact ⟨by omega, rfl, rfl⟩
theorem drop_cnt {t lo : Nat} {l : List Nat} {s : Nat} (h : lo ≤ t) (hs : s ≤ lo) (a : List Nat) (e : l = List.range' s (lo - s) ++ a) : l.drop (cnt t l) = a.drop (cnt t a) ∧ cnt t l = (lo - s) + cnt t a := by
  have hc : cnt t l = (lo - s) + cnt t a := by
    rw [e, cnt_app, cnt_all (fun x hx => by have := List.mem_range'_1.1 hx; omega), List.length_range']
  refine ⟨?_, hc⟩
  rw [hc, e]
  have := List.drop_length_add_append (l₁ := List.range' s (lo - s)) (l₂ := a) (i := cnt t a)
  rwa [List.length_range'] at this
theorem evs_mono : ∀ (l : List Nat) (s t : Nat), l.count 101 ≤ (evs s t l).count 101
  | [], _, _ => Nat.le_refl _
  | y :: r, s, t => by
    have ih := evs_mono r (s + 1) t
    unfold evs
    rw [List.count_cons, List.count_cons]
    by_cases h : s < t ∧ y = 112
    · rw [if_pos h, h.2]; simp; omega
    · rw [if_neg h]; omega
/-- What Evict makes of a destination. -/
theorem Rd.abs_evict (d : Rd) (t : Nat) (ht : t ≤ d.since + d.all.length) : De.evict t d.abs = Rd.abs { d with all := evs d.since t d.all } := by
  unfold De.evict
  by_cases hl : t ≤ d.low
  · have hl' : t ≤ d.abs.low := hl
    rw [if_pos hl', evs_low d.all d.since t hl]
  · have hl' : ¬ t ≤ d.abs.low := hl
    rw [if_neg hl']
    have h1 := lowR_ge d.all d.since
    have hlo : d.low < t := by omega
    have hsl : d.since ≤ d.low := h1.1
    obtain ⟨c1, c2, c3⟩ := evs_count d.all d.since t (by omega) ht
    have hd := evs_dn d.all d.since t (by omega) ht
    obtain ⟨e1, e2⟩ := drop_cnt (Nat.le_of_lt hlo) hsl d.above (dn_split d.all d.since)
    have hs2 := settle_dn (evs d.since t d.all) d.since
    rw [hd, settle_range, show d.since + (t - d.since) = t by omega, e1] at hs2
    have hcl := cnt_le t (dn d.since d.all)
    unfold De.settled Rd.abs
    simp only
    have f1 : d.all.count 101 + (t - d.low - cnt t d.above) = (evs d.since t d.all).count 101 := by
      have hlen : cnt t d.above ≤ t - d.low := by
        have := evs_mono d.all d.since t
        omega
      omega
    rw [hs2, f1, c2, c3]
    show De.mk _ _ _ _ _ _ _ = De.mk _ _ _ (Rd.above _) _ _ _
    unfold Rd.above Rd.low
    simp only
    rw [hd, e1]
    rfl
end Go.Proofs.Ytjbdofjheeljkaa.Ldg
namespace Go.Proofs.Ytjbdofjheeljkaa.Ldg
open Go.Proofs.Ytjbdofjheeljkaa

structure De.Fit (next : Nat) (d : De) : Prop where
  small : d.Small
  len : d.above.length ≤ 100000000
  low : d.low ≤ next
  rise : d.above.Pairwise (· < ·)
  ge : ∀ x ∈ d.above, d.low ≤ x
  cut : ∀ t, d.low < t → cnt t d.above ≤ t - d.low
structure Le.Fit (l : Le) : Prop where
  first : l.first ≤ 100000000
  next : l.next ≤ 100000000
  many : l.dests.length ≤ 4
  each : ∀ d ∈ l.dests, De.Fit l.next d
def lookAt {α : Type} (l : List α) (i : Int) : Option α := if i = -1 then none else l[i.toNat]?
theorem plcN_cases : ∀ (l : List ByteArray) (n : ByteArray) (k : Nat), (plcN l n k = -1 ∧ n ∉ l) ∨ ∃ (j : Nat) (h : j < l.length), plcN l n k = ((k + j : Nat) : Int) ∧ l[j] = n
  | [], n, k => .inl ⟨rfl, by simp⟩
  | x :: r, n, k => by
    unfold plcN
    by_cases h : x = n
    · rw [if_pos h]
      exact .inr ⟨0, by simp, by simp, h⟩
    · rw [if_neg h]
      rcases plcN_cases r n (k + 1) with ⟨h1, h2⟩ | ⟨j, hj, h1, h2⟩
      · exact .inl ⟨h1, by simp [h2]; exact fun e => h e.symm⟩
      · exact .inr ⟨j + 1, by simp; omega, by rw [h1]; omega, by simpa using h2⟩
theorem plc_cases (l : List ByteArray) (n : ByteArray) : (plc l n = -1 ∧ n ∉ l) ∨ ∃ (j : Nat) (h : j < l.length), plc l n = (j : Int) ∧ l[j] = n := by
  rcases plcN_cases l n 0 with h | ⟨j, hj, h1, h2⟩
  · exact .inl h
  · exact .inr ⟨j, hj, by unfold plc; rw [h1, Nat.zero_add], h2⟩
theorem lookAt_no {α : Type} (l : List α) {i : Int} (h : i = -1) : lookAt l i = none := by unfold lookAt; rw [if_pos h]
theorem lookAt_at {α : Type} {l : List α} {i : Int} {k : Nat} (h : i = (k : Int)) (hk : k < l.length) : lookAt l i = some l[k] := by
  unfold lookAt
  rw [if_neg (by omega), h, Int.toNat_natCast, List.getElem?_eq_getElem hk]
def Le.names (l : Le) : List ByteArray := l.dests.map De.name
def Le.look (l : Le) (n : ByteArray) : Option De := lookAt l.dests (plc l.names n)
def Le.waits (l : Le) (n : ByteArray) (q : Nat) : Bool := match l.look n with | none => false | some d => d.waits q l.next
def Le.pend (l : Le) (n : ByteArray) : List Nat := match l.look n with | none => [] | some d => d.pend l.next
def minLow : Nat → List De → Nat
  | m, [] => m
  | m, d :: r => minLow (min m d.low) r
def Le.free (l : Le) : Nat := minLow l.next l.dests
/-- What is right of destinations, behind others of these names. -/
def rights (first next : Nat) : List ByteArray → List De → Bool
  | _, [] => true
  | seen, d :: r => decide (plc seen d.name = -1) && (d.right first next && rights first next (seen ++ [d.name]) r)
def Le.right (l : Le) : Bool := decide (1 ≤ l.first) && (decide (l.first ≤ l.next) && (decide (l.dests.length ≤ 4) && rights l.first l.next [] l.dests))
def Le.none : Le := ⟨0, 0, []⟩
def Le.evict (t : Nat) (l : Le) : Le × Nat := if t < l.first ∨ l.next < t then (Le.none, 1) else (⟨t, l.next, l.dests.map (De.evict t)⟩, 0)
def Le.done (n : ByteArray) (s k : Nat) (l : Le) : Le × Nat :=
  match l.look n with
  | .none => (Le.none, 5)
  | .some d => if ¬ (k = 97 ∨ k = 114) then (Le.none, 1) else if d.waits s l.next = false then (Le.none, 13) else (⟨l.first, l.next, l.dests.set (plc l.names n).toNat (De.count k (De.finish s d))⟩, 0)
def Le.join (n : ByteArray) (l : Le) : Le × Nat :=
  if Lab.isName n = false then (Le.none, 3) else if ¬ plc l.names n = -1 then (Le.none, 4) else if 4 ≤ l.dests.length then (Le.none, 6) else (⟨l.first, l.next, l.dests ++ [⟨n, l.next, l.next, [], 0, 0, 0⟩]⟩, 0)
def Le.leave (n : ByteArray) (l : Le) : Le × Nat :=
  if plc l.names n = -1 then (Le.none, 5) else (⟨l.first, l.next, l.dests.take (plc l.names n).toNat ++ l.dests.drop ((plc l.names n).toNat + 1)⟩, 0)
/-- The first k of them changed. -/
def upTo {α : Type} (f : α → α) (k : Nat) (l : List α) : List α := (l.take k).map f ++ l.drop k
theorem upTo_zero {α : Type} (f : α → α) (l : List α) : upTo f 0 l = l := by simp [upTo]
theorem upTo_all {α : Type} (f : α → α) (l : List α) {k : Nat} (h : l.length ≤ k) : upTo f k l = l.map f := by simp [upTo, List.take_of_length_le h, List.drop_eq_nil_of_le h]
theorem upTo_len {α : Type} (f : α → α) (k : Nat) (l : List α) : (upTo f k l).length = l.length := by simp [upTo]; omega
theorem upTo_at {α : Type} (f : α → α) {k : Nat} {l : List α} (h : k < l.length) : (upTo f k l)[k]'(by rw [upTo_len]; exact h) = l[k] := by
  have hl : ((l.take k).map f).length = k := by simp; omega
  unfold upTo
  rw [List.getElem_append_right (by omega)]
  simp only [hl, Nat.sub_self]
  simp
theorem upTo_next {α : Type} (f : α → α) {k : Nat} {l : List α} (h : k < l.length) : (upTo f k l).set k (f l[k]) = upTo f (k + 1) l := by
  have hl : ((l.take k).map f).length = k := by simp; omega
  unfold upTo
  rw [List.set_append_right _ _ (by omega), hl, Nat.sub_self, List.drop_eq_getElem_cons h, List.set_cons_zero, List.take_succ_eq_append_getElem h, List.map_append, List.append_assoc]
  rfl
end Go.Proofs.Ytjbdofjheeljkaa.Ldg
namespace Go.Proofs.Ytjbdofjheeljkaa.Ldg
open Go.Proofs.Ytjbdofjheeljkaa

structure Rd.Ok (first next : Nat) (d : Rd) : Prop where
  name : Lab.isName d.name = true
  since : 1 ≤ d.since
  ends : d.since + d.all.length = next
  kinds : ∀ x ∈ d.all, x = 97 ∨ x = 101 ∨ x = 112 ∨ x = 114
  pend : ∀ x ∈ pn d.since d.all, first ≤ x
structure Rl.Ok (l : Rl) : Prop where
  f1 : 1 ≤ l.first
  fn : l.first ≤ l.next
  nb : l.next ≤ 10000000
  many : l.dests.length ≤ 4
  each : ∀ d ∈ l.dests, Rd.Ok l.first l.next d
  uniq : (l.dests.map Rd.name).Pairwise (· ≠ ·)
def Rl.names (l : Rl) : List ByteArray := l.dests.map Rd.name
def Rl.look (l : Rl) (n : ByteArray) : Option Rd := lookAt l.dests (plc l.names n)
def Rd.pend (d : Rd) : List Nat := pn d.since d.all
def Rl.waits (l : Rl) (n : ByteArray) (q : Nat) : Bool := match l.look n with | none => false | some d => d.pend.contains q
def Rl.pend (l : Rl) (n : ByteArray) : List Nat := match l.look n with | none => [] | some d => d.pend
def Rl.free (l : Rl) : Nat := minLow l.next (l.dests.map Rd.abs)
def Rl.none : Rl := ⟨0, 0, []⟩
def Rl.add (l : Rl) : Rl := ⟨l.first, l.next + 1, l.dests.map (fun d => { d with all := d.all ++ [112] })⟩
def Rl.join (n : ByteArray) (l : Rl) : Rl × Nat :=
  if Lab.isName n = false then (Rl.none, 3) else if ¬ plc l.names n = -1 then (Rl.none, 4) else if 4 ≤ l.dests.length then (Rl.none, 6) else (⟨l.first, l.next, l.dests ++ [⟨n, l.next, []⟩]⟩, 0)
def Rl.leave (n : ByteArray) (l : Rl) : Rl × Nat :=
  if plc l.names n = -1 then (Rl.none, 5) else (⟨l.first, l.next, l.dests.take (plc l.names n).toNat ++ l.dests.drop ((plc l.names n).toNat + 1)⟩, 0)
def Rl.done (n : ByteArray) (s k : Nat) (l : Rl) : Rl × Nat :=
  match l.look n with
  | .none => (Rl.none, 5)
  | .some d => if ¬ (k = 97 ∨ k = 114) then (Rl.none, 1) else if d.pend.contains s = false then (Rl.none, 13) else (⟨l.first, l.next, l.dests.set (plc l.names n).toNat { d with all := d.all.set (s - d.since) k }⟩, 0)
def Rl.evict (t : Nat) (l : Rl) : Rl × Nat := if t < l.first ∨ l.next < t then (Rl.none, 1) else (⟨t, l.next, l.dests.map (fun d => { d with all := evs d.since t d.all })⟩, 0)
theorem pend_has {d : Rd} {q : Nat} : d.pend.contains q = true ↔ d.since ≤ q ∧ ∃ h : q - d.since < d.all.length, d.all[q - d.since] = 112 := by
  rw [List.contains_iff_mem]; exact mem_pn _ _ _
theorem filter_range : ∀ (n a : Nat) (l : List Nat), l.Pairwise (· < ·) → (∀ x ∈ l, a ≤ x ∧ x < a + n) → (List.range' a n).filter (fun x => l.contains x) = l
  | 0, a, l, _, h => by
    cases l with
    | nil => simp
    | cons x r => have := h x (by simp); omega
  | n + 1, a, l, hp, h => by
    rw [List.range'_succ]
    by_cases ha : a ∈ l
    · cases l with
      | nil => simp at ha
      | cons x r =>
        obtain ⟨h1, h2⟩ := List.pairwise_cons.1 hp
        have hxa : x = a := by
          rcases List.mem_cons.1 ha with e | e
          · exact e.symm
          · have := h1 a e; have := h x (by simp); omega
        subst hxa
        rw [List.filter_cons_of_pos (by simp)]
        have ih := filter_range n (x + 1) r h2 (fun y hy => by have := h1 y hy; have := h y (by simp [hy]); omega)
        rw [← ih]
        congr 1
        rw [ih]
        conv => rhs; rw [← ih]
        refine List.filter_congr (fun y hy => ?_)
        have := List.mem_range'_1.1 hy
        have hne : y ≠ x := by omega
        simp [hne]
    · rw [List.filter_cons_of_neg (by simpa using ha)]
      exact filter_range n (a + 1) l hp (fun x hx => by
        have := h x hx
        have hne : x ≠ a := fun e => ha (e ▸ hx)
        omega)
theorem pend_range {d : Rd} {next : Nat} (h1 : 1 ≤ d.since) (h2 : d.since + d.all.length = next) : (List.range' 1 (next - 1)).filter (fun x => d.pend.contains x) = d.pend :=
  filter_range _ _ _ (pn_rise _ _) (fun x hx => by
    obtain ⟨h3, h4, _⟩ := (mem_pn _ _ _).1 hx
    omega)
theorem minLow_le : ∀ (l : List De) (m : Nat), minLow m l ≤ m ∧ (∀ d ∈ l, minLow m l ≤ d.low) ∧ (minLow m l = m ∨ ∃ d ∈ l, minLow m l = d.low)
  | [], m => ⟨Nat.le_refl _, fun d h => by simp at h, .inl rfl⟩
  | d :: r, m => by
    obtain ⟨h1, h2, h3⟩ := minLow_le r (min m d.low)
    unfold minLow
    refine ⟨by omega, fun x hx => ?_, ?_⟩
    · rcases List.mem_cons.1 hx with rfl | hx
      · omega
      · exact h2 x hx
    · rcases h3 with h3 | ⟨x, hx, h3⟩
      · by_cases hm : m ≤ d.low
        · exact .inl (by omega)
        · exact .inr ⟨d, by simp, by omega⟩
      · exact .inr ⟨x, by simp [hx], h3⟩
theorem plcN_uniq : ∀ (l : List ByteArray) (k : Nat), l.Pairwise (· ≠ ·) → ∀ i (h : i < l.length), plcN l l[i] k = ((k + i : Nat) : Int)
  | [], _, _, i, h => by simp at h
  | x :: r, k, hp, 0, _ => by unfold plcN; simp
  | x :: r, k, hp, i + 1, h => by
    obtain ⟨h1, h2⟩ := List.pairwise_cons.1 hp
    have hi : i < r.length := by simpa using h
    unfold plcN
    have : x ≠ (x :: r)[i + 1] := by simpa using h1 r[i] (List.getElem_mem hi)
    rw [if_neg this]
    have ih := plcN_uniq r (k + 1) h2 i hi
    simp only [List.getElem_cons_succ]
    rw [ih]; congr 1; omega
theorem plc_uniq {l : List ByteArray} (hp : l.Pairwise (· ≠ ·)) {i : Nat} (h : i < l.length) : plc l l[i] = (i : Int) := by
  have := plcN_uniq l 0 hp i h
  rw [Nat.zero_add] at this
  exact this
theorem lowR_pend : ∀ (l : List Nat) (s : Nat), lowR s l < s + l.length → lowR s l ∈ pn s l
  | [], s, h => by simp [lowR] at h
  | y :: r, s, h => by
    unfold lowR at h ⊢
    unfold pn
    split
    · simp
    · rename_i hy
      rw [if_neg hy] at h
      exact lowR_pend r (s + 1) (by simp at h; omega)
theorem low_le {d : Rd} {x : Nat} (h : x ∈ d.pend) : d.low ≤ x := by
  obtain ⟨h1, h2, h3⟩ := (mem_pn _ _ _).1 h
  have := lowR_le_pending (s := d.since) h2 h3
  unfold Rd.low; omega
/-- By a name that is there. -/
theorem waits_at {l : Rl} (h : l.Ok) {i : Nat} (hi : i < l.dests.length) (q : Nat) : l.waits l.dests[i].name q = l.dests[i].pend.contains q := by
  unfold Rl.waits Rl.look Rl.names
  have hn : (l.dests.map Rd.name)[i]'(by simpa using hi) = l.dests[i].name := List.getElem_map _
  rw [← hn, lookAt_at (plc_uniq h.uniq (by simpa using hi)) hi]
/-- Nobody waits for a number below the free one; for that, somebody does. -/
theorem free_next {l : Rl} (h : l.Ok) {q : Nat} (hq : q ≤ l.free) (hn : q < l.next) (hw : ∀ i (hi : i < l.dests.length), l.waits l.dests[i].name q = false) : q + 1 ≤ l.free := by
  by_cases he : q = l.free
  · exfalso
    obtain ⟨_, _, h3⟩ := minLow_le (l.dests.map Rd.abs) l.next
    rcases h3 with h3 | ⟨d, hd, h3⟩
    · unfold Rl.free at he; omega
    · obtain ⟨r, hr, rfl⟩ := List.mem_map.1 hd
      obtain ⟨i, hi, rfl⟩ := List.mem_iff_getElem.1 hr
      have hw2 := hw i hi
      rw [waits_at h hi] at hw2
      have hlow : l.dests[i].low = q := by rw [he]; exact h3.symm
      have hok := h.each _ (List.getElem_mem hi)
      have hm : q ∈ l.dests[i].pend := by
        rw [← hlow]
        exact lowR_pend _ _ (by have := hok.ends; have h5 : lowR l.dests[i].since l.dests[i].all = q := hlow; omega)
      rw [List.contains_iff_mem.2 hm] at hw2
      cases hw2
  · omega
theorem free_found {l : Rl} (h : l.Ok) {q : Nat} (hq : q ≤ l.free) {i : Nat} (hi : i < l.dests.length) (hw : l.waits l.dests[i].name q = true) : l.free = q := by
  rw [waits_at h hi] at hw
  have h1 := low_le (List.contains_iff_mem.1 hw)
  have h2 := (minLow_le (l.dests.map Rd.abs) l.next).2.1 l.dests[i].abs (List.mem_map_of_mem (List.getElem_mem hi))
  have h3 : l.dests[i].abs.low = l.dests[i].low := rfl
  unfold Rl.free at hq ⊢
  omega
theorem free_le (l : Rl) : l.free ≤ l.next := (minLow_le _ _).1
theorem free_ge {l : Rl} (h : l.Ok) : 1 ≤ l.free := by
  obtain ⟨_, _, h3⟩ := minLow_le (l.dests.map Rd.abs) l.next
  unfold Rl.free
  rcases h3 with h3 | ⟨d, hd, h3⟩
  · have := h.f1; have := h.fn; omega
  · obtain ⟨r, hr, rfl⟩ := List.mem_map.1 hd
    have := (h.each r hr).since
    have h5 := (lowR_ge r.all r.since).1
    have h6 : r.abs.low = lowR r.since r.all := rfl
    omega
end Go.Proofs.Ytjbdofjheeljkaa.Ldg
namespace Go.Proofs.Ytjbdofjheeljkaa.Ldg
open Go.Proofs.Ytjbdofjheeljkaa

theorem cnt_bound : ∀ (l : List Nat) (a t : Nat), l.Pairwise (· < ·) → (∀ x ∈ l, a ≤ x) → cnt t l ≤ t - a
  | [], a, t, _, _ => by simp [cnt]
  | x :: r, a, t, hp, h => by
    obtain ⟨h1, h2⟩ := List.pairwise_cons.1 hp
    have hx := h x (by simp)
    by_cases hxt : x < t
    · have ih := cnt_bound r (x + 1) t h2 (fun y hy => h1 y hy)
      have e := cnt_app t [x] r
      rw [cnt_all (a := [x]) (by simpa using hxt)] at e
      simp only [List.cons_append, List.nil_append, List.length_singleton] at e
      omega
    · rw [cnt_none (fun y hy => by
        rcases List.mem_cons.1 hy with rfl | hy
        · omega
        · have := h1 y hy; omega)]
      omega
theorem above_mem {d : Rd} {x : Nat} (h : x ∈ d.above) : d.low < x ∧ x < d.since + d.all.length := by
  obtain ⟨h1, h2⟩ := List.mem_filter.1 h
  exact ⟨by simpa using h2, (dn_ge _ _ x h1).2⟩
theorem above_rise (d : Rd) : d.above.Pairwise (· < ·) := (dn_rise _ _).filter _
theorem low_ge (d : Rd) : d.since ≤ d.low ∧ d.low ≤ d.since + d.all.length := lowR_ge _ _
theorem above_len (d : Rd) : (d.low - d.since) + d.above.length + d.all.count 112 = d.all.length := by
  have h1 := dn_len d.all d.since
  have h2 := congrArg List.length (dn_split d.all d.since)
  rw [List.length_append, List.length_range'] at h2
  have h3 : ((dn d.since d.all).filter (fun x => decide (lowR d.since d.all < x))) = d.above := rfl
  have h4 : lowR d.since d.all = d.low := rfl
  rw [h3, h4] at h2
  omega
theorem count4 : ∀ (l : List Nat), (∀ x ∈ l, x = 97 ∨ x = 101 ∨ x = 112 ∨ x = 114) → l.count 97 + l.count 101 + l.count 112 + l.count 114 = l.length
  | [], _ => rfl
  | x :: r, h => by
    have ih := count4 r (fun y hy => h y (by simp [hy]))
    rcases h x (by simp) with rfl | rfl | rfl | rfl <;> simp <;> omega
theorem abs_fit1 {d : Rd} {first next : Nat} (h : d.Ok first next) (hn : next ≤ 10000000) : De.Fit next d.abs := by
  have he := h.ends
  have hl := low_ge d
  have ha := above_len d
  have hs : d.name.size ≤ 20 := (Lab.isName_true h.name).2.1
  refine ⟨⟨?_, ?_, ?_, fun x hx => ?_, ?_, ?_, ?_, ?_⟩, ?_, ?_, above_rise d, fun x hx => ?_, fun t ht => ?_⟩
  · show d.since ≤ _; omega
  · show d.low ≤ _; omega
  · show d.above.length ≤ _; omega
  · have := (above_mem (d := d) hx).2; omega
  · show d.all.count 97 ≤ _; have := List.count_le_length (a := 97) (l := d.all); omega
  · show d.all.count 101 ≤ _; have := List.count_le_length (a := 101) (l := d.all); omega
  · show d.all.count 114 ≤ _; have := List.count_le_length (a := 114) (l := d.all); omega
  · show d.name.size ≤ _; omega
  · show d.above.length ≤ _; omega
  · show d.low ≤ _; omega
  · exact Nat.le_of_lt (above_mem (d := d) hx).1
  · exact cnt_bound d.above d.low t (above_rise d) (fun x hx => Nat.le_of_lt (above_mem hx).1)
theorem abs_fit {R : Rl} (h : R.Ok) : R.abs.Fit := by
  have := h.nb
  have := h.fn
  refine ⟨by show R.first ≤ _; omega, by show R.next ≤ _; omega, by show (R.dests.map Rd.abs).length ≤ _; rw [List.length_map]; exact h.many, fun d hd => ?_⟩
  obtain ⟨r, hr, rfl⟩ := List.mem_map.1 hd
  exact abs_fit1 (h.each r hr) h.nb
theorem rises_of : ∀ (l : List Nat) (lo next : Nat), l.Pairwise (· < ·) → (∀ x ∈ l, lo < x ∧ x < next) → rises lo l next = true
  | [], _, _, _, _ => rfl
  | x :: r, lo, next, hp, h => by
    obtain ⟨h1, h2⟩ := List.pairwise_cons.1 hp
    have hx := h x (by simp)
    unfold rises
    rw [rises_of r x next h2 (fun y hy => ⟨h1 y hy, (h y (by simp [hy])).2⟩)]
    simp [hx.1, hx.2]
theorem abs_right1 {d : Rd} {first next : Nat} (h : d.Ok first next) (hf : first ≤ next) : d.abs.right first next = true := by
  have he := h.ends
  have hl := low_ge d
  have ha := above_len d
  have hc := count4 d.all h.kinds
  have hfl : first ≤ d.low := by
    by_cases hlt : d.low < next
    · exact h.pend _ (lowR_pend _ _ (by have : lowR d.since d.all = d.low := rfl; omega))
    · omega
  unfold De.right
  have e1 : d.abs.name = d.name := rfl
  have e2 : d.abs.since = d.since := rfl
  have e3 : d.abs.low = d.low := rfl
  have e4 : d.abs.above = d.above := rfl
  have e5 : d.abs.ak = d.all.count 97 := rfl
  have e6 : d.abs.ev = d.all.count 101 := rfl
  have e7 : d.abs.rj = d.all.count 114 := rfl
  rw [e1, e2, e3, e4, e5, e6, e7, h.name, decide_eq_true h.since, decide_eq_true hl.1, decide_eq_true (by omega : d.low ≤ next), rises_of _ _ _ (above_rise d) (fun x hx => by have := above_mem hx; omega), decide_eq_true hfl, decide_eq_true (by omega)]
  rfl
theorem plc_no {l : List ByteArray} {n : ByteArray} (h : n ∉ l) : plc l n = -1 := by
  rcases plc_cases l n with h1 | ⟨j, hj, _, h2⟩
  · exact h1.1
  · exact absurd (h2 ▸ List.getElem_mem hj) h
theorem rights_of (first next : Nat) : ∀ (l : List De) (seen : List ByteArray), (∀ d ∈ l, d.right first next = true) → (seen ++ l.map De.name).Pairwise (· ≠ ·) → rights first next seen l = true
  | [], _, _, _ => rfl
  | d :: r, seen, h, hp => by
    have hp2 : ((seen ++ [d.name]) ++ r.map De.name).Pairwise (· ≠ ·) := by simpa using hp
    have hno : d.name ∉ seen := fun hm => by
      have := List.pairwise_append.1 hp
      exact this.2.2 d.name hm d.name (by simp) rfl
    unfold rights
    rw [decide_eq_true (plc_no hno), h d (by simp), rights_of first next r (seen ++ [d.name]) (fun x hx => h x (by simp [hx])) hp2]
    rfl
theorem abs_names (R : Rl) : R.abs.dests.map De.name = R.dests.map Rd.name := by
  show (R.dests.map Rd.abs).map De.name = _
  rw [List.map_map]; rfl
theorem abs_right {R : Rl} (h : R.Ok) : R.abs.right = true := by
  have hm : R.abs.dests.length ≤ 4 := by show (R.dests.map Rd.abs).length ≤ _; rw [List.length_map]; exact h.many
  unfold Le.right
  rw [decide_eq_true (show 1 ≤ R.abs.first from h.f1), decide_eq_true (show R.abs.first ≤ R.abs.next from h.fn), decide_eq_true hm, rights_of _ _ _ _ (fun d hd => ?_) (by rw [List.nil_append, abs_names]; exact h.uniq)]
  · rfl
  · obtain ⟨r, hr, rfl⟩ := List.mem_map.1 hd
    exact abs_right1 (h.each r hr) h.fn
theorem lookAt_map {α β : Type} (f : α → β) (l : List α) (i : Int) : lookAt (l.map f) i = (lookAt l i).map f := by
  unfold lookAt
  split
  · rfl
  · rw [List.getElem?_map]
theorem abs_look (R : Rl) (n : ByteArray) : R.abs.look n = (R.look n).map Rd.abs := by
  unfold Le.look Rl.look Le.names Rl.names
  rw [abs_names]
  exact lookAt_map _ _ _
theorem abs_pend1 {d : Rd} {next : Nat} (h : d.since + d.all.length = next) : d.abs.pend next = d.pend := by
  have hl := low_ge d
  have e1 : d.abs.pend next = (List.range' d.low (next - d.low)).filter (fun s => !d.above.contains s) := rfl
  have e2 : d.pend = (List.range' d.since d.all.length).filter (fun x => !(dn d.since d.all).contains x) := pn_eq _ _
  have hsp := dn_split d.all d.since
  have h3 : ((dn d.since d.all).filter (fun x => decide (lowR d.since d.all < x))) = d.above := rfl
  have h4 : lowR d.since d.all = d.low := rfl
  rw [h3, h4] at hsp
  rw [e1, e2]
  have hr : List.range' d.since d.all.length = List.range' d.since (d.low - d.since) ++ List.range' d.low (next - d.low) := by
    have := List.range'_append_1 (s := d.since) (m := d.low - d.since) (n := next - d.low)
    rw [show d.since + (d.low - d.since) = d.low by omega, show d.low - d.since + (next - d.low) = d.all.length by omega] at this
    exact this.symm
  rw [hr, List.filter_append]
  have h5 : (List.range' d.since (d.low - d.since)).filter (fun x => !(dn d.since d.all).contains x) = [] := by
    rw [List.filter_eq_nil_iff]
    intro x hx
    have : x ∈ dn d.since d.all := by rw [hsp]; exact List.mem_append_left _ hx
    simp [this]
  rw [h5, List.nil_append]
  refine List.filter_congr (fun x hx => ?_)
  have hx2 := List.mem_range'_1.1 hx
  have hiff : (x ∈ dn d.since d.all) ↔ x ∈ d.above := by
    rw [hsp, List.mem_append]
    constructor
    · rintro (h | h)
      · have := List.mem_range'_1.1 h; omega
      · exact h
    · exact fun h => .inr h
  simp [hiff]
theorem abs_waits1 {d : Rd} {next : Nat} (h : d.since + d.all.length = next) (q : Nat) : d.abs.waits q next = d.pend.contains q := by
  have hp := abs_pend1 h
  rw [← hp, Bool.eq_iff_iff, List.contains_iff_mem]
  unfold De.waits De.pend
  rw [List.mem_filter, List.mem_range'_1]
  have hl := low_ge d
  have e3 : d.abs.low = d.low := rfl
  rw [e3]
  simp only [Bool.and_eq_true, decide_eq_true_eq]
  constructor
  · rintro ⟨⟨h1, h2⟩, h3⟩
    exact ⟨⟨h1, by omega⟩, h3⟩
  · rintro ⟨⟨h1, h2⟩, h3⟩
    exact ⟨⟨h1, by omega⟩, h3⟩
theorem look_mem {R : Rl} {n : ByteArray} {d : Rd} (h : R.look n = some d) : d ∈ R.dests := by
  unfold Rl.look lookAt at h
  split at h
  · cases h
  · exact List.mem_of_getElem? h
theorem abs_pend {R : Rl} (h : R.Ok) (n : ByteArray) : R.abs.pend n = R.pend n := by
  unfold Le.pend Rl.pend
  rw [abs_look]
  cases hl : R.look n with
  | none => rfl
  | some d => exact abs_pend1 (h.each d (look_mem hl)).ends
theorem abs_waits {R : Rl} (h : R.Ok) (n : ByteArray) (q : Nat) : R.abs.waits n q = R.waits n q := by
  unfold Le.waits Rl.waits
  rw [abs_look]
  cases hl : R.look n with
  | none => rfl
  | some d => exact abs_waits1 (h.each d (look_mem hl)).ends q
end Go.Proofs.Ytjbdofjheeljkaa.Ldg
namespace Go.Proofs.Ytjbdofjheeljkaa.Ldg
open Go.Proofs.Ytjbdofjheeljkaa

theorem abs_names' (R : Rl) : R.abs.names = R.names := abs_names R
theorem abs_many (R : Rl) : R.abs.dests.length = R.dests.length := by show (R.dests.map Rd.abs).length = _; rw [List.length_map]
theorem abs_free (R : Rl) : R.abs.free = R.free := rfl

/-! ## Add -/
theorem lowR_add : ∀ (l : List Nat) (s : Nat), lowR s (l ++ [112]) = lowR s l
  | [], s => by simp [lowR]
  | y :: r, s => by
    have ih := lowR_add r (s + 1)
    rw [List.cons_append]
    conv => lhs; unfold lowR
    conv => rhs; unfold lowR
    split
    · rfl
    · exact ih
theorem dn_add1 (l : List Nat) (s : Nat) : dn s (l ++ [112]) = dn s l := by rw [dn_add]; simp [dn]
theorem abs_add1 (d : Rd) : Rd.abs { d with all := d.all ++ [112] } = d.abs := by
  unfold Rd.abs Rd.above Rd.low
  simp only [lowR_add, dn_add1, List.count_append]
  rfl
theorem add_abs (R : Rl) : R.add.abs = ⟨R.abs.first, R.abs.next + 1, R.abs.dests⟩ := by
  show Le.mk R.first (R.next + 1) ((R.dests.map _).map Rd.abs) = Le.mk R.first (R.next + 1) (R.dests.map Rd.abs)
  rw [List.map_map]
  refine congrArg (Le.mk _ _) (List.map_congr_left (fun d _ => abs_add1 d))
theorem add_ok {R : Rl} (h : R.Ok) (hn : R.next < 10000000) : R.add.Ok := by
  have hfn := h.fn
  refine ⟨h.f1, by show R.first ≤ R.next + 1; omega, by show R.next + 1 ≤ _; omega, by show (R.dests.map _).length ≤ 4; rw [List.length_map]; exact h.many, fun x hx => ?_, ?_⟩
  · obtain ⟨d, hd, rfl⟩ := List.mem_map.1 hx
    have ho := h.each d hd
    refine ⟨ho.name, ho.since, ?_, fun y hy => ?_, fun y hy => ?_⟩
    · show d.since + (d.all ++ [112]).length = R.next + 1
      have := ho.ends
      simp; omega
    · rcases List.mem_append.1 hy with hy | hy
      · exact ho.kinds y hy
      · simp at hy; omega
    · show R.first ≤ y
      have hy2 : y ∈ pn d.since (d.all ++ [112]) := hy
      rw [pn_add] at hy2
      rcases List.mem_append.1 hy2 with hy | hy
      · exact ho.pend y hy
      · have := ho.ends
        simp [pn] at hy
        omega
  · show ((R.dests.map _).map Rd.name).Pairwise _
    rw [List.map_map]
    exact h.uniq

/-! ## Join -/
theorem join_abs (n : ByteArray) (R : Rl) : Le.join n R.abs = ((Rl.join n R).1.abs, (Rl.join n R).2) := by
  unfold Le.join Rl.join
  rw [abs_names', abs_many]
  split
  · rfl
  · split
    · rfl
    · split
      · rfl
      · show (Le.mk R.first R.next (R.dests.map Rd.abs ++ [_]), 0) = (Le.mk R.first R.next ((R.dests ++ [_]).map Rd.abs), 0)
        rw [List.map_append]
        rfl
theorem join_ok {n : ByteArray} {R : Rl} (h : R.Ok) (hc : (Rl.join n R).2 = 0) : (Rl.join n R).1.Ok := by
  unfold Rl.join at hc ⊢
  split
  · rename_i h1; rw [if_pos h1] at hc; cases hc
  · rename_i h1; rw [if_neg h1] at hc
    split
    · rename_i h2; rw [if_pos h2] at hc; cases hc
    · rename_i h2; rw [if_neg h2] at hc
      split
      · rename_i h3; rw [if_pos h3] at hc; cases hc
      · rename_i h3
        have hf1 := h.f1
        have hfn := h.fn
        refine ⟨h.f1, h.fn, h.nb, by show (R.dests ++ [_]).length ≤ 4; simp; omega, fun x hx => ?_, ?_⟩
        · rcases List.mem_append.1 hx with hx | hx
          · exact h.each x hx
          · rw [List.mem_singleton] at hx
            subst hx
            exact ⟨by simpa using h1, by show 1 ≤ R.next; omega, rfl, fun y hy => by simp at hy, fun y hy => by simp [pn] at hy⟩
        · show ((R.dests ++ [_]).map Rd.name).Pairwise _
          rw [List.map_append, List.pairwise_append]
          refine ⟨h.uniq, by simp, fun a ha b hb => ?_⟩
          simp only [List.map_cons, List.map_nil, List.mem_singleton] at hb
          subst hb
          rintro rfl
          rcases plc_cases R.names a with ⟨_, hm⟩ | ⟨j, hj, hj2, _⟩
          · exact hm ha
          · exact h2 (by rw [hj2]; omega)

/-! ## Leave -/
theorem leave_abs (n : ByteArray) (R : Rl) : Le.leave n R.abs = ((Rl.leave n R).1.abs, (Rl.leave n R).2) := by
  unfold Le.leave Rl.leave
  rw [abs_names']
  split
  · rfl
  · show (Le.mk R.first R.next ((R.dests.map Rd.abs).take _ ++ (R.dests.map Rd.abs).drop _), 0) = (Le.mk R.first R.next ((R.dests.take _ ++ R.dests.drop _).map Rd.abs), 0)
    rw [List.map_append, List.map_take, List.map_drop]
theorem leave_ok {n : ByteArray} {R : Rl} (h : R.Ok) (hc : (Rl.leave n R).2 = 0) : (Rl.leave n R).1.Ok := by
  unfold Rl.leave at hc ⊢
  split
  · rename_i h1; rw [if_pos h1] at hc; cases hc
  · generalize (plc R.names n).toNat = k
    have hm := h.many
    refine ⟨h.f1, h.fn, h.nb, by show (R.dests.take k ++ R.dests.drop (k + 1)).length ≤ 4; simp; omega, fun x hx => ?_, ?_⟩
    · rcases List.mem_append.1 hx with hx | hx
      · exact h.each x (List.mem_of_mem_take hx)
      · exact h.each x (List.mem_of_mem_drop hx)
    · show ((R.dests.take k ++ R.dests.drop (k + 1)).map Rd.name).Pairwise _
      have hs : (R.dests.take k ++ R.dests.drop (k + 1)).Sublist R.dests := by
        have h1 : (R.dests.take k ++ R.dests.drop (k + 1)).Sublist (R.dests.take k ++ R.dests.drop k) :=
          List.Sublist.append_left (List.drop_sublist_drop_left _ (by omega)) _
        rwa [List.take_append_drop] at h1
      exact h.uniq.sublist (hs.map _)

/-! ## Done -/
theorem done_abs {n : ByteArray} {s k : Nat} {R : Rl} (h : R.Ok) : Le.done n s k R.abs = ((Rl.done n s k R).1.abs, (Rl.done n s k R).2) := by
  unfold Le.done Rl.done
  rw [abs_look]
  cases hl : R.look n with
  | none => rfl
  | some d =>
    have ho := h.each d (look_mem hl)
    have hw : d.abs.waits s R.abs.next = d.pend.contains s := abs_waits1 ho.ends s
    simp only [Option.map_some]
    rw [hw]
    split
    · rfl
    · rename_i hk
      split
      · rfl
      · rename_i hp
        obtain ⟨h1, h2, h3⟩ := pend_has.1 (by simpa using hp : d.pend.contains s = true)
        have hd := Rd.abs_done d (s - d.since) k h2 h3 (by omega)
        rw [show d.since + (s - d.since) = s by omega] at hd
        rw [hd, abs_names']
        show (Le.mk R.first R.next ((R.dests.map Rd.abs).set _ _), 0) = (Le.mk R.first R.next ((R.dests.set _ _).map Rd.abs), 0)
        rw [List.map_set]
theorem mem_set {α : Type} {l : List α} {i : Nat} {x y : α} (h : y ∈ l.set i x) : y ∈ l ∨ y = x := List.mem_or_eq_of_mem_set h
theorem pn_set {l : List Nat} {s i k y : Nat} (hk : k ≠ 112) (h : y ∈ pn s (l.set i k)) : y ∈ pn s l := by
  obtain ⟨h1, h2, h3⟩ := (mem_pn _ _ _).1 h
  rw [List.length_set] at h2
  refine (mem_pn _ _ _).2 ⟨h1, h2, ?_⟩
  rw [List.getElem_set] at h3
  split at h3
  · exact absurd h3 hk
  · exact h3
theorem look_at {R : Rl} {n : ByteArray} {d : Rd} (h : R.look n = some d) : ∃ hi : (plc R.names n).toNat < R.dests.length, R.dests[(plc R.names n).toNat] = d := by
  unfold Rl.look lookAt at h
  split at h
  · cases h
  · obtain ⟨hi, he⟩ := List.getElem?_eq_some_iff.1 h
    exact ⟨hi, he⟩
theorem done_ok {n : ByteArray} {s k : Nat} {R : Rl} (h : R.Ok) (hc : (Rl.done n s k R).2 = 0) : (Rl.done n s k R).1.Ok := by
  unfold Rl.done at hc ⊢
  cases hl : R.look n with
  | none => rw [hl] at hc; cases hc
  | some d =>
    rw [hl] at hc
    simp only at hc ⊢
    have ho := h.each d (look_mem hl)
    obtain ⟨hi, hd⟩ := look_at hl
    split
    · rename_i h1; rw [if_pos h1] at hc; cases hc
    · rename_i h1; rw [if_neg h1] at hc
      split
      · rename_i h2; rw [if_pos h2] at hc; cases hc
      · refine ⟨h.f1, h.fn, h.nb, by show (R.dests.set _ _).length ≤ 4; rw [List.length_set]; exact h.many, fun x hx => ?_, ?_⟩
        · rcases mem_set hx with hx | hx
          · exact h.each x hx
          · subst hx
            refine ⟨ho.name, ho.since, by show d.since + (d.all.set _ _).length = _; rw [List.length_set]; exact ho.ends, fun y hy => ?_, fun y hy => ?_⟩
            · rcases mem_set hy with hy | hy
              · exact ho.kinds y hy
              · subst hy; omega
            · exact ho.pend y (pn_set (by omega) hy)
        · show ((R.dests.set _ _).map Rd.name).Pairwise _
          rw [List.map_set]
          have e : (Rd.mk d.name d.since (d.all.set (s - d.since) k)).name = (R.dests.map Rd.name)[(plc R.names n).toNat]'(by rw [List.length_map]; exact hi) := by
            rw [List.getElem_map, hd]
          rw [e, List.set_getElem_self]
          exact h.uniq

/-! ## Evict -/
theorem evict_abs {t : Nat} {R : Rl} (h : R.Ok) : Le.evict t R.abs = ((Rl.evict t R).1.abs, (Rl.evict t R).2) := by
  unfold Le.evict Rl.evict
  have e1 : R.abs.first = R.first := rfl
  have e2 : R.abs.next = R.next := rfl
  rw [e1, e2]
  split
  · rfl
  · rename_i ht
    show (Le.mk t R.next ((R.dests.map Rd.abs).map (De.evict t)), 0) = (Le.mk t R.next ((R.dests.map _).map Rd.abs), 0)
    rw [List.map_map, List.map_map]
    refine congrArg (fun x => (Le.mk t R.next x, 0)) (List.map_congr_left (fun d hd => ?_))
    exact Rd.abs_evict d t (by have := (h.each d hd).ends; omega)
theorem pn_evs {l : List Nat} {s t y : Nat} (h : y ∈ pn s (evs s t l)) : t ≤ y := by
  obtain ⟨h1, h2, h3⟩ := (mem_pn _ _ _).1 h
  have h2' := h2
  rw [evs_len] at h2'
  rw [evs_at l s t (y - s) h2'] at h3
  split at h3
  · cases h3
  · rename_i hn
    by_cases ht : t ≤ y
    · exact ht
    · exact absurd ⟨by omega, h3⟩ hn
theorem evs_kinds {l : List Nat} {s t : Nat} (h : ∀ x ∈ l, x = 97 ∨ x = 101 ∨ x = 112 ∨ x = 114) : ∀ x ∈ evs s t l, x = 97 ∨ x = 101 ∨ x = 112 ∨ x = 114 := by
  intro x hx
  obtain ⟨i, hi, rfl⟩ := List.getElem_of_mem hx
  have hi' := hi
  rw [evs_len] at hi'
  rw [evs_at l s t i hi']
  split
  · omega
  · exact h _ (List.getElem_mem hi')
theorem evict_ok {t : Nat} {R : Rl} (h : R.Ok) (hc : (Rl.evict t R).2 = 0) : (Rl.evict t R).1.Ok := by
  unfold Rl.evict at hc ⊢
  split
  · rename_i h1; rw [if_pos h1] at hc; cases hc
  · have hf1 := h.f1
    refine ⟨by show 1 ≤ t; omega, by show t ≤ R.next; omega, h.nb, by show (R.dests.map _).length ≤ 4; rw [List.length_map]; exact h.many, fun x hx => ?_, ?_⟩
    · obtain ⟨d, hd, rfl⟩ := List.mem_map.1 hx
      have ho := h.each d hd
      exact ⟨ho.name, ho.since, by show d.since + (evs _ _ _).length = _; rw [evs_len]; exact ho.ends, evs_kinds ho.kinds, fun y hy => pn_evs hy⟩
    · show ((R.dests.map _).map Rd.name).Pairwise _
      rw [List.map_map]
      exact h.uniq
theorem new_ok : (Rl.mk 1 1 []).Ok := ⟨by decide, by decide, by decide, by decide, fun d hd => by simp at hd, by simp⟩
end Go.Proofs.Ytjbdofjheeljkaa.Ldg
namespace Go.Proofs.Ytjbdofjheeljkaa.Ldg
open Go.Proofs.Ytjbdofjheeljkaa

/-- What an act makes, with what is wrong of it. -/
def Rl.does (k : Nat) (n : ByteArray) (s kd : Nat) (R : Rl) : Rl × Nat := if k < 4 then (R.add, 0) else if k = 4 then R.join n else if k = 5 then R.leave n else if k < 10 then R.done n s kd else R.evict s
def Rl.act (k : Nat) (n : ByteArray) (s kd : Nat) (R : Rl) : Rl := if (R.does k n s kd).2 = 0 then (R.does k n s kd).1 else R
theorem join_next {n : ByteArray} {R : Rl} (hc : (R.join n).2 = 0) : (R.join n).1.next = R.next := by
  unfold Rl.join at hc ⊢
  split
  · rename_i h; rw [if_pos h] at hc; cases hc
  · rename_i h; rw [if_neg h] at hc
    split
    · rename_i h; rw [if_pos h] at hc; cases hc
    · rename_i h; rw [if_neg h] at hc
      split
      · rename_i h; rw [if_pos h] at hc; cases hc
      · rfl
theorem leave_next {n : ByteArray} {R : Rl} (hc : (R.leave n).2 = 0) : (R.leave n).1.next = R.next := by
  unfold Rl.leave at hc ⊢
  split
  · rename_i h; rw [if_pos h] at hc; cases hc
  · rfl
theorem done_next {n : ByteArray} {s k : Nat} {R : Rl} (hc : (R.done n s k).2 = 0) : (R.done n s k).1.next = R.next := by
  unfold Rl.done at hc ⊢
  cases hl : R.look n with
  | none => rw [hl] at hc; cases hc
  | some d =>
    rw [hl] at hc
    simp only at hc ⊢
    split
    · rename_i h; rw [if_pos h] at hc; cases hc
    · rename_i h; rw [if_neg h] at hc
      split
      · rename_i h; rw [if_pos h] at hc; cases hc
      · rfl
theorem evict_next {t : Nat} {R : Rl} (hc : (R.evict t).2 = 0) : (R.evict t).1.next = R.next := by
  unfold Rl.evict at hc ⊢
  split
  · rename_i h; rw [if_pos h] at hc; cases hc
  · rfl
theorem does_ok {k : Nat} {n : ByteArray} {s kd : Nat} {R : Rl} (h : R.Ok) (hn : R.next < 10000000) (hc : (R.does k n s kd).2 = 0) : (R.does k n s kd).1.Ok ∧ (R.does k n s kd).1.next ≤ R.next + 1 := by
  unfold Rl.does at hc ⊢
  split
  · exact ⟨add_ok h hn, Nat.le_refl _⟩
  · rename_i h1; rw [if_neg h1] at hc
    split
    · rename_i h2; rw [if_pos h2] at hc; exact ⟨join_ok h hc, by rw [join_next hc]; omega⟩
    · rename_i h2; rw [if_neg h2] at hc
      split
      · rename_i h3; rw [if_pos h3] at hc; exact ⟨leave_ok h hc, by rw [leave_next hc]; omega⟩
      · rename_i h3; rw [if_neg h3] at hc
        split
        · rename_i h4; rw [if_pos h4] at hc; exact ⟨done_ok h hc, by rw [done_next hc]; omega⟩
        · rename_i h4; rw [if_neg h4] at hc; exact ⟨evict_ok h hc, by rw [evict_next hc]; omega⟩
theorem act_ok {k : Nat} {n : ByteArray} {s kd : Nat} {R : Rl} (h : R.Ok) (hn : R.next < 10000000) : (R.act k n s kd).Ok ∧ (R.act k n s kd).next ≤ R.next + 1 := by
  unfold Rl.act
  split
  · rename_i hc; exact does_ok h hn hc
  · exact ⟨h, by omega⟩
/-- What is not right tells none. -/
theorem join_bad {n : ByteArray} {R : Rl} (hc : (R.join n).2 ≠ 0) : (R.join n).1 = Rl.none := by
  unfold Rl.join at hc ⊢
  split
  · rfl
  · rename_i h; rw [if_neg h] at hc
    split
    · rfl
    · rename_i h; rw [if_neg h] at hc
      split
      · rfl
      · rename_i h; rw [if_neg h] at hc; exact absurd rfl hc
theorem leave_bad {n : ByteArray} {R : Rl} (hc : (R.leave n).2 ≠ 0) : (R.leave n).1 = Rl.none := by
  unfold Rl.leave at hc ⊢
  split
  · rfl
  · rename_i h; rw [if_neg h] at hc; exact absurd rfl hc
theorem done_bad {n : ByteArray} {s k : Nat} {R : Rl} (hc : (R.done n s k).2 ≠ 0) : (R.done n s k).1 = Rl.none := by
  unfold Rl.done at hc ⊢
  cases hl : R.look n with
  | none => rfl
  | some d =>
    rw [hl] at hc
    simp only at hc ⊢
    split
    · rfl
    · rename_i h; rw [if_neg h] at hc
      split
      · rfl
      · rename_i h; rw [if_neg h] at hc; exact absurd rfl hc
theorem evict_bad {t : Nat} {R : Rl} (hc : (R.evict t).2 ≠ 0) : (R.evict t).1 = Rl.none := by
  unfold Rl.evict at hc ⊢
  split
  · rfl
  · rename_i h; rw [if_neg h] at hc; exact absurd rfl hc
end Go.Proofs.Ytjbdofjheeljkaa.Ldg
namespace Go.Proofs.Ytjbdofjheeljkaa.Mrk
open Ldg (De Le Rd Rl)

/-- Numbers, one behind the other. -/
def nums (l : List Nat) : List UInt8 := l.flatMap Num.put
theorem nums_nil : nums [] = [] := rfl
theorem nums_cons (x : Nat) (l : List Nat) : nums (x :: l) = Num.put x ++ nums l := by simp [nums]
theorem nums_app (a b : List Nat) : nums (a ++ b) = nums a ++ nums b := by simp [nums]
theorem nums_take {l : List Nat} {k : Nat} (hk : k < l.length) : nums (l.take (k + 1)) = nums (l.take k) ++ Num.put l[k] := by
  rw [List.take_succ_eq_append_getElem hk, nums_app]
  simp [nums]
theorem nums_le : ∀ (l : List Nat), (∀ x ∈ l, x < 18446744073709551616) → (nums l).length ≤ 10 * l.length
  | [], _ => Nat.le_refl _
  | x :: r, h => by
    have ih := nums_le r (fun y hy => h y (List.mem_cons_of_mem _ hy))
    have h1 := Num.put_len10 (h x (List.mem_cons_self ..))
    rw [nums_cons, List.length_append, List.length_cons]
    omega
theorem nums_ge : ∀ (l : List Nat), l.length ≤ (nums l).length
  | [] => Nat.le_refl _
  | x :: r => by
    have ih := nums_ge r
    have h1 := Num.put_pos x
    rw [nums_cons, List.length_append, List.length_cons]
    omega
/-- How much a number is more than another one (it goes round). -/
def dif (x f : Nat) : Nat := (((x : Int) - (f : Int)) % 18446744073709551616).toNat
theorem dif_lt (x f : Nat) : dif x f < 18446744073709551616 := by unfold dif; omega
theorem dif_is (x f : Nat) : ((x : Int) - (f : Int)) % 18446744073709551616 = ((dif x f : Nat) : Int) := by unfold dif; omega
/-- How much each is more than the one ahead. -/
def steps : Nat → List Nat → List Nat
  | _, [] => []
  | f, x :: r => dif x f :: steps x r
theorem steps_len : ∀ (f : Nat) (l : List Nat), (steps f l).length = l.length
  | _, [] => rfl
  | _, _ :: r => by simp [steps, steps_len]
theorem steps_lt : ∀ (f : Nat) (l : List Nat), ∀ x ∈ steps f l, x < 18446744073709551616
  | _, [], x, h => by simp [steps] at h
  | f, y :: r, x, h => by
    rcases List.mem_cons.1 h with rfl | h
    · exact dif_lt _ _
    · exact steps_lt y r x h
/-- The number ahead of the k-th one. -/
def ahead (f : Nat) (l : List Nat) (k : Nat) : Nat := if k = 0 then f else l.getD (k - 1) 0
theorem steps_at : ∀ (f : Nat) (l : List Nat) (k : Nat) (hk : k < l.length), (steps f l)[k]'(by rw [steps_len]; exact hk) = dif l[k] (ahead f l k)
  | f, x :: r, 0, _ => rfl
  | f, x :: r, k + 1, hk => by
    have hk' : k < r.length := by simpa using hk
    have ih := steps_at x r k hk'
    have e : ahead f (x :: r) (k + 1) = ahead x r k := by
      unfold ahead
      cases k with
      | zero => rfl
      | succ j => rfl
    rw [e]
    exact ih
theorem take_fill {s : List Nat} {n k x : Nat} (hs : s.length = n) (hk : k < n) (hx : s[k]? = some x) : (s.take k ++ List.replicate (n - k) 0).set k x = s.take (k + 1) ++ List.replicate (n - (k + 1)) 0 := by
  have h1 : n - k = (n - (k + 1)) + 1 := by omega
  have h2 : (s.take k).length = k := by rw [List.length_take]; omega
  obtain ⟨hl, he⟩ := List.getElem?_eq_some_iff.1 hx
  rw [h1, List.replicate_succ, List.set_append_right _ _ (by omega), h2, Nat.sub_self, List.set_cons_zero, List.take_succ_eq_append_getElem hl, he, List.append_assoc]
  rfl
def destB (d : De) : List UInt8 := (Num.put d.name.size ++ d.name.data.toList) ++ nums [d.since, d.low, d.ak, d.ev, d.rj, d.above.length] ++ nums (steps d.low d.above)
def destsB (l : List De) : List UInt8 := l.flatMap destB
def ledB (L : Le) : List UInt8 := nums [L.first, L.next, L.dests.length] ++ destsB L.dests
/-- Any numbers of 64 bits. -/
structure Wide (d : De) : Prop where
  since : d.since < 18446744073709551616
  low : d.low < 18446744073709551616
  nums : ∀ x ∈ d.above, x < 18446744073709551616
  len : d.above.length ≤ 1000
  ak : d.ak < 18446744073709551616
  ev : d.ev < 18446744073709551616
  rj : d.rj < 18446744073709551616
  name : d.name.size ≤ 1000000
theorem destB_len {d : De} (h : Wide d) : 7 + d.name.size + d.above.length ≤ (destB d).length ∧ (destB d).length ≤ 70 + d.name.size + 10 * d.above.length := by
  have h1 := nums_le [d.since, d.low, d.ak, d.ev, d.rj, d.above.length] (by
    have hl := h.len
    intro x hx
    simp only [List.mem_cons, List.not_mem_nil, or_false] at hx
    rcases hx with rfl | rfl | rfl | rfl | rfl | rfl
    · exact h.since
    · exact h.low
    · exact h.ak
    · exact h.ev
    · exact h.rj
    · omega)
  have h2 := nums_ge [d.since, d.low, d.ak, d.ev, d.rj, d.above.length]
  have h3 := nums_le (steps d.low d.above) (steps_lt _ _)
  have h4 := nums_ge (steps d.low d.above)
  have h5 := Num.put_pos d.name.size
  have h6 := Num.put_len10 (n := d.name.size) (by have := h.name; omega)
  rw [steps_len] at h3 h4
  have e : d.name.data.toList.length = d.name.size := Array.length_toList
  simp only [List.length_cons, List.length_nil] at h1 h2
  unfold destB
  simp only [List.length_append, e]
  omega
theorem destsB_take {l : List De} {k : Nat} (hk : k < l.length) : destsB (l.take (k + 1)) = destsB (l.take k) ++ destB l[k] := by
  unfold destsB
  rw [List.take_succ_eq_append_getElem hk, List.flatMap_append]
  simp
end Go.Proofs.Ytjbdofjheeljkaa.Mrk
namespace Go.Proofs.Ytjbdofjheeljkaa.Ldg
open Go.Proofs.Ytjbdofjheeljkaa

theorem count_later : ∀ (a b : List Nat) (c : Nat), c ≠ 112 → a.length ≤ b.length → (∀ i (h : i < a.length) (h' : i < b.length), b[i] = a[i] ∨ a[i] = 112) → a.count c ≤ b.count c
  | [], b, c, _, _, _ => by simp
  | x :: r, [], c, _, h, _ => by simp at h
  | x :: r, y :: t, c, hc, hl, h => by
    have ih := count_later r t c hc (by simpa using hl) (fun i h1 h2 => h (i + 1) (by simpa using h1) (by simpa using h2))
    have h0 := h 0 (by simp) (by simp)
    simp only [List.getElem_cons_zero] at h0
    rw [List.count_cons, List.count_cons]
    rcases h0 with rfl | rfl
    · omega
    · have e : (112 == c) = false := by simpa using fun e => hc e.symm
      rw [e, if_neg (by simp)]
      omega
theorem lowR_later : ∀ (a b : List Nat) (s : Nat), a.length ≤ b.length → (∀ i (h : i < a.length) (h' : i < b.length), b[i] = a[i] ∨ a[i] = 112) → lowR s a ≤ lowR s b
  | [], b, s, _, _ => (lowR_ge b s).1
  | x :: r, [], s, h, _ => by simp at h
  | x :: r, y :: t, s, hl, h => by
    have ih := lowR_later r t (s + 1) (by simpa using hl) (fun i h1 h2 => h (i + 1) (by simpa using h1) (by simpa using h2))
    have h0 := h 0 (by simp) (by simp)
    simp only [List.getElem_cons_zero] at h0
    by_cases hx : x = 112
    · have := (lowR_ge (y :: t) s).1
      conv => lhs; unfold lowR
      rw [if_pos hx]; exact this
    · have hy : y = x := h0.resolve_right hx
      unfold lowR
      rw [if_neg hx, if_neg (by rw [hy]; exact hx)]
      exact ih
/-- What is left of a destination. -/
structure Rd.Later (d e : Rd) : Prop where
  name : e.name = d.name
  since : e.since = d.since
  len : d.all.length ≤ e.all.length
  st : ∀ i (h : i < d.all.length) (h' : i < e.all.length), e.all[i] = d.all[i] ∨ d.all[i] = 112
theorem Rd.Later.refl (d : Rd) : d.Later d := ⟨rfl, rfl, Nat.le_refl _, fun _ _ _ => .inl rfl⟩
theorem Rd.Later.pend {d e : Rd} (h : d.Later e) {q : Nat} (hq : q ∈ e.pend) (hn : q < d.since + d.all.length) : q ∈ d.pend := by
  obtain ⟨h1, h2, h3⟩ := (mem_pn _ _ _).1 hq
  have h0 : d.since ≤ q := by rw [← h.since]; exact h1
  have h2' : q - d.since < e.all.length := by rw [← h.since]; exact h2
  have h4 := h.st (q - d.since) (by omega) h2'
  have h5 : e.all[q - d.since]'h2' = 112 := by simpa [h.since] using h3
  exact (mem_pn _ _ _).2 ⟨h0, by omega, by rcases h4 with h4 | h4 <;> omega⟩
theorem Rd.Later.low {d e : Rd} (h : d.Later e) : d.low ≤ e.low := by
  unfold Rd.low; rw [h.since]; exact lowR_later _ _ _ h.len h.st
theorem Rd.Later.count {d e : Rd} (h : d.Later e) {c : Nat} (hc : c ≠ 112) : d.all.count c ≤ e.all.count c := count_later _ _ _ hc h.len h.st

theorem names_mem {R : Rl} {d : Rd} (h : d ∈ R.dests) : d.name ∈ R.names := List.mem_map_of_mem h
theorem plc_not {l : List ByteArray} {n : ByteArray} (h : plc l n = -1) : n ∉ l := by
  rcases plc_cases l n with ⟨_, h2⟩ | ⟨j, _, h2, _⟩
  · exact h2
  · omega
theorem uniq_mem {R : Rl} (h : R.Ok) {d e : Rd} (hd : d ∈ R.dests) (he : e ∈ R.dests) (hn : d.name = e.name) : d = e := by
  obtain ⟨i, hi, rfl⟩ := List.mem_iff_getElem.1 hd
  obtain ⟨j, hj, rfl⟩ := List.mem_iff_getElem.1 he
  have hp := List.pairwise_iff_getElem.1 h.uniq
  by_cases hij : i = j
  · subst hij; rfl
  · exfalso
    rcases Nat.lt_or_gt_of_ne hij with h1 | h1
    · exact hp i j (by simpa using hi) (by simpa using hj) h1 (by simpa using hn)
    · exact hp j i (by simpa using hj) (by simpa using hi) h1 (by simpa using hn.symm)
theorem look_name {R : Rl} {n : ByteArray} {d : Rd} (h : R.look n = some d) : d.name = n := by
  obtain ⟨hi, he⟩ := look_at h
  rcases plc_cases R.names n with ⟨h1, _⟩ | ⟨j, hj, h1, h2⟩
  · unfold Rl.look at h; rw [lookAt_no _ h1] at h; cases h
  · have e : (plc R.names n).toNat = j := by rw [h1, Int.toNat_natCast]
    have hj' : j < R.dests.length := by simpa [Rl.names] using hj
    have h3 : R.names[j] = (R.dests[j]'hj').name := List.getElem_map _
    have h4 : R.dests[j]'hj' = d := by rw [← he]; simp [e]
    rw [← h2, h3, h4]
theorem look_of {R : Rl} (h : R.Ok) {i : Nat} (hi : i < R.dests.length) : R.look R.dests[i].name = some R.dests[i] := by
  have hn : (R.dests.map Rd.name)[i]'(by simpa using hi) = R.dests[i].name := List.getElem_map _
  unfold Rl.look Rl.names
  rw [← hn, lookAt_at (plc_uniq h.uniq (by simpa using hi)) hi]
theorem look_of' {R : Rl} (h : R.Ok) {d : Rd} (hd : d ∈ R.dests) : R.look d.name = some d := by
  obtain ⟨i, hi, rfl⟩ := List.mem_iff_getElem.1 hd
  exact look_of h hi
theorem look_none {R : Rl} {n : ByteArray} (h : n ∉ R.names) : R.look n = none := lookAt_no _ (plc_no h)
theorem look_plc {R : Rl} {n : ByteArray} (h : R.look n = none) : n ∉ R.names := by
  rcases plc_cases R.names n with ⟨_, h1⟩ | ⟨j, hj, h1, h2⟩
  · exact h1
  · unfold Rl.look at h
    rw [lookAt_at h1 (by simpa [Rl.names] using hj)] at h
    cases h
theorem pend_of {R : Rl} (h : R.Ok) {d : Rd} (hd : d ∈ R.dests) : R.pend d.name = d.pend := by unfold Rl.pend; rw [look_of' h hd]
theorem waits_of {R : Rl} (h : R.Ok) {d : Rd} (hd : d ∈ R.dests) (q : Nat) : R.waits d.name q = d.pend.contains q := by unfold Rl.waits; rw [look_of' h hd]

theorem act_mem {R : Rl} {k : Nat} {n : ByteArray} {s kd : Nat} {e : Rd} (he : e ∈ (R.act k n s kd).dests) : (∃ d ∈ R.dests, d.Later e) ∨ e.name ∉ R.names := by
  unfold Rl.act at he
  split at he
  · rename_i hc
    unfold Rl.does at hc he
    split at he
    · obtain ⟨d, hd, rfl⟩ := List.mem_map.1 he
      exact .inl ⟨d, hd, rfl, rfl, by simp, fun i h _ => .inl (List.getElem_append_left h)⟩
    · rename_i h1; rw [if_neg h1] at hc
      split at he
      · rename_i h2; rw [if_pos h2] at hc
        unfold Rl.join at hc he
        split at he
        · rename_i h3; rw [if_pos h3] at hc; cases hc
        · rename_i h3; rw [if_neg h3] at hc
          split at he
          · rename_i h4; rw [if_pos h4] at hc; cases hc
          · rename_i h4
            split at he
            · rename_i h5; rw [if_neg h4, if_pos h5] at hc; cases hc
            · rcases List.mem_append.1 he with he | he
              · exact .inl ⟨e, he, Rd.Later.refl e⟩
              · rw [List.mem_singleton] at he
                subst he
                exact .inr (plc_not (by simpa using h4))
      · rename_i h2; rw [if_neg h2] at hc
        split at he
        · rename_i h3; rw [if_pos h3] at hc
          unfold Rl.leave at hc he
          split at he
          · rename_i h4; rw [if_pos h4] at hc; cases hc
          · rcases List.mem_append.1 he with he | he
            · exact .inl ⟨e, List.mem_of_mem_take he, Rd.Later.refl e⟩
            · exact .inl ⟨e, List.mem_of_mem_drop he, Rd.Later.refl e⟩
        · rename_i h3; rw [if_neg h3] at hc
          split at he
          · rename_i h4; rw [if_pos h4] at hc
            unfold Rl.done at hc he
            cases hl : R.look n with
            | none => rw [hl] at hc; cases hc
            | some d =>
              rw [hl] at hc he
              simp only at hc he
              split at he
              · rename_i h5; rw [if_pos h5] at hc; cases hc
              · rename_i h5; rw [if_neg h5] at hc
                split at he
                · rename_i h6; rw [if_pos h6] at hc; cases hc
                · rename_i h6
                  rcases mem_set he with he | he
                  · exact .inl ⟨e, he, Rd.Later.refl e⟩
                  · subst he
                    refine .inl ⟨d, look_mem hl, rfl, rfl, by simp, fun i h _ => ?_⟩
                    obtain ⟨_, h7, h8⟩ := pend_has.1 (by simpa using h6 : d.pend.contains s = true)
                    simp only [List.getElem_set]
                    split
                    · rename_i hs; subst hs; exact .inr h8
                    · exact .inl rfl
          · rename_i h4; rw [if_neg h4] at hc
            unfold Rl.evict at hc he
            split at he
            · rename_i h5; rw [if_pos h5] at hc; cases hc
            · obtain ⟨d, hd, rfl⟩ := List.mem_map.1 he
              refine .inl ⟨d, hd, rfl, rfl, by simp [evs_len], fun i h h' => ?_⟩
              simp only [evs_at d.all d.since s i h]
              split
              · rename_i h6; exact .inr h6.2
              · exact .inl rfl
  · exact .inl ⟨e, he, Rd.Later.refl e⟩
/-- A destination that is still there behind an act. -/
theorem act_find {R : Rl} (h : R.Ok) {k : Nat} {n : ByteArray} {s kd : Nat} {d e : Rd} (hd : d ∈ R.dests) (hl : (R.act k n s kd).look d.name = some e) : d.Later e := by
  have hn := look_name hl
  rcases act_mem (look_mem hl) with ⟨d', hd', hL⟩ | h2
  · have : d = d' := uniq_mem h hd hd' (by rw [← hL.name, hn])
    rw [this]; exact hL
  · exact absurd (by rw [hn]; exact names_mem hd) h2
theorem act_first {R : Rl} {k : Nat} {n : ByteArray} {s kd : Nat} : R.first ≤ (R.act k n s kd).first ∧ R.next ≤ (R.act k n s kd).next := by
  unfold Rl.act
  split
  · rename_i hc
    unfold Rl.does at hc ⊢
    split
    · exact ⟨Nat.le_refl _, Nat.le_succ _⟩
    · rename_i h1; rw [if_neg h1] at hc
      split
      · rename_i h2; rw [if_pos h2] at hc
        refine ⟨?_, Nat.le_of_eq (join_next hc).symm⟩
        unfold Rl.join at hc ⊢
        split
        · rename_i h3; rw [if_pos h3] at hc; cases hc
        · rename_i h3; rw [if_neg h3] at hc
          split
          · rename_i h4; rw [if_pos h4] at hc; cases hc
          · rename_i h4; rw [if_neg h4] at hc
            split
            · rename_i h5; rw [if_pos h5] at hc; cases hc
            · exact Nat.le_refl _
      · rename_i h2; rw [if_neg h2] at hc
        split
        · rename_i h3; rw [if_pos h3] at hc
          refine ⟨?_, Nat.le_of_eq (leave_next hc).symm⟩
          unfold Rl.leave at hc ⊢
          split
          · rename_i h4; rw [if_pos h4] at hc; cases hc
          · exact Nat.le_refl _
        · rename_i h3; rw [if_neg h3] at hc
          split
          · rename_i h4; rw [if_pos h4] at hc
            refine ⟨?_, Nat.le_of_eq (done_next hc).symm⟩
            unfold Rl.done at hc ⊢
            cases hl : R.look n with
            | none => rw [hl] at hc; cases hc
            | some d =>
              rw [hl] at hc
              simp only at hc ⊢
              split
              · rename_i h5; rw [if_pos h5] at hc; cases hc
              · rename_i h5; rw [if_neg h5] at hc
                split
                · rename_i h6; rw [if_pos h6] at hc; cases hc
                · exact Nat.le_refl _
          · rename_i h4; rw [if_neg h4] at hc
            refine ⟨?_, Nat.le_of_eq (evict_next hc).symm⟩
            unfold Rl.evict at hc ⊢
            split
            · rename_i h5; rw [if_pos h5] at hc; cases hc
            · rename_i h5; show R.first ≤ s; omega
  · exact ⟨Nat.le_refl _, Nat.le_refl _⟩

/-! ## What is told of a destination -/
theorem whole {d : Rd} {first next : Nat} (h : d.Ok first next) : d.all.count 97 + d.all.count 101 + d.all.count 114 + d.pend.length = next - d.since := by
  have h1 := count4 d.all h.kinds
  have h2 : d.pend.length = d.all.count 112 := pn_len _ _
  have h3 := h.ends
  omega
theorem pend_in {d : Rd} {first next : Nat} (h : d.Ok first next) {q : Nat} (hq : q ∈ d.pend) : d.since ≤ q ∧ first ≤ q ∧ q < next := by
  obtain ⟨h1, h2, _⟩ := (mem_pn _ _ _).1 hq
  have h3 := h.ends
  exact ⟨h1, h.pend q hq, by omega⟩
theorem pend_rise (d : Rd) : d.pend.Pairwise (· < ·) := pn_rise _ _
theorem pn_evs_eq : ∀ (l : List Nat) (s t : Nat), pn s (evs s t l) = (pn s l).filter (fun x => decide (t ≤ x))
  | [], s, t => by simp [pn, evs]
  | x :: r, s, t => by
    have ih := pn_evs_eq r (s + 1) t
    unfold evs
    by_cases hx : x = 112
    · by_cases hs : s < t
      · rw [if_pos ⟨hs, hx⟩]
        conv => lhs; unfold pn
        conv => rhs; unfold pn
        rw [if_neg (by decide), if_pos hx, List.filter_cons_of_neg (by simp; omega)]
        exact ih
      · rw [if_neg (by omega)]
        conv => lhs; unfold pn
        conv => rhs; unfold pn
        rw [if_pos hx, if_pos hx, List.filter_cons_of_pos (by simp; omega), ih]
    · rw [if_neg (by omega)]
      conv => lhs; unfold pn
      conv => rhs; unfold pn
      rw [if_neg hx, if_neg hx]
      exact ih
theorem filter_drop : ∀ (l : List Nat) (t : Nat), l.Pairwise (· < ·) → l.filter (fun x => decide (t ≤ x)) = l.drop (cnt t l)
  | [], t, _ => by simp
  | x :: r, t, hp => by
    obtain ⟨h1, h2⟩ := List.pairwise_cons.1 hp
    by_cases hx : x < t
    · rw [List.filter_cons_of_neg (by simp; omega), filter_drop r t h2]
      have : cnt t (x :: r) = cnt t r + 1 := by unfold cnt; rw [List.countP_cons_of_pos (by simpa using hx)]
      rw [this, List.drop_succ_cons]
    · have h0 : cnt t (x :: r) = 0 := cnt_none (fun y hy => by
        rcases List.mem_cons.1 hy with rfl | hy
        · omega
        · have := h1 y hy; omega)
      rw [h0, List.drop_zero]
      exact List.filter_eq_self.2 (fun y hy => by
        rcases List.mem_cons.1 hy with rfl | hy
        · simp; omega
        · have := h1 y hy; simp; omega)
theorem evs_gone : ∀ (l : List Nat) (s t : Nat), (evs s t l).count 101 = l.count 101 + cnt t (pn s l)
  | [], s, t => by simp [pn, evs, cnt]
  | x :: r, s, t => by
    have ih := evs_gone r (s + 1) t
    unfold evs
    by_cases hx : x = 112
    · subst hx
      have e : pn s (112 :: r) = s :: pn (s + 1) r := by conv => lhs; unfold pn
                                                         simp
      rw [e]
      by_cases hs : s < t
      · have e2 : cnt t (s :: pn (s + 1) r) = cnt t (pn (s + 1) r) + 1 := by unfold cnt; rw [List.countP_cons_of_pos (by simpa using hs)]
        rw [if_pos ⟨hs, rfl⟩, e2, List.count_cons, List.count_cons, ih]
        simp; omega
      · have e2 : cnt t (s :: pn (s + 1) r) = cnt t (pn (s + 1) r) := by unfold cnt; rw [List.countP_cons_of_neg (by simpa using hs)]
        rw [if_neg (by omega), e2, List.count_cons, List.count_cons, ih]
        simp
    · have e : pn s (x :: r) = pn (s + 1) r := by
        conv => lhs; unfold pn
        rw [if_neg hx]
      rw [e, if_neg (by omega), List.count_cons, List.count_cons, ih]
      omega
end Go.Proofs.Ytjbdofjheeljkaa.Ldg
namespace Go.Proofs.Ytjbdofjheeljkaa.Ldg
open Go.Proofs.Ytjbdofjheeljkaa

theorem first_low' {d : Rd} {first next : Nat} (h : d.Ok first next) (hf : first ≤ next) : first ≤ d.low := by
  have he := h.ends
  have hl := low_ge d
  by_cases hlt : d.low < next
  · exact h.pend _ (lowR_pend _ _ (by have : lowR d.since d.all = d.low := rfl; omega))
  · omega
def Rd.put (s k : Nat) (d : Rd) : Rd := { d with all := d.all.set (s - d.since) k }
def Rl.put (n : ByteArray) (d : Rd) (R : Rl) : Rl := ⟨R.first, R.next, R.dests.set (plc R.names n).toNat d⟩
theorem done_is {R : Rl} {n : ByteArray} {d : Rd} {s k : Nat} (hl : R.look n = some d) (hk : k = 97 ∨ k = 114) (hs : s ∈ d.pend) : R.done n s k = (R.put n (d.put s k), 0) := by
  unfold Rl.done
  rw [hl]
  simp only
  rw [if_neg (fun hh => hh hk), if_neg (by simpa using hs)]
  rfl
theorem put_names {R : Rl} {n : ByteArray} {d : Rd} {s k : Nat} (hl : R.look n = some d) : (R.put n (d.put s k)).names = R.names := by
  obtain ⟨hi, hd⟩ := look_at hl
  show (R.dests.set _ _).map Rd.name = R.dests.map Rd.name
  rw [List.map_set]
  have e : (d.put s k).name = (R.dests.map Rd.name)[(plc R.names n).toNat]'(by rw [List.length_map]; exact hi) := by rw [List.getElem_map, hd]; rfl
  rw [e, List.set_getElem_self]
theorem plc_there {R : Rl} {n : ByteArray} {d : Rd} (hl : R.look n = some d) : plc R.names n = ((plc R.names n).toNat : Int) := by
  rcases plc_cases R.names n with ⟨h1, _⟩ | ⟨j, _, h1, _⟩
  · unfold Rl.look at hl; rw [lookAt_no _ h1] at hl; cases hl
  · rw [h1]; rfl
theorem put_look {R : Rl} {n : ByteArray} {d : Rd} {s k : Nat} (hl : R.look n = some d) : (R.put n (d.put s k)).look n = some (d.put s k) := by
  obtain ⟨hi, hd⟩ := look_at hl
  unfold Rl.look
  rw [put_names hl]
  rw [lookAt_at (plc_there hl) (by show _ < (R.dests.set _ _).length; rw [List.length_set]; exact hi)]
  congr 1
  exact List.getElem_set_self _
theorem put_has {R : Rl} {n : ByteArray} {d : Rd} (hl : R.look n = some d) (e : Rd) (hn : e.name = d.name) : ∃ q, (R.put n e).look n = some q := by
  obtain ⟨hi, hd⟩ := look_at hl
  have hnm : (R.put n e).names = R.names := by
    show (R.dests.set _ _).map Rd.name = R.dests.map Rd.name
    rw [List.map_set]
    have e1 : e.name = (R.dests.map Rd.name)[(plc R.names n).toNat]'(by rw [List.length_map]; exact hi) := by rw [List.getElem_map, hd, hn]
    rw [e1, List.set_getElem_self]
  unfold Rl.look
  rw [hnm]
  exact ⟨_, lookAt_at (plc_there hl) (by show _ < (R.dests.set _ _).length; rw [List.length_set]; exact hi)⟩
theorem put_pend {d : Rd} {s k t : Nat} (hs : s ∈ d.pend) (hk : k ≠ 112) : t ∈ (d.put s k).pend ↔ t ∈ d.pend ∧ t ≠ s := by
  obtain ⟨h1, h2, h3⟩ := (mem_pn _ _ _).1 hs
  unfold Rd.pend Rd.put
  simp only
  rw [mem_pn, mem_pn]
  constructor
  · rintro ⟨h4, h5, h6⟩
    rw [List.getElem_set] at h6
    split at h6
    · exact absurd h6 hk
    · rename_i hne
      exact ⟨⟨h4, by simpa using h5, h6⟩, fun e => hne (by rw [e])⟩
  · rintro ⟨⟨h4, h5, h6⟩, hne⟩
    refine ⟨h4, by simpa using h5, ?_⟩
    rw [List.getElem_set, if_neg (by omega)]
    exact h6
theorem kd_ne {k : Nat} (hk : k = 97 ∨ k = 114) : k ≠ 112 := by omega
theorem put_ok {R : Rl} (h : R.Ok) {n : ByteArray} {d : Rd} {s k : Nat} (hl : R.look n = some d) (hk : k = 97 ∨ k = 114) (hs : s ∈ d.pend) : (R.put n (d.put s k)).Ok := by
  have := done_ok (n := n) (s := s) (k := k) h (by rw [done_is hl hk hs])
  rw [done_is hl hk hs] at this
  exact this
/-- Two that are done, in either order. -/
theorem order_is {R : Rl} {n : ByteArray} {d : Rd} {s t x y : Nat} (hl : R.look n = some d) (hx : x = 97 ∨ x = 114) (hy : y = 97 ∨ y = 114) (hs : s ∈ d.pend) (ht : t ∈ d.pend) (hst : s ≠ t) :
    (R.put n (d.put s x)).done n t y = (R.put n ((d.put s x).put t y), 0) ∧ (R.put n (d.put t y)).done n s x = (R.put n ((d.put s x).put t y), 0) := by
  have h1 := done_is (put_look (s := s) (k := x) hl) hy ((put_pend hs (kd_ne hx)).2 ⟨ht, fun e => hst e.symm⟩)
  have h2 := done_is (put_look (s := t) (k := y) hl) hx ((put_pend ht (kd_ne hy)).2 ⟨hs, hst⟩)
  have hn := (mem_pn _ _ _).1 hs
  have hm := (mem_pn _ _ _).1 ht
  have e : (d.put t y).put s x = (d.put s x).put t y := by
    unfold Rd.put
    simp only
    rw [List.set_comm _ _ (by omega)]
  have e2 : ∀ (q q' : Rd), (R.put n q).names = R.names → (R.put n q).put n q' = R.put n q' := fun q q' hq => by
    unfold Rl.put at *
    simp only at *
    rw [hq, List.set_set]
  rw [h1, h2, e2 _ _ (put_names hl), e2 _ _ (put_names hl), e]
  exact ⟨rfl, rfl⟩
/-- Done again. -/
theorem again_is {R : Rl} {n : ByteArray} {d : Rd} {s k : Nat} (hl : R.look n = some d) (hk : k = 97 ∨ k = 114) (hs : s ∈ d.pend) : (R.put n (d.put s k)).done n s k = (Rl.none, 13) ∧ (R.put n (d.put s k)).waits n s = false ∧ R.waits n s = true := by
  have hp : (d.put s k).pend.contains s = false := by
    rw [Bool.eq_false_iff]
    intro hc
    exact ((put_pend hs (kd_ne hk)).1 (List.contains_iff_mem.1 hc)).2 rfl
  refine ⟨?_, ?_, ?_⟩
  · unfold Rl.done
    rw [put_look hl]
    simp only
    rw [if_neg (fun hh => hh hk), if_pos hp]
  · unfold Rl.waits
    rw [put_look hl]
    exact hp
  · unfold Rl.waits
    rw [hl]
    exact List.contains_iff_mem.2 hs
theorem pend_in_look {R : Rl} {n : ByteArray} {s : Nat} (hs : s ∈ R.pend n) : ∃ d, R.look n = some d ∧ s ∈ d.pend ∧ R.pend n = d.pend := by
  unfold Rl.pend at hs ⊢
  cases hl : R.look n with
  | none => rw [hl] at hs; cases hs
  | some d => rw [hl] at hs; exact ⟨d, rfl, hs, rfl⟩
/-- What is done changes nothing of another destination; of its own one entry is no longer pending, and counted. -/
theorem put_at {R : Rl} (h : R.Ok) {n : ByteArray} {d : Rd} {s k : Nat} (hl : R.look n = some d) (hk : k = 97 ∨ k = 114) (hs : s ∈ d.pend) {i : Nat} (hi : i < R.dests.length) :
    ∃ hi' : i < (R.put n (d.put s k)).dests.length, (R.put n (d.put s k)).dests[i].name = R.dests[i].name ∧
    (R.dests[i].name ≠ n → (R.put n (d.put s k)).pend R.dests[i].name = R.pend R.dests[i].name) ∧
    (R.dests[i].name = n → ((R.put n (d.put s k)).pend R.dests[i].name).length + 1 = (R.pend R.dests[i].name).length ∧
      (R.put n (d.put s k)).dests[i].all.count 97 + (R.put n (d.put s k)).dests[i].all.count 114 = R.dests[i].all.count 97 + R.dests[i].all.count 114 + 1 ∧ (R.put n (d.put s k)).dests[i].all.count 101 = R.dests[i].all.count 101) := by
  have hi' : i < (R.put n (d.put s k)).dests.length := by show i < (R.dests.set _ _).length; rw [List.length_set]; exact hi
  have hok := put_ok h hl hk hs
  obtain ⟨hj, hd⟩ := look_at hl
  have hdn := look_name hl
  refine ⟨hi', ?_, fun hne => ?_, fun he => ?_⟩
  · have e := put_names (s := s) (k := k) hl
    have e1 : (R.put n (d.put s k)).names[i]? = R.names[i]? := by rw [e]
    unfold Rl.names at e1
    rw [List.getElem?_map, List.getElem?_map, List.getElem?_eq_getElem hi', List.getElem?_eq_getElem hi] at e1
    simpa using e1
  · have hij : (plc R.names n).toNat ≠ i := fun e => hne (by subst e; rw [hd, hdn])
    have e : (R.put n (d.put s k)).dests[i] = R.dests[i] := List.getElem_set_ne hij _
    have e2 := pend_of hok (List.getElem_mem hi')
    rw [e] at e2
    rw [e2, pend_of h (List.getElem_mem hi)]
  · have hij : (plc R.names n).toNat = i := by
      have h1 := plc_there hl
      have h2 := plc_uniq h.uniq (i := i) (by simpa using hi)
      have h3 : (R.dests.map Rd.name)[i]'(by simpa using hi) = n := by rw [List.getElem_map, he]
      rw [h3] at h2
      have h4 : plc R.names n = (i : Int) := h2
      omega
    have e0 : R.dests[i] = d := by rw [← hd]; simp [hij]
    have e : (R.put n (d.put s k)).dests[i] = d.put s k := by
      subst hij
      exact List.getElem_set_self _
    have e2 := pend_of hok (List.getElem_mem hi')
    rw [e] at e2
    have hn2 : (d.put s k).name = R.dests[i].name := by rw [e0]; rfl
    rw [hn2] at e2
    rw [e2, pend_of h (List.getElem_mem hi), e, e0]
    obtain ⟨h1, h2, h3⟩ := (mem_pn _ _ _).1 hs
    have c97 := count_set d.all (s - d.since) k 97 h2 h3 (kd_ne hk) (by decide)
    have c114 := count_set d.all (s - d.since) k 114 h2 h3 (kd_ne hk) (by decide)
    have c101 := count_set d.all (s - d.since) k 101 h2 h3 (kd_ne hk) (by decide)
    have w1 := whole (h.each _ (List.getElem_mem hi))
    have w2 := whole (hok.each _ (List.getElem_mem hi'))
    rw [e0] at w1
    rw [e] at w2
    have p1 : (d.put s k).all = d.all.set (s - d.since) k := rfl
    have p2 : (d.put s k).since = d.since := rfl
    have p3 : (R.put n (d.put s k)).next = R.next := rfl
    rw [p1, p2, p3] at w2
    rw [p1]
    have hne := (h.each _ (List.getElem_mem hi)).ends
    rw [e0] at hne
    rcases hk with rfl | rfl
    · simp only [if_true, if_false, show ¬ (97 = 114) by decide, show ¬ (97 = 101) by decide] at c97 c114 c101
      omega
    · simp only [if_true, if_false, show ¬ (114 = 97) by decide, show ¬ (114 = 101) by decide] at c97 c114 c101
      omega

theorem rise_pend {R : Rl} (_h : R.Ok) (n : ByteArray) : (R.pend n).Pairwise (· < ·) := by
  unfold Rl.pend
  split
  · exact List.Pairwise.nil
  · exact pn_rise _ _
theorem pend_len {R : Rl} (h : R.Ok) (n : ByteArray) : (R.pend n).length ≤ 10000000 := by
  unfold Rl.pend
  split
  · simp
  · rename_i d hl
    have h1 : d.pend.length = d.all.count 112 := pn_len _ _
    have h2 := List.count_le_length (a := 112) (l := d.all)
    have h3 := (h.each d (look_mem hl)).ends
    have h4 := h.nb
    omega
/-! ## Evict -/
def Rl.cut (t : Nat) (R : Rl) : Rl := ⟨t, R.next, R.dests.map (fun d => { d with all := evs d.since t d.all })⟩
theorem cut_is {R : Rl} {t : Nat} (h1 : R.first ≤ t) (h2 : t ≤ R.next) : R.evict t = (R.cut t, 0) := by
  unfold Rl.evict
  rw [if_neg (by omega)]
  rfl
theorem cut_ok {R : Rl} (h : R.Ok) {t : Nat} (h1 : R.first ≤ t) (h2 : t ≤ R.next) : (R.cut t).Ok := by
  have := evict_ok (t := t) h (by rw [cut_is h1 h2])
  rw [cut_is h1 h2] at this
  exact this
theorem cut_len (R : Rl) (t : Nat) : (R.cut t).dests.length = R.dests.length := by show (R.dests.map _).length = _; rw [List.length_map]
theorem cut_at {R : Rl} (h : R.Ok) {t : Nat} (h1 : R.first ≤ t) (h2 : t ≤ R.next) {i : Nat} (hi : i < R.dests.length) :
    ∃ hi' : i < (R.cut t).dests.length, (R.cut t).dests[i].name = R.dests[i].name ∧ (R.cut t).dests[i].all.count 101 = R.dests[i].all.count 101 + cnt t (R.pend R.dests[i].name) ∧
    (R.cut t).pend R.dests[i].name = (R.pend R.dests[i].name).drop (cnt t (R.pend R.dests[i].name)) ∧ (t ≤ R.free → cnt t (R.pend R.dests[i].name) = 0) := by
  have hi' : i < (R.cut t).dests.length := by rw [cut_len]; exact hi
  have hok := cut_ok h h1 h2
  have e : (R.cut t).dests[i] = { R.dests[i] with all := evs R.dests[i].since t R.dests[i].all } := List.getElem_map _
  have e1 : (R.cut t).dests[i].name = R.dests[i].name := by rw [e]
  have ep := pend_of h (List.getElem_mem hi)
  have ep2 := pend_of hok (List.getElem_mem hi')
  rw [e1] at ep2
  refine ⟨hi', e1, ?_, ?_, fun hf => ?_⟩
  · rw [ep, e]
    exact evs_gone _ _ _
  · rw [ep2, ep, e]
    show pn _ (evs _ _ _) = _
    rw [pn_evs_eq]
    exact filter_drop _ _ (pn_rise _ _)
  · rw [ep]
    refine cnt_none (fun x hx => ?_)
    have h3 := low_le hx
    have h4 := (minLow_le (R.dests.map Rd.abs) R.next).2.1 R.dests[i].abs (List.mem_map_of_mem (List.getElem_mem hi))
    have h5 : R.dests[i].abs.low = R.dests[i].low := rfl
    unfold Rl.free at hf
    omega
theorem cut_free {R : Rl} (h : R.Ok) {t : Nat} (h1 : R.first ≤ t) (h2 : t ≤ R.next) : R.free ≤ (R.cut t).free ∧ (0 < R.dests.length → t ≤ (R.cut t).free) := by
  have hok := cut_ok h h1 h2
  obtain ⟨_, _, h3⟩ := minLow_le ((R.cut t).dests.map Rd.abs) (R.cut t).next
  have hfr : (R.cut t).free = minLow (R.cut t).next ((R.cut t).dests.map Rd.abs) := rfl
  have en : (R.cut t).next = R.next := rfl
  rcases h3 with h3 | ⟨x, hx, h3⟩
  · have := free_le R
    exact ⟨by omega, fun _ => by omega⟩
  · obtain ⟨r, hr, rfl⟩ := List.mem_map.1 hx
    have hlo := first_low' (hok.each r hr) hok.fn
    have ef : (R.cut t).first = t := rfl
    have e3 : r.abs.low = r.low := rfl
    obtain ⟨d, hd, rfl⟩ := List.mem_map.1 hr
    have hL : d.Later { d with all := evs d.since t d.all } := ⟨rfl, rfl, by simp [evs_len], fun i h h' => by
      simp only [evs_at d.all d.since t i h]
      split
      · rename_i h6; exact .inr h6.2
      · exact .inl rfl⟩
    have h4 := (minLow_le (R.dests.map Rd.abs) R.next).2.1 d.abs (List.mem_map_of_mem hd)
    have h5 : d.abs.low = d.low := rfl
    have h6 := hL.low
    have h7 : R.free = minLow R.next (R.dests.map Rd.abs) := rfl
    exact ⟨by omega, fun _ => by omega⟩
theorem cut_bad1 {R : Rl} (h : R.Ok) {t : Nat} (h1 : R.first ≤ t) : (R.cut t).evict (t - 1) = (Rl.none, 1) ∧ (R.cut t).evict (R.next + 1) = (Rl.none, 1) := by
  have hf := h.f1
  constructor
  · unfold Rl.evict
    rw [if_pos (Or.inl (by show t - 1 < t; omega))]
  · unfold Rl.evict
    rw [if_pos (Or.inr (by show R.next < R.next + 1; omega))]

/-! ## Join -/
theorem join_is {R : Rl} {n : ByteArray} (h1 : Lab.isName n = true) (h2 : n ∉ R.names) (h3 : R.dests.length < 4) : R.join n = (⟨R.first, R.next, R.dests ++ [⟨n, R.next, []⟩]⟩, 0) := by
  unfold Rl.join
  rw [h1, if_neg (by simp), if_neg (by simpa using plc_no h2), if_neg (by omega)]
def addN : Nat → Rl → Rl
  | 0, R => R
  | k + 1, R => (addN k R).add
theorem addN_first (R : Rl) : ∀ k, (addN k R).first = R.first ∧ (addN k R).next = R.next + k ∧ (addN k R).dests.length = R.dests.length
  | 0 => ⟨rfl, rfl, rfl⟩
  | k + 1 => by
    obtain ⟨h1, h2, h3⟩ := addN_first R k
    refine ⟨h1, ?_, ?_⟩
    · show (addN k R).next + 1 = _; omega
    · show ((addN k R).dests.map _).length = _; rw [List.length_map]; exact h3
theorem addN_ok {R : Rl} (h : R.Ok) : ∀ k, R.next + k ≤ 10000000 → (addN k R).Ok
  | 0, _ => h
  | k + 1, hk => add_ok (addN_ok h k (by omega)) (by have := (addN_first R k).2.1; omega)
theorem addN_mem {R : Rl} {d : Rd} (hd : d ∈ R.dests) : ∀ k, { d with all := d.all ++ List.replicate k 112 } ∈ (addN k R).dests
  | 0 => by simpa [addN] using hd
  | k + 1 => by
    have ih := addN_mem hd k
    have : { d with all := (d.all ++ List.replicate k 112) ++ [112] } ∈ (addN k R).dests.map (fun d => { d with all := d.all ++ [112] }) := List.mem_map_of_mem ih
    rw [List.append_assoc] at this
    have e : List.replicate k 112 ++ [112] = List.replicate (k + 1) 112 := List.replicate_succ'.symm
    rw [e] at this
    exact this
theorem pn_fresh : ∀ (k s : Nat), pn s (List.replicate k 112) = List.range' s k
  | 0, _ => rfl
  | k + 1, s => by
    rw [List.replicate_succ, List.range'_succ]
    conv => lhs; unfold pn
    rw [if_pos rfl, pn_fresh k (s + 1)]
theorem low_fresh (n : ByteArray) (s k : Nat) : (Rd.mk n s (List.replicate k 112)).low = s := by
  cases k with
  | zero => rfl
  | succ k => show lowR s (List.replicate (k + 1) 112) = s; rw [List.replicate_succ]; unfold lowR; rw [if_pos rfl]
theorem addN_names (R : Rl) : ∀ k, (addN k R).names = R.names
  | 0 => rfl
  | k + 1 => by
    rw [← addN_names R k]
    show ((addN k R).dests.map _).map Rd.name = _
    rw [List.map_map]
    rfl
end Go.Proofs.Ytjbdofjheeljkaa.Ldg
