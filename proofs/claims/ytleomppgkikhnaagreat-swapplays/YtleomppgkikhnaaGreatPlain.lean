/-
  Laid one behind the other: LabelMath DskMath DskLawM DskProgM DskBudM DskRunM DskCrashM DskRenM SwpM SwpPlayM SwpLawM RefCrashM.
-/
import Derived.Test.YtleomppgkikhnaaGreatMath
import GoSem.Op.String
import Derived.Laws.Strings
namespace Go.Proofs.YtleomppgkikhnaaGreat.Lab
open Go.Proofs.YtleomppgkikhnaaGreat

abbrev Pr := ByteArray × ByteArray

theorem bytes_ext {a b : ByteArray} (h : a.toList = b.toList) : a = b := by
  rw [ByteArray.toList_eq, ByteArray.toList_eq] at h
  exact ByteArray.ext (Array.ext' h)
theorem eqB (a b : ByteArray) : (a.toList == b.toList) = decide (a = b) := by
  by_cases h : a = b
  · subst h; simp
  · rw [decide_eq_false h]
    exact beq_eq_false_iff_ne.2 (fun e => h (bytes_ext e))
theorem eqB_true {a b : ByteArray} (h : (a.toList == b.toList) = true) : a = b := by rw [eqB] at h; exact of_decide_eq_true h
theorem eqB_false {a b : ByteArray} (h : (a.toList == b.toList) = false) : a ≠ b := by rw [eqB] at h; exact of_decide_eq_false h

/-! The order of bytes. -/
theorem less_irrefl : ∀ a : List UInt8, Op.bytesLess a a = false
  | [] => rfl
  | x :: r => by simp [Op.bytesLess, less_irrefl r]
theorem u8_lt {a b : UInt8} : a < b ↔ a.toNat < b.toNat := Iff.rfl
theorem u8_ne {a b : UInt8} (h : a ≠ b) : a.toNat ≠ b.toNat := fun e => h (UInt8.toNat_inj.1 e)
theorem less_trans : ∀ a b c : List UInt8, Op.bytesLess a b = true → Op.bytesLess b c = true → Op.bytesLess a c = true
  | _, _, [], _, h => by cases ‹List UInt8› <;> simp [Op.bytesLess] at h
  | _, [], _ :: _, h, _ => by cases ‹List UInt8› <;> simp [Op.bytesLess] at h
  | [], _ :: _, _ :: _, _, _ => rfl
  | x :: a, y :: b, z :: c, h, k => by
    simp only [Op.bytesLess, Bool.or_eq_true, Bool.and_eq_true, decide_eq_true_eq, beq_iff_eq] at h k ⊢
    rcases h with h | ⟨rfl, h⟩
    · rcases k with k | ⟨rfl, k⟩
      · left; rw [u8_lt] at *; omega
      · left; exact h
    · rcases k with k | ⟨rfl, k⟩
      · left; exact k
      · right; exact ⟨rfl, less_trans a b c h k⟩
theorem less_total : ∀ a b : List UInt8, a ≠ b → Op.bytesLess a b = true ∨ Op.bytesLess b a = true
  | [], [], h => absurd rfl h
  | [], _ :: _, _ => .inl rfl
  | _ :: _, [], _ => .inr rfl
  | x :: a, y :: b, h => by
    simp only [Op.bytesLess, Bool.or_eq_true, Bool.and_eq_true, decide_eq_true_eq, beq_iff_eq]
    by_cases hxy : x = y
    · subst hxy
      rcases less_total a b (fun e => h (by rw [e])) with k | k
      · exact .inl (.inr ⟨rfl, k⟩)
      · exact .inr (.inr ⟨rfl, k⟩)
    · have := u8_ne hxy
      rw [u8_lt, u8_lt]
      rcases Nat.lt_or_gt_of_ne this with k | k
      · exact .inl (.inl k)
      · exact .inr (.inl k)

/-- Is a name ahead of another? -/
def lt (a b : ByteArray) : Bool := Op.bytesLess a.toList b.toList
theorem lt_irrefl (a : ByteArray) : lt a a = false := less_irrefl _
theorem lt_trans {a b c : ByteArray} (h : lt a b = true) (k : lt b c = true) : lt a c = true := less_trans _ _ _ h k
theorem lt_total {a b : ByteArray} (h : a ≠ b) : lt a b = true ∨ lt b a = true := less_total _ _ (fun e => h (bytes_ext e))
theorem lt_asymm {a b : ByteArray} (h : lt a b = true) : lt b a = false := by
  cases k : lt b a with
  | false => rfl
  | true => have := lt_trans h k; rw [lt_irrefl] at this; cases this
theorem lt_ne {a b : ByteArray} (h : lt a b = true) : a ≠ b := fun e => by rw [e, lt_irrefl] at h; cases h
/-- not ahead of, and ahead of a third -/
theorem lt_of_not_lt {a b c : ByteArray} (h : lt b a = false) (k : lt b c = true) : lt a c = true := by
  by_cases e : a = b
  · rw [e]; exact k
  · rcases lt_total e with q | q
    · exact lt_trans q k
    · rw [h] at q; cases q
theorem lt_of_lt_not {a b c : ByteArray} (h : lt a b = true) (k : lt c b = false) : lt a c = true := by
  by_cases e : c = b
  · rw [e]; exact h
  · rcases lt_total e with q | q
    · rw [k] at q; cases q
    · exact lt_trans h q
theorem not_lt_trans {a b c : ByteArray} (h : lt b a = false) (k : lt c b = false) : lt c a = false := by
  cases q : lt c a with
  | false => rfl
  | true => have := lt_of_lt_not q h; rw [k] at this; cases this
theorem empty_lt {a : ByteArray} (h : a.size ≠ 0) : lt ⟨#[]⟩ a = true := by
  unfold lt
  rw [ByteArray.toList_eq, ByteArray.toList_eq]
  obtain ⟨⟨l⟩⟩ := a
  cases l with
  | nil => exact absurd rfl h
  | cons x r => rfl

/-! Names. -/
def letB (n : Nat) : Bool := decide (97 ≤ n ∧ n ≤ 122 ∨ n = 95)
def digB (n : Nat) : Bool := decide (48 ≤ n ∧ n ≤ 57)
def okAt (i : Nat) (b : UInt8) : Bool := letB b.toNat || (decide (i ≠ 0) && digB b.toNat)
def isName (s : ByteArray) : Bool := decide (1 ≤ s.size ∧ s.size ≤ 20 ∧ ∀ i, i < s.size → okAt i (s.data.toList.getD i 0) = true)
theorem isName_true {s : ByteArray} (h : isName s = true) : 1 ≤ s.size ∧ s.size ≤ 20 ∧ ∀ i, i < s.size → okAt i (s.data.toList.getD i 0) = true := of_decide_eq_true h
theorem isName_mk {s : ByteArray} (h : 1 ≤ s.size ∧ s.size ≤ 20 ∧ ∀ i, i < s.size → okAt i (s.data.toList.getD i 0) = true) : isName s = true := decide_eq_true h
theorem isName_no {s : ByteArray} (h : ¬ (1 ≤ s.size ∧ s.size ≤ 20 ∧ ∀ i, i < s.size → okAt i (s.data.toList.getD i 0) = true)) : isName s = false := decide_eq_false h
theorem getD_at (s : ByteArray) (k : Nat) (h : k < s.size) : s.data.toList.getD k 0 = s[k] := by
  have h' : k < s.data.size := h
  simp [List.getD, Array.getElem?_eq_getElem h']
  rfl

/-! What is wrong. -/
def has (ps : List Pr) (n : ByteArray) : Bool := ps.any (fun p => decide (p.1 = n))
theorem has_app (a b : List Pr) (n : ByteArray) : has (a ++ b) n = (has a n || has b n) := by simp [has]
theorem has_iff {ps : List Pr} {n : ByteArray} : has ps n = true ↔ ∃ p ∈ ps, p.1 = n := by simp [has]
theorem has_no {ps : List Pr} {n : ByteArray} : has ps n = false ↔ ∀ p ∈ ps, p.1 ≠ n := by simp [has]
def chkAt (pre : List Pr) (p : Pr) : Nat := if isName p.1 = false then 3 else if 40 < p.2.size then 7 else if has pre p.1 = true then 4 else 0
def chk : List Pr → List Pr → Nat
  | _, [] => 0
  | pre, p :: r => if chkAt pre p = 0 then chk (pre ++ [p]) r else chkAt pre p
def check (l : List Pr) : Nat := if 8 < l.length then 6 else chk [] l
/-- Right labels: as C1's words say. -/
def Right (l : List Pr) : Prop := l.length ≤ 8 ∧ (∀ p ∈ l, isName p.1 = true ∧ p.2.size ≤ 40) ∧ l.Pairwise (fun a b => a.1 ≠ b.1)
theorem chkAt_zero {pre : List Pr} {p : Pr} : chkAt pre p = 0 ↔ isName p.1 = true ∧ p.2.size ≤ 40 ∧ ∀ q ∈ pre, q.1 ≠ p.1 := by
  unfold chkAt
  rw [← has_no]
  cases isName p.1 <;> cases has pre p.1 <;> by_cases h2 : 40 < p.2.size <;> simp [h2] <;> omega
theorem chk_zero : ∀ (r pre : List Pr), chk pre r = 0 ↔ (∀ p ∈ r, isName p.1 = true ∧ p.2.size ≤ 40) ∧ r.Pairwise (fun a b => a.1 ≠ b.1) ∧ ∀ q ∈ pre, ∀ p ∈ r, q.1 ≠ p.1
  | [], pre => by simp [chk]
  | p :: r, pre => by
    unfold chk
    by_cases h : chkAt pre p = 0
    · rw [if_pos h, chk_zero r (pre ++ [p])]
      obtain ⟨h1, h2, h3⟩ := chkAt_zero.1 h
      constructor
      · rintro ⟨a, b, c⟩
        refine ⟨fun q hq => ?_, List.pairwise_cons.2 ⟨fun q hq => c p (by simp) q hq, b⟩, fun q hq x hx => ?_⟩
        · rcases List.mem_cons.1 hq with rfl | hq
          · exact ⟨h1, h2⟩
          · exact a q hq
        · rcases List.mem_cons.1 hx with rfl | hx
          · exact h3 q hq
          · exact c q (by simp [hq]) x hx
      · rintro ⟨a, b, c⟩
        obtain ⟨b1, b2⟩ := List.pairwise_cons.1 b
        refine ⟨fun q hq => a q (List.mem_cons_of_mem _ hq), b2, fun q hq x hx => ?_⟩
        rcases List.mem_append.1 hq with hq | hq
        · exact c q hq x (List.mem_cons_of_mem _ hx)
        · rw [List.mem_singleton.1 hq]; exact b1 x hx
    · rw [if_neg h]
      refine ⟨fun e => absurd e h, fun ⟨a, b, c⟩ => absurd (chkAt_zero.2 ⟨(a p (by simp)).1, (a p (by simp)).2, fun q hq => c q hq p (by simp)⟩) h⟩
theorem check_zero {l : List Pr} : check l = 0 ↔ Right l := by
  unfold check Right
  by_cases h : 8 < l.length
  · rw [if_pos h]; constructor
    · intro e; cases e
    · rintro ⟨a, _⟩; omega
  · rw [if_neg h, chk_zero]
    simp only [List.not_mem_nil, false_implies, implies_true, and_true]
    exact ⟨fun ⟨a, b⟩ => ⟨by omega, a, b⟩, fun ⟨_, a, b⟩ => ⟨a, b⟩⟩
theorem chkAt_lt (pre : List Pr) (p : Pr) : chkAt pre p < 8 := by
  unfold chkAt; repeat' split
  all_goals omega
theorem chk_lt : ∀ (r pre : List Pr), chk pre r < 8
  | [], _ => by simp [chk]
  | p :: r, pre => by
    unfold chk; split
    · exact chk_lt r _
    · exact chkAt_lt _ _
theorem check_lt (l : List Pr) : check l < 8 := by
  unfold check; split
  · omega
  · exact chk_lt _ _

/-! In order. -/
def ins (x : Pr) : List Pr → List Pr
  | [] => [x]
  | y :: r => if lt x.1 y.1 = true then x :: y :: r else y :: ins x r
def canon (l : List Pr) : List Pr := l.foldl (fun s x => ins x s) []
def Sorted (l : List Pr) : Prop := l.Pairwise (fun a b => lt b.1 a.1 = false)
def Rise (l : List Pr) : Prop := l.Pairwise (fun a b => lt a.1 b.1 = true)
theorem ins_perm (x : Pr) : ∀ l : List Pr, (ins x l).Perm (x :: l)
  | [] => List.Perm.refl _
  | y :: r => by
    unfold ins; split
    · exact List.Perm.refl _
    · exact ((ins_perm x r).cons y).trans (List.Perm.swap x y r)
theorem ins_sorted (x : Pr) : ∀ l : List Pr, Sorted l → Sorted (ins x l)
  | [], _ => List.pairwise_singleton _ _
  | y :: r, h => by
    obtain ⟨h1, h2⟩ := List.pairwise_cons.1 h
    unfold ins; split
    · rename_i q
      refine List.pairwise_cons.2 ⟨fun z hz => ?_, h⟩
      rcases List.mem_cons.1 hz with rfl | hz
      · exact lt_asymm q
      · exact not_lt_trans (lt_asymm q) (h1 z hz)
    · rename_i q
      refine List.pairwise_cons.2 ⟨fun z hz => ?_, ins_sorted x r h2⟩
      rcases List.mem_cons.1 ((ins_perm x r).mem_iff.1 hz) with rfl | hz
      · simpa using q
      · exact h1 z hz
theorem canon_snoc (l : List Pr) (x : Pr) : canon (l ++ [x]) = ins x (canon l) := by simp [canon, List.foldl_append]
theorem canon_ind {p : List Pr → List Pr → Prop} (h0 : p [] []) (hs : ∀ l x, p l (canon l) → p (l ++ [x]) (ins x (canon l))) : ∀ (n : Nat) (l : List Pr), l.length = n → p l (canon l)
  | 0, l, h => by rw [List.length_eq_zero_iff.1 h]; exact h0
  | n + 1, l, h => by
    have hne : l ≠ [] := by intro e; rw [e] at h; simp at h
    rw [← List.dropLast_concat_getLast hne, canon_snoc]
    exact hs _ _ (canon_ind h0 hs n l.dropLast (by simp; omega))
theorem canon_perm (l : List Pr) : (canon l).Perm l :=
  canon_ind (p := fun l c => c.Perm l) (List.Perm.refl _) (fun l x h => (ins_perm x _).trans ((h.cons x).trans (List.perm_append_comm (l₁ := [x]) (l₂ := l)))) _ l rfl
theorem canon_sorted (l : List Pr) : Sorted (canon l) := canon_ind (p := fun _ c => Sorted c) List.Pairwise.nil (fun _ x h => ins_sorted x _ h) _ l rfl
theorem canon_length (l : List Pr) : (canon l).length = l.length := (canon_perm l).length_eq
/-- where it goes -/
theorem ins_at (x : Pr) : ∀ (s : List Pr) (k : Nat), Sorted s → k ≤ s.length → (∀ j (h : j < s.length), k ≤ j → lt x.1 (s[j]).1 = true) → (∀ j (h : j < s.length), j + 1 = k → lt x.1 (s[j]).1 = false) → ins x s = s.take k ++ x :: s.drop k
  | [], k, _, hk, _, _ => by simp at hk; subst hk; rfl
  | y :: r, k, hs, hk, h1, h2 => by
    obtain ⟨s1, s2⟩ := List.pairwise_cons.1 hs
    cases k with
    | zero =>
      have := h1 0 (by simp) (by omega)
      unfold ins; rw [if_pos (by simpa using this)]; rfl
    | succ k =>
      have hy : lt x.1 y.1 = false := by
        cases k with
        | zero => exact h2 0 (by simp) rfl
        | succ k =>
          have hk' : k < r.length := by simp at hk; omega
          have q : lt x.1 (r[k]).1 = false := h2 (k + 1) (by simp; omega) rfl
          exact not_lt_trans (s1 _ (List.getElem_mem hk')) q
      unfold ins; rw [if_neg (by rw [hy]; simp)]
      rw [ins_at x r k s2 (by simpa using hk) (fun j h hj => h1 (j + 1) (by simp; omega) (by omega)) (fun j h hj => h2 (j + 1) (by simp; omega) (by omega))]
      rfl
theorem rise_of {l : List Pr} (h : Sorted l) (hd : l.Pairwise (fun a b => a.1 ≠ b.1)) : Rise l :=
  List.Pairwise.imp₂ (fun a b h1 h2 => (lt_total h2).elim id (fun q => by rw [h1] at q; cases q)) h hd
theorem perm_ne {a b : List Pr} (h : a.Perm b) (hd : a.Pairwise (fun x y => x.1 ≠ y.1)) : b.Pairwise (fun x y => x.1 ≠ y.1) :=
  h.pairwise hd (fun h e => h e.symm)
theorem canon_rise {l : List Pr} (h : Right l) : Rise (canon l) := rise_of (canon_sorted l) (perm_ne (canon_perm l).symm h.2.2)
theorem canon_right {l : List Pr} (h : Right l) : Right (canon l) :=
  ⟨by rw [canon_length]; exact h.1, fun p hp => h.2.1 p ((canon_perm l).mem_iff.1 hp), perm_ne (canon_perm l).symm h.2.2⟩
theorem perm_right {a b : List Pr} (hp : a.Perm b) (h : Right a) : Right b :=
  ⟨by rw [← hp.length_eq]; exact h.1, fun p hq => h.2.1 p (hp.mem_iff.2 hq), perm_ne hp h.2.2⟩
/-- There is one order that rises. -/
theorem rise_unique : ∀ {a b : List Pr}, a.Perm b → Rise a → Rise b → a = b
  | [], b, h, _, _ => (List.nil_perm.1 h).symm
  | x :: a, [], h, _, _ => by simpa using h.length_eq
  | x :: a, y :: b, h, ha, hb => by
    obtain ⟨a1, a2⟩ := List.pairwise_cons.1 ha
    obtain ⟨b1, b2⟩ := List.pairwise_cons.1 hb
    have e : x = y := by
      rcases List.mem_cons.1 (h.mem_iff.1 (List.mem_cons_self ..)) with e | hx
      · exact e
      · rcases List.mem_cons.1 (h.mem_iff.2 (List.mem_cons_self ..)) with e | hy
        · exact e.symm
        · have := lt_asymm (b1 x hx); rw [a1 y hy] at this; cases this
    subst e
    rw [rise_unique (List.Perm.cons_inv h) a2 b2]
theorem canon_of_rise {l : List Pr} (h : Rise l) (hr : Right l) : canon l = l := rise_unique (canon_perm l) (canon_rise hr) h
theorem canon_same {a b : List Pr} (h : a.Perm b) (ha : Right a) : canon a = canon b :=
  rise_unique ((canon_perm a).trans (h.trans (canon_perm b).symm)) (canon_rise ha) (canon_rise (perm_right h ha))

/-! Values, matchers. -/
def value (ps : List Pr) (n : ByteArray) : ByteArray := match ps.find? (fun p => decide (p.1 = n)) with | some p => p.2 | none => ⟨#[]⟩
theorem value_cons_eq {p : Pr} {r : List Pr} {n : ByteArray} (h : p.1 = n) : value (p :: r) n = p.2 := by simp [value, h]
theorem value_cons_ne {p : Pr} {r : List Pr} {n : ByteArray} (h : p.1 ≠ n) : value (p :: r) n = value r n := by simp [value, h]
theorem value_mem {l : List Pr} (hd : l.Pairwise (fun a b => a.1 ≠ b.1)) {p : Pr} (hp : p ∈ l) : value l p.1 = p.2 := by
  induction l with
  | nil => cases hp
  | cons q r ih =>
    obtain ⟨h1, h2⟩ := List.pairwise_cons.1 hd
    rcases List.mem_cons.1 hp with rfl | hp
    · exact value_cons_eq rfl
    · rw [value_cons_ne (h1 p hp)]; exact ih h2 hp
theorem value_none {l : List Pr} {n : ByteArray} (h : ∀ p ∈ l, p.1 ≠ n) : value l n = ⟨#[]⟩ := by
  induction l with
  | nil => rfl
  | cons q r ih => rw [value_cons_ne (h q (by simp))]; exact ih (fun p hp => h p (List.mem_cons_of_mem _ hp))
theorem value_perm {a b : List Pr} (h : a.Perm b) (hd : a.Pairwise (fun x y => x.1 ≠ y.1)) (n : ByteArray) : value a n = value b n := by
  cases q : has a n with
  | true =>
    obtain ⟨p, hp, rfl⟩ := has_iff.1 q
    rw [value_mem hd hp, value_mem (perm_ne h hd) (h.mem_iff.1 hp)]
  | false =>
    rw [value_none (has_no.1 q), value_none (fun p hp => has_no.1 q p (h.mem_iff.2 hp))]

/-! Their bytes. -/
def txt (s : ByteArray) : List UInt8 := Num.put s.size ++ s.data.toList
def pb : List Pr → List UInt8
  | [] => []
  | p :: r => txt p.1 ++ txt p.2 ++ pb r
def putL (l : List Pr) : List UInt8 := Num.put l.length ++ pb l
theorem pb_app : ∀ a b : List Pr, pb (a ++ b) = pb a ++ pb b
  | [], b => rfl
  | p :: r, b => by simp only [List.cons_append, pb]; rw [pb_app r b]; simp
theorem txt_len {s : ByteArray} (h : s.size ≤ 1099511627776) : (txt s).length ≤ s.size + 10 := by
  have := Num.put_len10 (n := s.size) (by omega)
  simp [txt]; omega
theorem pb_len : ∀ l : List Pr, (∀ p ∈ l, p.1.size ≤ 2000 ∧ p.2.size ≤ 2000) → (pb l).length ≤ 5000 * l.length
  | [], _ => by simp [pb]
  | p :: r, h => by
    have h1 := pb_len r (fun q hq => h q (List.mem_cons_of_mem _ hq))
    obtain ⟨h2, h3⟩ := h p (by simp)
    have h4 := txt_len (s := p.1) (by omega)
    have h5 := txt_len (s := p.2) (by omega)
    simp only [pb, List.length_append, List.length_cons]; omega
theorem txt_inj {a b : ByteArray} {x y : List UInt8} (ha : a.size ≤ 1099511627776) (hb : b.size ≤ 1099511627776) (h : txt a ++ x = txt b ++ y) : a = b ∧ x = y := by
  unfold txt at h
  rw [List.append_assoc, List.append_assoc] at h
  obtain ⟨e, k⟩ := Num.put_inj (by omega) (by omega) h
  have hl : a.data.toList.length = b.data.toList.length := e
  obtain ⟨k1, k2⟩ := List.append_inj k hl
  exact ⟨ByteArray.ext (Array.ext' k1), k2⟩
theorem pb_inj : ∀ {a b : List Pr} {x y : List UInt8}, a.length = b.length → (∀ p ∈ a, p.1.size ≤ 2000 ∧ p.2.size ≤ 2000) → (∀ p ∈ b, p.1.size ≤ 2000 ∧ p.2.size ≤ 2000) → pb a ++ x = pb b ++ y → a = b ∧ x = y
  | [], [], x, y, _, _, _, h => ⟨rfl, h⟩
  | [], _ :: _, _, _, h, _, _, _ => by simp at h
  | _ :: _, [], _, _, h, _, _, _ => by simp at h
  | (p1, p2) :: a, (q1, q2) :: b, x, y, hl, ha, hb, h => by
    have hp := ha (p1, p2) (by simp)
    have hq := hb (q1, q2) (by simp)
    simp only [pb, List.append_assoc] at h hp hq
    obtain ⟨e1, h2⟩ := txt_inj (by omega) (by omega) h
    obtain ⟨e2, h3⟩ := txt_inj (by omega) (by omega) h2
    obtain ⟨e3, e4⟩ := pb_inj (by simpa using hl) (fun r hr => ha r (by simp [hr])) (fun r hr => hb r (by simp [hr])) h3
    rw [e1, e2, e3, e4]; exact ⟨rfl, rfl⟩
theorem right_small {l : List Pr} (h : Right l) : ∀ p ∈ l, p.1.size ≤ 2000 ∧ p.2.size ≤ 2000 := fun p hp => by
  obtain ⟨h1, h2⟩ := h.2.1 p hp
  have := isName_true h1
  omega
theorem putL_inj {a b : List Pr} {x y : List UInt8} (ha : Right a) (hb : Right b) (h : putL a ++ x = putL b ++ y) : a = b ∧ x = y := by
  unfold putL at h
  rw [List.append_assoc, List.append_assoc] at h
  have h8 := ha.1
  have h9 := hb.1
  obtain ⟨e, k⟩ := Num.put_inj (by omega) (by omega) h
  exact pb_inj e (right_small ha) (right_small hb) k
theorem putL_len {l : List Pr} (h : Right l) : (putL l).length ≤ 50000 := by
  have h1 := pb_len l (right_small h)
  have h2 := h.1
  have h3 := Num.put_len10 (n := l.length) (by omega)
  simp [putL]; omega

end Go.Proofs.YtleomppgkikhnaaGreat.Lab
namespace Go.Proofs.YtleomppgkikhnaaGreat.Dsk
open Go.Proofs.YtleomppgkikhnaaGreat

abbrev By := List UInt8
abbrev Row := List (ByteArray × Nat)
structure Dk where
  room : Nat
  files : List (List By)
  dirs : List Row
  ops : Nat
  fail : Nat
  left : Int

def fresh (room : Int) : Dk := ⟨room.toNat, [], [[]], 0, 0, -1⟩
def isName (s : ByteArray) : Bool := decide ((∀ b ∈ s.data.toList, 33 ≤ b.toNat ∧ b.toNat ≤ 126) ∧ 1 ≤ s.size ∧ s.size ≤ 24)
def dir (d : Dk) : Row := d.dirs.getLastD []
def find : Row → ByteArray → Option Nat
  | [], _ => none
  | (m, f) :: r, n => if m = n then some f else find r n
def without (r : Row) (n : ByteArray) : Row := r.filter (fun p => decide (p.1 ≠ n))
def hist (d : Dk) (f : Nat) : List By := d.files.getD f []
def now (d : Dk) (f : Nat) : By := (hist d f).getLastD []
def used (d : Dk) : Nat := ((dir d).map (fun p => (now d p.2).length)).sum
/-- One more operation. -/
def on (d : Dk) : Dk := { d with ops := d.ops + 1, left := if 0 < d.left then d.left - 1 else d.left }
def act (d : Dk) (f : Dk → Dk × Int) : Dk × Int := if d.left = 0 then (d, 11) else f (on d)
def fronts (b s : By) : List By := (List.range s.length).map (fun i => b ++ s.take (i + 1))
def createB (n : ByteArray) (d : Dk) : Dk × Int :=
  if isName n = false then (d, 3) else match find (dir d) n with
    | some _ => (d, 4)
    | none => ({ d with files := d.files ++ [[[]]], dirs := d.dirs ++ [without (dir d) n ++ [(n, d.files.length)]] }, 0)
def create (n : ByteArray) (d : Dk) : Dk × Int := act d (createB n)
def appendB (n : ByteArray) (s : By) (d : Dk) : Dk × Int := match find (dir d) n with
  | none => (d, 5)
  | some f => if d.room < used d + s.length then (d, 9) else if d.fail = 1 then ({ d with fail := 0 }, 10)
    else ({ d with fail := d.fail - 1, files := d.files.set f (hist d f ++ fronts (now d f) s) }, 0)
def append (n : ByteArray) (s : By) (d : Dk) : Dk × Int := act d (appendB n s)
def cutB (n : ByteArray) (to : Int) (d : Dk) : Dk × Int := match find (dir d) n with
  | none => (d, 5)
  | some f => if to < 0 ∨ ((now d f).length : Int) < to then (d, 1) else ({ d with files := d.files.set f (hist d f ++ [(now d f).take to.toNat]) }, 0)
def cut (n : ByteArray) (to : Int) (d : Dk) : Dk × Int := act d (cutB n to)
def syncB (n : ByteArray) (d : Dk) : Dk × Int := match find (dir d) n with
  | none => (d, 5)
  | some f => if d.fail = 1 then ({ d with fail := 0 }, 10) else ({ d with fail := d.fail - 1, files := d.files.set f [now d f] }, 0)
def sync (n : ByteArray) (d : Dk) : Dk × Int := act d (syncB n)
def renameB (n m : ByteArray) (d : Dk) : Dk × Int := match find (dir d) n with
  | none => (d, 5)
  | some f => if isName m = false then (d, 3) else ({ d with dirs := d.dirs ++ [without (without (dir d) n) m ++ [(m, f)]] }, 0)
def rename (n m : ByteArray) (d : Dk) : Dk × Int := act d (renameB n m)
def removeB (n : ByteArray) (d : Dk) : Dk × Int := match find (dir d) n with
  | none => (d, 5)
  | some _ => ({ d with dirs := d.dirs ++ [without (dir d) n] }, 0)
def remove (n : ByteArray) (d : Dk) : Dk × Int := act d (removeB n)
def syncDirB (d : Dk) : Dk × Int := ({ d with dirs := [dir d] }, 0)
def syncDir (d : Dk) : Dk × Int := act d syncDirB
def read (n : ByteArray) (d : Dk) : By × Int := if d.left = 0 then ([], 11) else match find (dir d) n with
  | none => ([], 5)
  | some f => (now d f, 0)
def setFail (n : Int) (d : Dk) : Dk := { d with fail := n.toNat }
def setStop (n : Int) (d : Dk) : Dk := { d with left := max n (-1) }
/-- The names, rising. -/
def ins (n : ByteArray) : List ByteArray → List ByteArray
  | [] => [n]
  | m :: r => if Lab.lt n m = true then n :: m :: r else m :: ins n r
def sortN : List ByteArray → List ByteArray
  | [] => []
  | n :: r => ins n (sortN r)
def names (r : Row) : List ByteArray := r.map (·.1)
def list (d : Dk) : List ByteArray := sortN (names (dir d))
/-- What is left. -/
def rowAt (d : Dk) (k : Int) : Row := d.dirs.getD (min k ((d.dirs.length : Int) - 1)).toNat []
def momAt (d : Dk) (ks : List Int) (n : Nat) : By := (hist d n).getD (if n < ks.length then (min (ks.getD n 0) (((hist d n).length : Int) - 1)).toNat else 0) []
def picks (d : Dk) (k : Int) (ks : List Int) : List (ByteArray × By) :=
  (List.range d.files.length).flatMap fun n => ((rowAt d k).filter (fun p => decide (p.2 = n))).map (fun p => (p.1, momAt d ks n))
def numbered : Nat → List (ByteArray × By) → Row
  | _, [] => []
  | i, p :: r => (p.1, i) :: numbered (i + 1) r
def crash (k : Int) (ks : List Int) (d : Dk) : Dk := ⟨d.room, (picks d k ks).map (fun p => [p.2]), [numbered 0 (picks d k ks)], 0, 0, -1⟩

/-! ## What holds of every disk -/
/-- A row of names is right: of files that there are, no two of one name, nor of one file. -/
def RowOk (n : Nat) (r : Row) : Prop := (∀ p ∈ r, isName p.1 = true ∧ p.2 < n) ∧ r.Pairwise (fun p q => p.1 ≠ q.1) ∧ r.Pairwise (fun p q => p.2 ≠ q.2)
structure Ok (d : Dk) : Prop where
  rows : ∀ r ∈ d.dirs, RowOk d.files.length r
  some : d.dirs ≠ []
  hists : ∀ h ∈ d.files, h ≠ []
  left : -1 ≤ d.left

theorem dir_mem {d : Dk} (h : d.dirs ≠ []) : dir d ∈ d.dirs := by
  unfold dir
  rw [List.getLastD_eq_getLast?, List.getLast?_eq_some_getLast h]
  exact List.getLast_mem h
theorem Ok.row {d : Dk} (h : Ok d) : RowOk d.files.length (dir d) := h.rows _ (dir_mem h.some)
theorem find_some {r : Row} {n : ByteArray} {f : Nat} (h : find r n = some f) : (n, f) ∈ r := by
  induction r with
  | nil => cases h
  | cons p r ih =>
    obtain ⟨m, g⟩ := p
    unfold find at h
    split at h
    · rename_i e; cases h; subst e; exact List.mem_cons_self ..
    · exact List.mem_cons_of_mem _ (ih h)
theorem find_none {r : Row} {n : ByteArray} : find r n = none ↔ ∀ p ∈ r, p.1 ≠ n := by
  induction r with
  | nil => simp [find]
  | cons p r ih =>
    obtain ⟨m, g⟩ := p
    unfold find
    by_cases e : m = n
    · simp [e]
    · rw [if_neg e, ih]; simp [e]
theorem find_mem {r : Row} {n : ByteArray} {f : Nat} (hr : r.Pairwise (fun p q => p.1 ≠ q.1)) (h : (n, f) ∈ r) : find r n = some f := by
  induction r with
  | nil => simp at h
  | cons p r ih =>
    obtain ⟨m, g⟩ := p
    obtain ⟨h1, h2⟩ := List.pairwise_cons.1 hr
    unfold find
    rcases List.mem_cons.1 h with e | h
    · cases e; rw [if_pos rfl]
    · rw [if_neg (h1 _ h), ih h2 h]
theorem find_app (a b : Row) (n : ByteArray) : find (a ++ b) n = (find a n).or (find b n) := by
  induction a with
  | nil => simp [find]
  | cons p a ih =>
    obtain ⟨m, g⟩ := p
    simp only [List.cons_append, find]
    split
    · rfl
    · exact ih
theorem RowOk.without {n : Nat} {r : Row} (h : RowOk n r) (m : ByteArray) : RowOk n (without r m) :=
  ⟨fun p hp => h.1 p (List.mem_filter.1 hp).1, h.2.1.filter _, h.2.2.filter _⟩
theorem without_ne {r : Row} {m : ByteArray} {p : ByteArray × Nat} (h : p ∈ without r m) : p.1 ≠ m := of_decide_eq_true (List.mem_filter.1 h).2
theorem without_sub {r : Row} {m : ByteArray} {p : ByteArray × Nat} (h : p ∈ without r m) : p ∈ r := (List.mem_filter.1 h).1
theorem RowOk.mono {n m : Nat} {r : Row} (h : RowOk n r) (hm : n ≤ m) : RowOk m r := ⟨fun p hp => ⟨(h.1 p hp).1, by have := (h.1 p hp).2; omega⟩, h.2.1, h.2.2⟩
theorem RowOk.snoc {n : Nat} {r : Row} (h : RowOk n r) {m : ByteArray} {f : Nat} (hm : isName m = true) (hf : f < n) (h1 : ∀ p ∈ r, p.1 ≠ m) (h2 : ∀ p ∈ r, p.2 ≠ f) : RowOk n (r ++ [(m, f)]) := by
  refine ⟨fun p hp => ?_, ?_, ?_⟩
  · rcases List.mem_append.1 hp with hp | hp
    · exact h.1 p hp
    · simp at hp; subst hp; exact ⟨hm, hf⟩
  · rw [List.pairwise_append]
    exact ⟨h.2.1, List.pairwise_singleton _ _, fun p hp q hq => by simp at hq; subst hq; exact h1 p hp⟩
  · rw [List.pairwise_append]
    exact ⟨h.2.2, List.pairwise_singleton _ _, fun p hp q hq => by simp at hq; subst hq; exact h2 p hp⟩
theorem row_one {r : Row} (h : r.Pairwise (fun p q => p.2 ≠ q.2)) {p q : ByteArray × Nat} (hp : p ∈ r) (hq : q ∈ r) (e : p.2 = q.2) : p = q := by
  induction r with
  | nil => simp at hp
  | cons x r ih =>
    obtain ⟨h1, h2⟩ := List.pairwise_cons.1 h
    rcases List.mem_cons.1 hp with rfl | hp
    · rcases List.mem_cons.1 hq with rfl | hq
      · rfl
      · exact absurd e (h1 q hq)
    · rcases List.mem_cons.1 hq with rfl | hq
      · rename_i hp'; exact absurd e.symm (h1 p hp')
      · exact ih h2 hp hq


theorem dir_snoc (d : Dk) (l : List Row) (r : Row) : dir { d with dirs := l ++ [r] } = r := by
  show (l ++ [r]).getLastD [] = r
  simp [List.getLastD_eq_getLast?]
theorem hist_set (d : Dk) {f : Nat} (hf : f < d.files.length) (h : List By) (i : Nat) : (d.files.set f h).getD i [] = if i = f then h else hist d i := by
  unfold hist
  rw [List.getD_eq_getElem?_getD, List.getElem?_set, List.getD_eq_getElem?_getD]
  by_cases e : f = i
  · subst e; simp [hf]
  · rw [if_neg e, if_neg (fun k => e k.symm)]
theorem act_ok {d : Dk} {f : Dk → Dk × Int} (h : Ok d) (hf : ∀ d, Ok d → Ok (f d).1) : Ok (act d f).1 := by
  unfold act
  split
  · exact h
  · refine hf _ ⟨h.rows, h.some, h.hists, ?_⟩
    have := h.left
    unfold on
    simp only
    split <;> omega
theorem find_lt {d : Dk} (h : Ok d) {n : ByteArray} {f : Nat} (hf : find (dir d) n = some f) : f < d.files.length := (h.row.1 _ (find_some hf)).2
theorem set_ok {d : Dk} (h : Ok d) (f : Nat) (l : List By) (hl : l ≠ []) (k : Nat) : Ok { d with fail := k, files := d.files.set f l } :=
  ⟨fun r hr => by show RowOk (d.files.set f l).length r; rw [List.length_set]; exact h.rows r hr, h.some, fun x hx => by
    rcases List.mem_or_eq_of_mem_set hx with hx | rfl
    · exact h.hists x hx
    · exact hl, h.left⟩
theorem dirs_ok {d : Dk} (h : Ok d) (r : Row) (hr : RowOk d.files.length r) : Ok { d with dirs := d.dirs ++ [r] } :=
  ⟨fun x hx => by
    rcases List.mem_append.1 hx with hx | hx
    · exact h.rows x hx
    · simp at hx; subst hx; exact hr, by simp, h.hists, h.left⟩
theorem create_ok (n : ByteArray) {d : Dk} (h : Ok d) : Ok (create n d).1 := by
  refine act_ok h fun d h => ?_
  unfold createB
  split
  · exact h
  · rename_i hn
    split
    · exact h
    · rename_i hf
      refine ⟨fun r hr => ?_, by simp, fun x hx => ?_, h.left⟩
      · show RowOk (d.files ++ [[[]]]).length r
        rw [List.length_append]
        rcases List.mem_append.1 hr with hr | hr
        · exact (h.rows r hr).mono (by simp)
        · simp at hr
          subst hr
          refine (RowOk.mono (h.row.without n) (Nat.le_succ _)).snoc (by simpa using hn) (by simp) (fun p hp => without_ne hp) (fun p hp e => ?_)
          have := (h.row.1 p (without_sub hp)).2
          omega
      · rcases List.mem_append.1 hx with hx | hx
        · exact h.hists x hx
        · simp at hx; subst hx; simp
theorem append_ok (n : ByteArray) (s : By) {d : Dk} (h : Ok d) : Ok (append n s d).1 := by
  refine act_ok h fun d h => ?_
  unfold appendB
  split
  · exact h
  · rename_i f hf
    split
    · exact h
    · split
      · exact ⟨h.rows, h.some, h.hists, h.left⟩
      · refine set_ok h f _ ?_ _
        have h1 := h.hists (hist d f) (by unfold hist; rw [List.getD_eq_getElem?_getD, List.getElem?_eq_getElem (find_lt h hf)]; exact List.getElem_mem _)
        intro e
        exact h1 (List.append_eq_nil_iff.1 e).1
theorem cut_ok (n : ByteArray) (to : Int) {d : Dk} (h : Ok d) : Ok (cut n to d).1 := by
  refine act_ok h fun d h => ?_
  unfold cutB
  split
  · exact h
  · split
    · exact h
    · exact set_ok h _ _ (by simp) d.fail
theorem sync_ok (n : ByteArray) {d : Dk} (h : Ok d) : Ok (sync n d).1 := by
  refine act_ok h fun d h => ?_
  unfold syncB
  split
  · exact h
  · split
    · exact ⟨h.rows, h.some, h.hists, h.left⟩
    · exact set_ok h _ _ (by simp) _
theorem rename_ok (n m : ByteArray) {d : Dk} (h : Ok d) : Ok (rename n m d).1 := by
  refine act_ok h fun d h => ?_
  unfold renameB
  split
  · exact h
  · rename_i f hf
    split
    · exact h
    · rename_i hm
      refine dirs_ok h _ ?_
      refine RowOk.snoc ((h.row.without n).without m) (by simpa using hm) (find_lt h hf) (fun p hp => without_ne hp) (fun p hp e => ?_)
      have h1 := without_sub hp
      have h2 := row_one h.row.2.2 (without_sub h1) (find_some hf) e
      exact without_ne h1 (by rw [h2])
theorem remove_ok (n : ByteArray) {d : Dk} (h : Ok d) : Ok (remove n d).1 := by
  refine act_ok h fun d h => ?_
  unfold removeB
  split
  · exact h
  · exact dirs_ok h _ (h.row.without n)
theorem syncDir_ok {d : Dk} (h : Ok d) : Ok (syncDir d).1 := by
  refine act_ok h fun d h => ?_
  unfold syncDirB
  exact ⟨fun r hr => by simp at hr; subst hr; exact h.row, by simp, h.hists, h.left⟩
theorem setFail_ok (n : Int) {d : Dk} (h : Ok d) : Ok (setFail n d) := ⟨h.rows, h.some, h.hists, h.left⟩
theorem setStop_ok (n : Int) {d : Dk} (h : Ok d) : Ok (setStop n d) := ⟨h.rows, h.some, h.hists, by unfold setStop; simp only; omega⟩
theorem fresh_ok (room : Int) : Ok (fresh room) := ⟨fun r hr => by simp [fresh] at hr; subst hr; exact ⟨fun p hp => by simp at hp, List.Pairwise.nil, List.Pairwise.nil⟩, by simp [fresh], fun x hx => by simp [fresh] at hx, by simp [fresh]⟩

end Go.Proofs.YtleomppgkikhnaaGreat.Dsk
namespace Go.Proofs.YtleomppgkikhnaaGreat.Dsk
open Go.Proofs.YtleomppgkikhnaaGreat

/-! ## Names in order -/
def Up (l : List ByteArray) : Prop := l.Pairwise (fun a b => Lab.lt a b = true)
theorem ins_perm (n : ByteArray) : ∀ l : List ByteArray, (ins n l).Perm (n :: l)
  | [] => List.Perm.refl _
  | m :: r => by
    unfold ins
    split
    · exact List.Perm.refl _
    · exact ((ins_perm n r).cons m).trans (List.Perm.swap n m r)
theorem sortN_perm : ∀ l : List ByteArray, (sortN l).Perm l
  | [] => List.Perm.refl _
  | n :: r => (ins_perm n (sortN r)).trans ((sortN_perm r).cons n)
theorem ins_up {n : ByteArray} : ∀ {l : List ByteArray}, Up l → (∀ m ∈ l, m ≠ n) → Up (ins n l)
  | [], _, _ => List.pairwise_singleton _ _
  | m :: r, h, hn => by
    obtain ⟨h1, h2⟩ := List.pairwise_cons.1 h
    unfold ins
    split
    · rename_i hl
      exact List.pairwise_cons.2 ⟨fun q hq => by
        rcases List.mem_cons.1 hq with rfl | hq
        · exact hl
        · exact Lab.lt_trans hl (h1 q hq), h⟩
    · rename_i hl
      refine List.pairwise_cons.2 ⟨fun q hq => ?_, ins_up h2 (fun q hq => hn q (List.mem_cons_of_mem _ hq))⟩
      rcases List.mem_cons.1 ((ins_perm n r).mem_iff.1 hq) with rfl | hq
      · rcases Lab.lt_total (hn m (List.mem_cons_self ..)) with k | k
        · exact k
        · exact absurd k hl
      · exact h1 q hq
theorem sortN_up : ∀ {l : List ByteArray}, l.Pairwise (fun a b => a ≠ b) → Up (sortN l)
  | [], _ => List.Pairwise.nil
  | n :: r, h => by
    obtain ⟨h1, h2⟩ := List.pairwise_cons.1 h
    exact ins_up (sortN_up h2) (fun m hm e => h1 m ((sortN_perm r).mem_iff.1 hm) e.symm)
theorem up_unique : ∀ {a b : List ByteArray}, Up a → Up b → (∀ x, x ∈ a ↔ x ∈ b) → a = b
  | [], [], _, _, _ => rfl
  | [], y :: b, _, _, h => absurd ((h y).2 (List.mem_cons_self ..)) (by simp)
  | x :: a, [], _, _, h => absurd ((h x).1 (List.mem_cons_self ..)) (by simp)
  | x :: a, y :: b, ha, hb, h => by
    obtain ⟨a1, a2⟩ := List.pairwise_cons.1 ha
    obtain ⟨b1, b2⟩ := List.pairwise_cons.1 hb
    have hxy : x = y := by
      rcases List.mem_cons.1 ((h x).1 (List.mem_cons_self ..)) with e | hx
      · exact e
      · rcases List.mem_cons.1 ((h y).2 (List.mem_cons_self ..)) with e | hy
        · exact e.symm
        · have := Lab.lt_asymm (a1 y hy)
          rw [b1 x hx] at this; cases this
    subst hxy
    have irr : ∀ {c : List ByteArray}, (∀ z ∈ c, Lab.lt x z = true) → x ∉ c := fun hc hm => by
      have := hc x hm
      rw [Lab.lt_irrefl] at this; cases this
    rw [up_unique a2 b2 (fun z => ?_)]
    constructor
    · intro hz
      rcases List.mem_cons.1 ((h z).1 (List.mem_cons_of_mem _ hz)) with rfl | k
      · exact absurd hz (irr a1)
      · exact k
    · intro hz
      rcases List.mem_cons.1 ((h z).2 (List.mem_cons_of_mem _ hz)) with rfl | k
      · exact absurd hz (irr b1)
      · exact k
theorem sortN_eq {a b : List ByteArray} (ha : a.Pairwise (fun x y => x ≠ y)) (h : a.Perm b) : sortN a = sortN b := by
  have hb : b.Pairwise (fun x y => x ≠ y) := h.pairwise ha (fun h e => h e.symm)
  exact up_unique (sortN_up ha) (sortN_up hb) (fun x => by rw [(sortN_perm a).mem_iff, (sortN_perm b).mem_iff, h.mem_iff])
theorem names_ne {r : Row} (h : r.Pairwise (fun p q => p.1 ≠ q.1)) : (names r).Pairwise (fun a b => a ≠ b) := by
  unfold names
  rw [List.pairwise_map]
  exact h
theorem mem_list {d : Dk} {n : ByteArray} : n ∈ list d ↔ ∃ f, (n, f) ∈ dir d := by
  unfold list
  rw [(sortN_perm _).mem_iff]
  unfold names
  simp

/-! ## What is left -/
theorem split_perm {α : Type} (f : α → Nat) : ∀ (N : Nat) (r : List α), ((List.range N).flatMap fun n => r.filter (fun p => decide (f p = n))).Perm (r.filter (fun p => decide (f p < N)))
  | 0, r => by
    have : r.filter (fun p => decide (f p < 0)) = [] := List.filter_eq_nil_iff.2 (fun p _ => by simp)
    rw [this]; exact List.Perm.refl _
  | N + 1, r => by
    rw [List.range_succ, List.flatMap_append]
    have h1 := split_perm f N r
    have h2 : (r.filter (fun p => decide (f p < N)) ++ r.filter (fun p => decide (f p = N))).Perm (r.filter (fun p => decide (f p < N + 1))) := by
      clear h1
      induction r with
      | nil => exact List.Perm.refl _
      | cons p r ih =>
        by_cases a : f p < N
        · rw [List.filter_cons_of_pos (by simpa using a), List.filter_cons_of_neg (by simp; omega), List.filter_cons_of_pos (by simp; omega)]
          exact ih.cons p
        · by_cases b : f p = N
          · rw [List.filter_cons_of_neg (by simpa using a), List.filter_cons_of_pos (by simpa using b), List.filter_cons_of_pos (by simp; omega)]
            exact List.perm_middle.trans (ih.cons p)
          · rw [List.filter_cons_of_neg (by simpa using a), List.filter_cons_of_neg (by simpa using b), List.filter_cons_of_neg (by simp; omega)]
            exact ih
    simp only [List.flatMap_cons, List.flatMap_nil, List.append_nil]
    exact (h1.append_right _).trans h2
theorem row_perm {N : Nat} {r : Row} (h : ∀ p ∈ r, p.2 < N) : ((List.range N).flatMap fun n => r.filter (fun p => decide (p.2 = n))).Perm r := by
  have h1 := split_perm (fun p : ByteArray × Nat => p.2) N r
  rwa [List.filter_eq_self.2 (fun p hp => by simpa using h p hp)] at h1
theorem rowAt_mem {d : Dk} (h : Ok d) (k : Int) : rowAt d k ∈ d.dirs := by
  unfold rowAt
  have hl : 0 < d.dirs.length := List.length_pos_iff.2 h.some
  rw [List.getD_eq_getElem?_getD, List.getElem?_eq_getElem (by omega)]
  exact List.getElem_mem _
/-- Each name of that row, with what its file is. -/
theorem picks_perm {d : Dk} (h : Ok d) (k : Int) (ks : List Int) : (picks d k ks).Perm ((rowAt d k).map (fun p => (p.1, momAt d ks p.2))) := by
  have hr := h.rows _ (rowAt_mem h k)
  have h1 := (row_perm (fun p hp => (hr.1 p hp).2)).map (fun p => (p.1, momAt d ks p.2))
  refine List.Perm.trans (List.Perm.of_eq ?_) h1
  unfold picks
  rw [List.map_flatMap]
  congr 1
  funext n
  refine List.map_congr_left fun p hp => ?_
  have := of_decide_eq_true (List.mem_filter.1 hp).2
  rw [this]
theorem numbered_names : ∀ (i : Nat) (l : List (ByteArray × By)), names (numbered i l) = l.map (·.1)
  | _, [] => rfl
  | i, p :: r => by simp only [numbered, names, List.map_cons]; rw [← numbered_names (i + 1) r]; rfl
theorem numbered_at : ∀ (i : Nat) (l : List (ByteArray × By)) (j : Nat) (h : j < l.length), (numbered i l)[j]? = some (l[j].1, i + j)
  | i, p :: r, 0, _ => rfl
  | i, p :: r, j + 1, h => by
    simp only [numbered, List.getElem?_cons_succ, List.getElem_cons_succ]
    rw [numbered_at (i + 1) r j (by simpa using h), show i + 1 + j = i + (j + 1) by omega]
theorem numbered_len : ∀ (i : Nat) (l : List (ByteArray × By)), (numbered i l).length = l.length
  | _, [] => rfl
  | i, p :: r => by simp [numbered, numbered_len (i + 1) r]
theorem numbered_mem {l : List (ByteArray × By)} {q : ByteArray × Nat} {i : Nat} (h : q ∈ numbered i l) : ∃ j, ∃ hj : j < l.length, q = (l[j].1, i + j) := by
  obtain ⟨j, hj, e⟩ := List.getElem_of_mem h
  rw [numbered_len] at hj
  have := numbered_at i l j hj
  rw [List.getElem?_eq_getElem (by rw [numbered_len]; exact hj)] at this
  exact ⟨j, hj, by rw [← e]; exact Option.some.inj this⟩
theorem numbered_idx (i : Nat) (l : List (ByteArray × By)) : (numbered i l).Pairwise (fun p q => p.2 ≠ q.2) := by
  induction l generalizing i with
  | nil => exact List.Pairwise.nil
  | cons p r ih =>
    refine List.pairwise_cons.2 ⟨fun q hq => ?_, ih (i + 1)⟩
    obtain ⟨j, _, rfl⟩ := numbered_mem hq
    simp only; omega

theorem picks_names {d : Dk} (h : Ok d) (k : Int) (ks : List Int) : ((picks d k ks).map (·.1)).Perm (names (rowAt d k)) := by
  have := (picks_perm h k ks).map (·.1)
  rw [List.map_map] at this
  exact this
theorem picks_ne {d : Dk} (h : Ok d) (k : Int) (ks : List Int) : ((picks d k ks).map (·.1)).Pairwise (fun a b => a ≠ b) :=
  (picks_names h k ks).symm.pairwise (names_ne (h.rows _ (rowAt_mem h k)).2.1) (fun h e => h e.symm)
theorem crash_dir (k : Int) (ks : List Int) (d : Dk) : dir (crash k ks d) = numbered 0 (picks d k ks) := rfl
theorem crash_ok {d : Dk} (h : Ok d) (k : Int) (ks : List Int) : Ok (crash k ks d) := by
  refine ⟨fun r hr => ?_, by simp [crash], fun x hx => ?_, by simp [crash]⟩
  · simp only [crash, List.mem_singleton] at hr
    subst hr
    refine ⟨fun q hq => ?_, ?_, numbered_idx _ _⟩
    · obtain ⟨j, hj, rfl⟩ := numbered_mem hq
      refine ⟨?_, by simp only [crash, List.length_map]; omega⟩
      have hm : (picks d k ks)[j].1 ∈ names (rowAt d k) := (picks_names h k ks).mem_iff.1 (List.mem_map_of_mem (List.getElem_mem hj))
      obtain ⟨p, hp, e⟩ := List.mem_map.1 hm
      rw [← e]
      exact ((h.rows _ (rowAt_mem h k)).1 p hp).1
    · have := picks_ne h k ks
      rw [← numbered_names 0, names, List.pairwise_map] at this
      exact this
  · simp only [crash, List.mem_map] at hx
    obtain ⟨p, _, rfl⟩ := hx
    simp
theorem crash_hist {d : Dk} {k : Int} {ks : List Int} {j : Nat} (hj : j < (picks d k ks).length) : hist (crash k ks d) j = [(picks d k ks)[j].2] := by
  unfold hist crash
  simp [List.getD_eq_getElem?_getD, List.getElem?_map, List.getElem?_eq_getElem hj]
theorem crash_now {d : Dk} {k : Int} {ks : List Int} {j : Nat} (hj : j < (picks d k ks).length) : now (crash k ks d) j = (picks d k ks)[j].2 := by
  unfold now; rw [crash_hist hj]; rfl
/-- What a name has then. -/
theorem crash_read {d : Dk} (h : Ok d) (k : Int) (ks : List Int) {n : ByteArray} {f : Nat} (hn : (n, f) ∈ rowAt d k) : read n (crash k ks d) = (momAt d ks f, 0) := by
  have hm : (n, momAt d ks f) ∈ picks d k ks := (picks_perm h k ks).mem_iff.2 (List.mem_map.2 ⟨(n, f), hn, rfl⟩)
  obtain ⟨j, hj, e⟩ := List.getElem_of_mem hm
  have h1 : (n, j) ∈ dir (crash k ks d) := by
    rw [crash_dir]
    have := numbered_at 0 (picks d k ks) j hj
    rw [e, Nat.zero_add] at this
    exact List.mem_of_getElem? this
  have h2 := find_mem (crash_ok h k ks).row.2.1 h1
  unfold read
  rw [if_neg (by simp [crash]), h2]
  simp only
  rw [crash_now hj, e]
theorem crash_none {d : Dk} (h : Ok d) (k : Int) (ks : List Int) {n : ByteArray} (hn : ∀ p ∈ rowAt d k, p.1 ≠ n) : read n (crash k ks d) = ([], 5) := by
  have h2 : find (dir (crash k ks d)) n = none := by
    refine find_none.2 fun p hp e => ?_
    rw [crash_dir] at hp
    obtain ⟨j, hj, rfl⟩ := numbered_mem hp
    have hm := (picks_names h k ks).mem_iff.1 (List.mem_map_of_mem (List.getElem_mem hj))
    obtain ⟨q, hq, e'⟩ := List.mem_map.1 hm
    exact hn q hq (e'.trans e)
  unfold read
  rw [if_neg (by simp [crash]), h2]
theorem crash_list {d : Dk} (h : Ok d) (k : Int) (ks : List Int) : list (crash k ks d) = sortN (names (rowAt d k)) := by
  unfold list
  rw [crash_dir, numbered_names]
  exact sortN_eq (picks_ne h k ks) (picks_names h k ks)
theorem numbered_sum (g : Nat → Nat) (l : List (ByteArray × By)) : ∀ (i : Nat), (∀ j (hj : j < l.length), g (i + j) = l[j].2.length) → ((numbered i l).map (fun p => g p.2)).sum = (l.map (fun p => p.2.length)).sum := by
  induction l with
  | nil => exact fun _ _ => rfl
  | cons p r ih =>
    intro i h
    simp only [numbered, List.map_cons, List.sum_cons]
    have h0 := h 0 (by simp)
    rw [Nat.add_zero] at h0
    simp only [List.getElem_cons_zero] at h0
    rw [h0, ih (i + 1) (fun j hj => by have := h (j + 1) (by simpa using hj); rw [show i + 1 + j = i + (j + 1) by omega]; simpa using this)]
theorem crash_used {d : Dk} (h : Ok d) (k : Int) (ks : List Int) : used (crash k ks d) = ((rowAt d k).map (fun p => (momAt d ks p.2).length)).sum := by
  unfold used
  rw [crash_dir, numbered_sum (fun j => (now (crash k ks d) j).length) _ 0 (fun j hj => by rw [Nat.zero_add, crash_now hj])]
  have := ((picks_perm h k ks).map (fun p => p.2.length)).sum_nat
  rw [this, List.map_map]
  rfl
/-- A second time nothing more is lost. -/
theorem filter_numbered : ∀ (i : Nat) (l : List (ByteArray × By)) (j : Nat) (h : j < l.length), (numbered i l).filter (fun p => decide (p.2 = i + j)) = [(l[j].1, i + j)]
  | i, p :: r, 0, _ => by
    simp only [numbered, Nat.add_zero, List.getElem_cons_zero]
    rw [List.filter_cons_of_pos (by simp), List.filter_eq_nil_iff.2 ?_]
    intro q hq
    obtain ⟨j, _, rfl⟩ := numbered_mem hq
    simp; omega
  | i, p :: r, j + 1, h => by
    simp only [numbered, List.getElem_cons_succ]
    rw [List.filter_cons_of_neg (by simp)]
    have := filter_numbered (i + 1) r j (by simpa using h)
    rw [show i + 1 + j = i + (j + 1) by omega] at this
    exact this
theorem range_map_get {α : Type} (l : List α) (g : Nat → List α) (h : ∀ j (hj : j < l.length), g j = [l[j]]) : (List.range l.length).flatMap g = l := by
  have : (List.range l.length).flatMap g = (List.range l.length).flatMap (fun j => match l[j]? with | some x => [x] | none => []) := by
    have hc : ∀ j ∈ List.range l.length, g j = (match l[j]? with | some x => [x] | none => []) := fun j hj => by
      rw [List.mem_range] at hj
      rw [h j hj, List.getElem?_eq_getElem hj]
    rw [List.flatMap_def, List.flatMap_def, List.map_congr_left hc]
  rw [this]
  clear this h g
  induction l with
  | nil => rfl
  | cons x r ih =>
    rw [List.length_cons, List.range_succ_eq_map, List.flatMap_cons, List.flatMap_map]
    simp only [List.getElem?_cons_zero, List.getElem?_cons_succ, List.cons_append, List.nil_append]
    rw [ih]
theorem crash_crash (j : Int) (js : List Int) (k : Int) (ks : List Int) (d : Dk) : crash j js (crash k ks d) = crash k ks d := by
  have hp : picks (crash k ks d) j js = picks d k ks := by
    unfold picks
    have hl : (crash k ks d).files.length = (picks d k ks).length := by simp [crash]
    rw [hl]
    refine range_map_get (picks d k ks) _ fun n hn => ?_
    have hr : rowAt (crash k ks d) j = numbered 0 (picks d k ks) := by
      unfold rowAt
      have : (min j (((crash k ks d).dirs.length : Int) - 1)).toNat = 0 := by simp only [crash, List.length_singleton]; omega
      rw [this]; rfl
    rw [hr]
    have := filter_numbered 0 (picks d k ks) n hn
    rw [Nat.zero_add] at this
    rw [this]
    have hm : momAt (crash k ks d) js n = (picks d k ks)[n].2 := by
      unfold momAt
      rw [crash_hist hn]
      split
      · have : (min (js.getD n 0) (([(picks d k ks)[n].2].length : Int) - 1)).toNat = 0 := by simp only [List.length_singleton]; omega
        rw [this]; rfl
      · rfl
    simp [hm]
  show Dk.mk _ _ _ _ _ _ = Dk.mk _ _ _ _ _ _
  rw [hp]
  rfl


/-! ## What fits -/
theorem sum_le {α : Type} (l : List α) (g h : α → Nat) (k : ∀ x ∈ l, g x ≤ h x) : (l.map g).sum ≤ (l.map h).sum := by
  induction l with
  | nil => exact Nat.le_refl _
  | cons x r ih =>
    simp only [List.map_cons, List.sum_cons]
    have := ih (fun y hy => k y (List.mem_cons_of_mem _ hy))
    have := k x (List.mem_cons_self ..)
    omega
theorem sum_eq {α : Type} (l : List α) (g h : α → Nat) (k : ∀ x ∈ l, g x = h x) : (l.map g).sum = (l.map h).sum := by rw [List.map_congr_left k]
theorem sum_filter {α : Type} (l : List α) (g : α → Nat) (p : α → Bool) : ((l.filter p).map g).sum ≤ (l.map g).sum := by
  induction l with
  | nil => exact Nat.le_refl _
  | cons x r ih =>
    by_cases h : p x = true
    · rw [List.filter_cons_of_pos h]; simp only [List.map_cons, List.sum_cons]; omega
    · rw [List.filter_cons_of_neg h]; simp only [List.map_cons, List.sum_cons]; omega
theorem sum_change {r : Row} (hr : r.Pairwise (fun p q => p.2 ≠ q.2)) {g h : Nat → Nat} {f : Nat} (k : ∀ i, i ≠ f → h i = g i) {n : ByteArray} (hm : (n, f) ∈ r) : (r.map (fun p => h p.2)).sum + g f = (r.map (fun p => g p.2)).sum + h f := by
  induction r with
  | nil => simp at hm
  | cons p r ih =>
    obtain ⟨h1, h2⟩ := List.pairwise_cons.1 hr
    simp only [List.map_cons, List.sum_cons]
    rcases List.mem_cons.1 hm with e | hm
    · subst e
      rw [sum_eq r (fun p => h p.2) (fun p => g p.2) (fun q hq => k q.2 (fun e => h1 q hq e.symm))]
      simp only; omega
    · have := ih h2 hm
      rw [k p.2 (h1 _ hm)]
      omega
theorem without_sum {r : Row} {g : ByteArray × Nat → Nat} {n : ByteArray} {f : Nat} (hm : (n, f) ∈ r) : ((without r n).map g).sum + g (n, f) ≤ (r.map g).sum := by
  induction r with
  | nil => simp at hm
  | cons p r ih =>
    unfold without at *
    simp only [List.map_cons, List.sum_cons]
    rcases List.mem_cons.1 hm with e | hm
    · subst e
      rw [List.filter_cons_of_neg (by simp)]
      have := sum_filter r g (fun p => decide (p.1 ≠ n))
      omega
    · have := ih hm
      by_cases h : p.1 = n
      · rw [List.filter_cons_of_neg (by simpa using h)]; omega
      · rw [List.filter_cons_of_pos (by simpa using h)]
        simp only [List.map_cons, List.sum_cons]; omega
theorem now_set (d : Dk) {f : Nat} (hf : f < d.files.length) (l : List By) (k : Nat) (i : Nat) : now { d with fail := k, files := d.files.set f l } i = if i = f then l.getLastD [] else now d i := by
  unfold now
  show ((d.files.set f l).getD i []).getLastD [] = _
  rw [hist_set d hf]
  split <;> rfl
theorem used_set {d : Dk} (h : Ok d) {n : ByteArray} {f : Nat} (hf : find (dir d) n = some f) (l : List By) (k : Nat) : used { d with fail := k, files := d.files.set f l } + (now d f).length = used d + (l.getLastD []).length := by
  unfold used
  show ((dir d).map _).sum + _ = _
  have := sum_change h.row.2.2 (g := fun i => (now d i).length) (h := fun i => (now { d with fail := k, files := d.files.set f l } i).length) (f := f) (fun i hi => by rw [now_set d (find_lt h hf), if_neg hi]) (find_some hf)
  rw [now_set d (find_lt h hf) l k f, if_pos rfl] at this
  exact this
theorem fronts_last (h : List By) (b s : By) (hb : h.getLastD [] = b) : (h ++ fronts b s).getLastD [] = b ++ s := by
  rw [List.getLastD_eq_getLast?, List.getLast?_append]
  cases s with
  | nil => simp only [fronts, List.length_nil, List.range_zero, List.map_nil, List.getLast?_nil, Option.none_or, List.append_nil]; rw [← hb, List.getLastD_eq_getLast?]
  | cons x r =>
    have : (fronts b (x :: r)).getLast? = some (b ++ (x :: r)) := by
      unfold fronts
      rw [List.length_cons, List.range_succ, List.map_append, List.map_singleton, List.getLast?_concat]
      simp
    rw [this]; rfl
theorem take_last (h : List By) (c : By) : (h ++ [c]).getLastD [] = c := by simp [List.getLastD_eq_getLast?]
theorem now_on (d : Dk) (f : Nat) : now (on d) f = now d f := rfl
theorem used_on (d : Dk) : used (on d) = used d := rfl
theorem on_ok {d : Dk} (h : Ok d) : Ok (on d) := act_ok (f := fun d => (d, 0)) (d := d) h (fun _ h => h) |> fun k => by
  unfold act at k
  split at k
  · rename_i e
    refine ⟨h.rows, h.some, h.hists, ?_⟩
    unfold on; simp only; rw [e]; simp
  · exact k
def Fits (d : Dk) : Prop := used d ≤ d.room
theorem act_fits {d : Dk} {f : Dk → Dk × Int} (hk : Ok d) (h : Fits d) (hf : ∀ d, Ok d → Fits d → Fits (f d).1) : Fits (act d f).1 := by
  unfold act
  split
  · exact h
  · exact hf _ (on_ok hk) h
theorem row_fits {d : Dk} (h : Fits d) (r : Row) (hr : (r.map (fun p => (now d p.2).length)).sum ≤ used d) : Fits { d with dirs := d.dirs ++ [r] } := by
  unfold Fits used
  rw [dir_snoc d d.dirs r]
  exact Nat.le_trans hr h
theorem create_fits (n : ByteArray) {d : Dk} (hk : Ok d) (h : Fits d) : Fits (create n d).1 := by
  refine act_fits hk h fun d hk h => ?_
  unfold createB
  split
  · exact h
  · split
    · exact h
    · show used _ ≤ d.room
      unfold used
      rw [dir_snoc { d with files := d.files ++ [[[]]] } d.dirs _, List.map_append, List.sum_append]
      have h1 : ((without (dir d) n).map (fun p => (now { d with files := d.files ++ [[[]]], dirs := d.dirs ++ [without (dir d) n ++ [(n, d.files.length)]] } p.2).length)).sum ≤ used d := by
        refine Nat.le_trans (Nat.le_of_eq (sum_eq _ _ (fun p => (now d p.2).length) fun p hp => ?_)) (sum_filter _ _ _)
        have := (hk.row.1 p (without_sub hp)).2
        unfold now hist
        simp only
        rw [List.getD_eq_getElem?_getD, List.getElem?_append_left this, ← List.getD_eq_getElem?_getD]
      have h2 : now { d with files := d.files ++ [[[]]], dirs := d.dirs ++ [without (dir d) n ++ [(n, d.files.length)]] } d.files.length = [] := by
        unfold now hist
        simp [List.getD_eq_getElem?_getD]
      simp only [List.map_cons, List.map_nil, List.sum_cons, List.sum_nil, h2, List.length_nil]
      unfold Fits at h
      omega
theorem append_fits (n : ByteArray) (s : By) {d : Dk} (hk : Ok d) (h : Fits d) : Fits (append n s d).1 := by
  refine act_fits hk h fun d hk h => ?_
  unfold appendB
  split
  · exact h
  · rename_i f hf
    split
    · exact h
    · rename_i hr
      split
      · exact h
      · have := used_set hk hf (hist d f ++ fronts (now d f) s) (d.fail - 1)
        rw [fronts_last (hist d f) (now d f) s rfl, List.length_append] at this
        show used { d with fail := d.fail - 1, files := d.files.set f (hist d f ++ fronts (now d f) s) } ≤ d.room
        omega
theorem cut_fits (n : ByteArray) (to : Int) {d : Dk} (hk : Ok d) (h : Fits d) : Fits (cut n to d).1 := by
  refine act_fits hk h fun d hk h => ?_
  unfold cutB
  split
  · exact h
  · rename_i f hf
    split
    · exact h
    · have := used_set hk hf (hist d f ++ [(now d f).take to.toNat]) d.fail
      rw [take_last, List.length_take] at this
      unfold Fits at h
      show used { d with fail := d.fail, files := d.files.set f (hist d f ++ [(now d f).take to.toNat]) } ≤ d.room
      omega
theorem sync_fits (n : ByteArray) {d : Dk} (hk : Ok d) (h : Fits d) : Fits (sync n d).1 := by
  refine act_fits hk h fun d hk h => ?_
  unfold syncB
  split
  · exact h
  · rename_i f hf
    split
    · exact h
    · have := used_set hk hf [now d f] (d.fail - 1)
      unfold Fits at h
      show used { d with fail := d.fail - 1, files := d.files.set f [now d f] } ≤ d.room
      simp only [List.getLastD_cons, List.getLastD_nil] at this
      omega
theorem rename_fits (n m : ByteArray) {d : Dk} (hk : Ok d) (h : Fits d) : Fits (rename n m d).1 := by
  refine act_fits hk h fun d hk h => ?_
  unfold renameB
  split
  · exact h
  · rename_i f hf
    split
    · exact h
    · refine row_fits h _ ?_
      rw [List.map_append, List.sum_append]
      simp only [List.map_cons, List.map_nil, List.sum_cons, List.sum_nil]
      have h1 : ((without (without (dir d) n) m).map (fun p => (now d p.2).length)).sum ≤ ((without (dir d) n).map (fun p => (now d p.2).length)).sum := sum_filter _ _ _
      have h2 := without_sum (g := fun p => (now d p.2).length) (find_some hf)
      unfold used
      simp only at h2
      omega
theorem remove_fits (n : ByteArray) {d : Dk} (hk : Ok d) (h : Fits d) : Fits (remove n d).1 := by
  refine act_fits hk h fun d hk h => ?_
  unfold removeB
  split
  · exact h
  · exact row_fits h _ (sum_filter _ _ _)
theorem syncDir_fits {d : Dk} (hk : Ok d) (h : Fits d) : Fits (syncDir d).1 := by
  refine act_fits hk h fun d hk h => ?_
  unfold syncDirB
  exact h

end Go.Proofs.YtleomppgkikhnaaGreat.Dsk
namespace Go.Proofs.YtleomppgkikhnaaGreat.Dsk
open Go.Proofs.YtleomppgkikhnaaGreat

abbrev Ct := Nat × By
structure Fl where
  text : By
  cuts : List Ct
  grown : Nat

/-! ## A file's moments, found backwards -/
def segs (t : By) (g : Nat) : List By := (List.range (g + 1)).map (fun i => t.take (t.length - g + i))
def histR : List Ct → By → Nat → List By
  | [], t, g => segs t g
  | c :: r, t, g => histR r (t.take (t.length - g) ++ c.2) c.1 ++ segs t g
def wfR : List Ct → By → Nat → Prop
  | [], t, g => g ≤ t.length
  | c :: r, t, g => g ≤ t.length ∧ wfR r (t.take (t.length - g) ++ c.2) c.1
def momR : List Ct → Nat → Nat
  | [], g => g
  | c :: r, g => momR r c.1 + g + 1
def behindR : List Ct → By → Nat → Nat → By
  | [], t, _, back => t.take (t.length - back)
  | c :: r, t, g, back => if back ≤ g then t.take (t.length - back) else behindR r (t.take (t.length - g) ++ c.2) c.1 (back - (g + 1))
def moms (f : Fl) : Nat := f.grown + (f.cuts.map (fun c => c.1 + 1)).sum
structure FRel (f : Fl) (h : List By) : Prop where
  wf : wfR f.cuts.reverse f.text f.grown
  eq : h = histR f.cuts.reverse f.text f.grown

theorem segs_len (t : By) (g : Nat) : (segs t g).length = g + 1 := by simp [segs]
theorem segs_at (t : By) {g i : Nat} (h : i ≤ g) : (segs t g).getD i [] = t.take (t.length - g + i) := by
  unfold segs
  rw [List.getD_eq_getElem?_getD, List.getElem?_map, List.getElem?_range (by omega)]
  rfl
theorem segs_last (t : By) (g : Nat) : (segs t g).getLast? = some t := by
  unfold segs
  rw [List.range_succ, List.map_append, List.map_singleton, List.getLast?_concat, List.take_of_length_le (by omega)]
theorem segs_zero (t : By) : segs t 0 = [t] := by simp [segs]
theorem segs_grow (t s : By) {g : Nat} (h : g ≤ t.length) : segs (t ++ s) (g + s.length) = segs t g ++ fronts t s := by
  unfold segs fronts
  rw [show g + s.length + 1 = (g + 1) + s.length by omega, List.range_add, List.map_append, List.map_map]
  congr 1
  · refine List.map_congr_left fun i hi => ?_
    rw [List.mem_range] at hi
    rw [List.length_append, show t.length + s.length - (g + s.length) + i = t.length - g + i by omega, List.take_append_of_le_length (by omega)]
  · refine List.map_congr_left fun i hi => ?_
    simp only [Function.comp]
    rw [List.length_append, show t.length + s.length - (g + s.length) + (g + 1 + i) = t.length + (i + 1) by omega, List.take_append, List.take_of_length_le (l := t) (by omega), show t.length + (i + 1) - t.length = i + 1 by omega]
theorem wfR_g : ∀ {r : List Ct} {t : By} {g : Nat}, wfR r t g → g ≤ t.length
  | [], _, _, h => h
  | _ :: _, _, _, h => h.1
theorem histR_len : ∀ (r : List Ct) (t : By) (g : Nat), (histR r t g).length = momR r g + 1
  | [], t, g => segs_len t g
  | c :: r, t, g => by simp only [histR, List.length_append, histR_len r, segs_len, momR]; omega
theorem histR_last (r : List Ct) (t : By) (g : Nat) : (histR r t g).getLast? = some t := by
  cases r with
  | nil => exact segs_last t g
  | cons c r => simp only [histR, List.getLast?_append, segs_last, Option.some_or]
theorem momR_eq : ∀ (r : List Ct) (g : Nat), momR r g = g + (r.map (fun c => c.1 + 1)).sum
  | [], g => by simp [momR]
  | c :: r, g => by simp only [momR, List.map_cons, List.sum_cons, momR_eq r]; omega
theorem moms_eq (f : Fl) : momR f.cuts.reverse f.grown = moms f := by
  rw [momR_eq, moms, List.map_reverse]
  congr 1
  exact (List.reverse_perm _).sum_nat
theorem histR_grow (s : By) : ∀ (r : List Ct) (t : By) (g : Nat), wfR r t g → wfR r (t ++ s) (g + s.length) ∧ histR r (t ++ s) (g + s.length) = histR r t g ++ fronts t s
  | [], t, g, h => ⟨by show _ ≤ _; rw [List.length_append]; exact Nat.add_le_add_right h _, segs_grow t s h⟩
  | c :: r, t, g, h => by
    have e : (t ++ s).take ((t ++ s).length - (g + s.length)) = t.take (t.length - g) := by
      rw [List.length_append, show t.length + s.length - (g + s.length) = t.length - g by omega, List.take_append_of_le_length (by omega)]
    refine ⟨⟨by rw [List.length_append]; have := h.1; omega, by rw [e]; exact h.2⟩, ?_⟩
    simp only [histR]
    rw [e, segs_grow t s h.1, List.append_assoc]
theorem FRel.grow {f : Fl} {h : List By} (k : FRel f h) (s : By) : FRel { f with text := f.text ++ s, grown := f.grown + s.length } (h ++ fronts f.text s) := by
  obtain ⟨a, b⟩ := histR_grow s _ _ _ k.wf
  exact ⟨a, by rw [k.eq]; exact b.symm⟩
theorem FRel.cut {f : Fl} {h : List By} (k : FRel f h) (n : Nat) : FRel { text := f.text.take n, cuts := f.cuts ++ [(f.grown, f.text.drop n)], grown := 0 } (h ++ [f.text.take n]) := by
  have e : (f.text.take n).take ((f.text.take n).length - 0) ++ f.text.drop n = f.text := by
    rw [Nat.sub_zero, List.take_length, List.take_append_drop]
  refine ⟨?_, ?_⟩
  · show wfR (f.cuts ++ [_]).reverse _ 0
    rw [List.reverse_append]
    simp only [List.reverse_singleton, List.singleton_append]
    refine ⟨Nat.zero_le _, ?_⟩
    rw [e]; exact k.wf
  · show _ = histR (f.cuts ++ [_]).reverse _ 0
    rw [List.reverse_append]
    simp only [List.reverse_singleton, List.singleton_append, histR]
    rw [e, segs_zero, k.eq]
theorem FRel.sync {f : Fl} (t : By) (e : t = f.text) : FRel { f with cuts := [], grown := 0 } [t] := by
  subst e
  exact ⟨Nat.zero_le _, (segs_zero _).symm⟩
theorem FRel.new : FRel ⟨[], [], 0⟩ [[]] := ⟨Nat.zero_le _, (segs_zero _).symm⟩
theorem FRel.one (t : By) : FRel ⟨t, [], 0⟩ [t] := ⟨Nat.zero_le _, (segs_zero _).symm⟩
theorem FRel.last {f : Fl} {h : List By} (k : FRel f h) : h.getLastD [] = f.text := by
  rw [k.eq, List.getLastD_eq_getLast?, histR_last]; rfl
theorem FRel.len {f : Fl} {h : List By} (k : FRel f h) : h.length = moms f + 1 := by rw [k.eq, histR_len, moms_eq]
theorem behindR_eq : ∀ (r : List Ct) (t : By) (g back : Nat), wfR r t g → back ≤ momR r g → behindR r t g back = (histR r t g).getD (momR r g - back) []
  | [], t, g, back, h, hb => by
    simp only [wfR] at h
    simp only [momR] at hb
    simp only [behindR, histR, momR]
    rw [segs_at t (by omega)]
    congr 1; omega
  | c :: r, t, g, back, h, hb => by
    simp only [momR] at hb
    have hl := histR_len r (t.take (t.length - g) ++ c.2) c.1
    have hg := h.1
    simp only [behindR, histR, momR]
    rw [List.getD_eq_getElem?_getD]
    split
    · rename_i hk
      rw [List.getElem?_append_right (by rw [hl]; omega), hl, ← List.getD_eq_getElem?_getD, show momR r c.1 + g + 1 - back - (momR r c.1 + 1) = g - back by omega, segs_at t (by omega)]
      congr 1; omega
    · rename_i hk
      rw [List.getElem?_append_left (by rw [hl]; omega), ← List.getD_eq_getElem?_getD, behindR_eq r _ _ _ h.2 (by omega), show momR r c.1 + g + 1 - back = momR r c.1 - (back - (g + 1)) by omega]
/-- What the file had behind so many moments. -/
def behind (f : Fl) (k : Nat) : By := behindR f.cuts.reverse f.text f.grown (moms f - k)
theorem FRel.behind {f : Fl} {h : List By} (r : FRel f h) {k : Nat} (hk : k ≤ moms f) : Dsk.behind f k = h.getD k [] := by
  unfold Dsk.behind
  rw [behindR_eq _ _ _ _ r.wf (by rw [moms_eq]; omega), moms_eq, r.eq]
  congr 1; omega
theorem histR_mem (r : List Ct) (t : By) (g : Nat) : t ∈ histR r t g := List.mem_of_getLast? (histR_last r t g)
/-! ## Names, found backwards -/
abbrev Nm := ByteArray → Option Nat
abbrev Hold := ByteArray × Option Nat
def putN (h : Hold) (f : Nm) : Nm := fun m => if m = h.1 then h.2 else f m
def undo (c : List Hold) (f : Nm) : Nm := c.foldr putN f
def undoAll (cs : List (List Hold)) (f : Nm) : Nm := cs.foldr undo f
structure NRel (f : Nm) (cs : List (List Hold)) (ds : List Row) : Prop where
  len : ds.length = cs.length + 1
  all : ∀ k, k ≤ cs.length → ∀ n, undoAll (cs.drop k) f n = find (ds.getD k []) n
def chg : List Hold → List Hold → Nm → List Hold × Nm
  | [], c, f => (c, f)
  | h :: r, c, f => chg r (c ++ [(h.1, f h.1)]) (putN h f)
theorem put_back (h : Hold) (f : Nm) : putN (h.1, f h.1) (putN h f) = f := by
  funext m
  unfold putN
  simp only
  split
  · rename_i e; rw [e]
  · rfl
theorem chg_undo : ∀ (now c : List Hold) (f : Nm), undo (chg now c f).1 (chg now c f).2 = undo c f
  | [], _, _ => rfl
  | h :: r, c, f => by
    rw [chg, chg_undo r]
    unfold undo
    rw [List.foldr_append, List.foldr_cons, List.foldr_nil, put_back]
theorem NRel.now {f : Nm} {cs : List (List Hold)} {d : Dk} (h : NRel f cs d.dirs) (n : ByteArray) : f n = find (dir d) n := by
  have := h.all cs.length (Nat.le_refl _) n
  rw [List.drop_length] at this
  refine Eq.trans this ?_
  congr 1
  unfold dir
  rw [List.getLastD_eq_getLast?, List.getLast?_eq_getElem?, List.getD_eq_getElem?_getD, h.len]
  rfl
theorem NRel.add {f f' : Nm} {cs : List (List Hold)} {ds : List Row} (h : NRel f cs ds) {c : List Hold} {row : Row} (hu : undo c f' = f) (hr : ∀ n, f' n = find row n) : NRel f' (cs ++ [c]) (ds ++ [row]) := by
  refine ⟨by simp only [List.length_append, List.length_singleton, h.len], fun k hk n => ?_⟩
  by_cases e : k ≤ cs.length
  · rw [List.drop_append_of_le_length e]
    unfold undoAll
    rw [List.foldr_append, List.foldr_cons, List.foldr_nil, hu]
    refine (h.all k e n).trans ?_
    rw [List.getD_eq_getElem?_getD, List.getD_eq_getElem?_getD, List.getElem?_append_left (by rw [h.len]; omega)]
  · rw [List.length_append, List.length_singleton] at hk
    have hk : k = cs.length + 1 := by omega
    subst hk
    rw [List.drop_of_length_le (by simp)]
    refine (hr n).trans ?_
    rw [List.getD_eq_getElem?_getD, ← h.len, List.getElem?_concat_length]
    rfl
theorem NRel.one {f : Nm} {row : Row} (h : ∀ n, f n = find row n) : NRel f [] [row] := ⟨rfl, fun k hk n => by
  have : k = 0 := by simpa using hk
  subst this
  exact h n⟩
theorem find_without (r : Row) (n m : ByteArray) : find (without r n) m = if m = n then none else find r m := by
  induction r with
  | nil => simp [without, find]
  | cons p r ih =>
    obtain ⟨x, i⟩ := p
    unfold without at ih ⊢
    by_cases e : x = n
    · rw [List.filter_cons_of_neg (by simpa using e), ih]
      subst e
      by_cases h : m = x
      · rw [if_pos h, if_pos h]
      · rw [if_neg h, if_neg h, show find ((x, i) :: r) m = (if x = m then some i else find r m) from rfl, if_neg (fun k => h k.symm)]
    · rw [List.filter_cons_of_pos (by simpa using e)]
      unfold find
      by_cases h : x = m
      · rw [if_pos h, if_pos h, if_neg (by rw [← h]; exact e)]
      · rw [if_neg h, if_neg h, ih]
theorem find_one (n : ByteArray) (i : Nat) (m : ByteArray) : find [(n, i)] m = if m = n then some i else none := by
  unfold find
  by_cases h : n = m
  · rw [if_pos h, if_pos h.symm]
  · rw [if_neg h, if_neg (fun k => h k.symm)]; rfl
theorem find_snoc (r : Row) (n : ByteArray) (i : Nat) (m : ByteArray) : find (without r n ++ [(n, i)]) m = if m = n then some i else find r m := by
  rw [find_app, find_without, find_one]
  by_cases h : m = n
  · rw [if_pos h, if_pos h, if_pos h]; rfl
  · rw [if_neg h, if_neg h, if_neg h, Option.or_none]
theorem sum_without {r : Row} (hr : r.Pairwise (fun p q => p.1 ≠ q.1)) (g : Nat → Nat) (n : ByteArray) : ((without r n).map (fun p => g p.2)).sum + (match find r n with | none => 0 | some i => g i) = (r.map (fun p => g p.2)).sum := by
  induction r with
  | nil => simp [without, find]
  | cons p r ih =>
    obtain ⟨x, i⟩ := p
    obtain ⟨h1, h2⟩ := List.pairwise_cons.1 hr
    have ih := ih h2
    unfold without at ih ⊢
    unfold find
    simp only [List.map_cons, List.sum_cons]
    by_cases e : x = n
    · rw [List.filter_cons_of_neg (by simpa using e), if_pos e]
      have : find r n = none := find_none.2 (fun p hp k => h1 p hp (e.trans k.symm))
      rw [this] at ih
      simp only at ih ⊢
      omega
    · rw [List.filter_cons_of_pos (by simpa using e), if_neg e]
      simp only [List.map_cons, List.sum_cons]
      omega

end Go.Proofs.YtleomppgkikhnaaGreat.Dsk
namespace Go.Proofs.YtleomppgkikhnaaGreat.Dsk
open Go.Proofs.YtleomppgkikhnaaGreat

structure Bud (D : Dk) (c : Nat) : Prop where
  files : D.files.length ≤ c
  dirs : D.dirs.length ≤ c + 1
  rows : ∀ r ∈ D.dirs, r.length ≤ c
  hists : ∀ h ∈ D.files, h.length ≤ c + 1
  texts : ∀ h ∈ D.files, ∀ x ∈ h, x.length ≤ c
  ops : D.ops ≤ c
theorem Bud.mono {D : Dk} {c c' : Nat} (h : Bud D c) (k : c ≤ c') : Bud D c' :=
  ⟨Nat.le_trans h.files k, by have := h.dirs; omega, fun r hr => Nat.le_trans (h.rows r hr) k, fun x hx => by have := h.hists x hx; omega, fun x hx y hy => Nat.le_trans (h.texts x hx y hy) k, Nat.le_trans h.ops k⟩
theorem bud_fresh (room : Int) : Bud (fresh room) 0 := ⟨Nat.le_refl _, Nat.le_refl _, fun r hr => by simp [fresh] at hr; subst hr; exact Nat.le_refl _, fun x hx => by simp [fresh] at hx, fun x hx => by simp [fresh] at hx, Nat.le_refl _⟩
theorem Bud.on {D : Dk} {c : Nat} (h : Bud D c) : Bud (on D) (c + 1) := by
  have := h.mono (Nat.le_succ c)
  exact ⟨this.files, this.dirs, this.rows, this.hists, this.texts, Nat.succ_le_succ h.ops⟩
theorem hist_mem {D : Dk} {i : Nat} (h : i < D.files.length) : hist D i ∈ D.files := by
  unfold hist
  rw [List.getD_eq_getElem?_getD, List.getElem?_eq_getElem h]
  exact List.getElem_mem _
theorem now_mem {D : Dk} (hk : Ok D) {i : Nat} (h : i < D.files.length) : now D i ∈ hist D i := by
  unfold now
  have := hk.hists _ (hist_mem h)
  rw [List.getLastD_eq_getLast?, List.getLast?_eq_some_getLast this]
  exact List.getLast_mem this
theorem Bud.now {D : Dk} {c : Nat} (h : Bud D c) (hk : Ok D) (i : Nat) : (Dsk.now D i).length ≤ c := by
  by_cases hi : i < D.files.length
  · exact h.texts _ (hist_mem hi) _ (now_mem hk hi)
  · unfold Dsk.now hist
    rw [List.getD_eq_getElem?_getD, List.getElem?_eq_none (by omega)]
    exact Nat.zero_le _
theorem sum_bound {α : Type} (l : List α) (g : α → Nat) (c : Nat) (h : ∀ x ∈ l, g x ≤ c) : (l.map g).sum ≤ l.length * c := by
  induction l with
  | nil => simp
  | cons x r ih =>
    simp only [List.map_cons, List.sum_cons, List.length_cons, Nat.add_mul, Nat.one_mul]
    have := ih (fun y hy => h y (List.mem_cons_of_mem _ hy))
    have := h x (List.mem_cons_self ..)
    omega
theorem Bud.used {D : Dk} {c : Nat} (h : Bud D c) (hk : Ok D) : Dsk.used D ≤ c * c :=
  Nat.le_trans (sum_bound _ _ c (fun p _ => h.now hk p.2)) (Nat.mul_le_mul_right _ (h.rows _ (dir_mem hk.some)))
theorem Bud.set {D : Dk} {c : Nat} (h : Bud D c) (f k : Nat) (l : List By) (h1 : l.length ≤ c + 1) (h2 : ∀ x ∈ l, x.length ≤ c) : Bud { D with fail := k, files := D.files.set f l } c :=
  ⟨by simp only [List.length_set]; exact h.files, h.dirs, h.rows, fun x hx => by
    rcases List.mem_or_eq_of_mem_set hx with hx | rfl
    · exact h.hists x hx
    · exact h1, fun x hx => by
    rcases List.mem_or_eq_of_mem_set hx with hx | rfl
    · exact h.texts x hx
    · exact h2, h.ops⟩
theorem Bud.row {D : Dk} {c : Nat} (h : Bud D c) (r : Row) (h1 : D.dirs.length ≤ c) (h2 : r.length ≤ c) : Bud { D with dirs := D.dirs ++ [r] } c :=
  ⟨h.files, by simp only [List.length_append, List.length_singleton]; omega, fun x hx => by
    rcases List.mem_append.1 hx with hx | hx
    · exact h.rows x hx
    · simp at hx; subst hx; exact h2, h.hists, h.texts, h.ops⟩
theorem fronts_mem {b s x : By} (h : x ∈ fronts b s) : x.length ≤ b.length + s.length := by
  unfold fronts at h
  obtain ⟨i, _, rfl⟩ := List.mem_map.1 h
  rw [List.length_append, List.length_take]
  omega
theorem fronts_len (b s : By) : (fronts b s).length = s.length := by simp [fronts]
theorem without_len (r : Row) (n : ByteArray) : (without r n).length ≤ r.length := List.length_filter_le _ _

/-- A disk behind one operation. -/
theorem bud_act {D : Dk} {f : Dk → Dk × Int} {c c' : Nat} (h : Bud D c) (hc : c ≤ c') (hf : Bud (on D) (c + 1) → Bud (f (on D)).1 c') : Bud (act D f).1 c' := by
  unfold act
  split
  · exact h.mono hc
  · exact hf h.on
theorem bud_createB {D : Dk} {c : Nat} (n : ByteArray) (h : Bud D c) (h1 : D.dirs.length ≤ c) (h2 : D.files.length + 1 ≤ c) (h3 : (dir D).length + 1 ≤ c) : Bud (createB n D).1 c := by
  unfold createB
  split
  · exact h
  · split
    · exact h
    · refine ⟨by simp only [List.length_append, List.length_singleton]; omega, by simp only [List.length_append, List.length_singleton]; omega, fun x hx => ?_, fun x hx => ?_, fun x hx => ?_, h.ops⟩
      · rcases List.mem_append.1 hx with hx | hx
        · exact h.rows x hx
        · simp at hx; subst hx
          have := without_len (dir D) n
          rw [List.length_append, List.length_singleton]; omega
      · rcases List.mem_append.1 hx with hx | hx
        · exact h.hists x hx
        · simp at hx; subst hx; simp
      · rcases List.mem_append.1 hx with hx | hx
        · exact h.texts x hx
        · simp at hx; subst hx; simp
theorem on_room {D : Dk} {c : Nat} (h : Bud D c) (hk : Ok D) : (on D).dirs.length ≤ c + 1 ∧ (on D).files.length + 1 ≤ c + 1 ∧ (dir (on D)).length + 1 ≤ c + 1 :=
  ⟨h.dirs, Nat.succ_le_succ h.files, Nat.succ_le_succ (h.rows _ (dir_mem hk.some))⟩
theorem bud_create {D : Dk} {c : Nat} (n : ByteArray) (h : Bud D c) (hk : Ok D) : Bud (create n D).1 (c + 1) := by
  obtain ⟨a, b, d⟩ := on_room h hk
  exact bud_act h (Nat.le_succ _) (fun h' => bud_createB n h' a b d)
theorem bud_append {D : Dk} {c : Nat} (n : ByteArray) (s : By) (h : Bud D c) (hk : Ok D) : Bud (append n s D).1 (c + 1 + s.length) := by
  refine bud_act h (by omega) (fun h' => ?_)
  unfold appendB
  have h2 := h'.mono (Nat.le_add_right (c + 1) s.length)
  split
  · exact h2
  · rename_i f hf
    split
    · exact h2
    · split
      · exact ⟨h2.files, h2.dirs, h2.rows, h2.hists, h2.texts, h2.ops⟩
      · have hlt := find_lt (on_ok hk) hf
        refine h2.set f _ _ ?_ (fun x hx => ?_)
        · rw [List.length_append, fronts_len]
          have := h'.hists _ (hist_mem hlt); omega
        · rcases List.mem_append.1 hx with hx | hx
          · exact h2.texts _ (hist_mem hlt) x hx
          · have := fronts_mem hx
            have := h'.now (on_ok hk) f
            omega
theorem bud_cut {D : Dk} {c : Nat} (n : ByteArray) (to : Int) (h : Bud D c) (hk : Ok D) : Bud (cut n to D).1 (c + 1) := by
  refine bud_act h (by omega) (fun h' => ?_)
  unfold cutB
  split
  · exact h'
  · rename_i f hf
    split
    · exact h'
    · have hlt := find_lt (on_ok hk) hf
      refine h'.set f _ _ ?_ (fun x hx => ?_)
      · rw [List.length_append, List.length_singleton]
        have : (hist (on D) f).length ≤ c + 1 := h.hists _ (hist_mem (D := D) hlt)
        omega
      · rcases List.mem_append.1 hx with hx | hx
        · exact h'.texts _ (hist_mem hlt) x hx
        · simp at hx; subst hx
          have := h'.now (on_ok hk) f
          rw [List.length_take]; omega
theorem bud_sync {D : Dk} {c : Nat} (n : ByteArray) (h : Bud D c) (hk : Ok D) : Bud (sync n D).1 (c + 1) := by
  refine bud_act h (by omega) (fun h' => ?_)
  unfold syncB
  split
  · exact h'
  · rename_i f hf
    split
    · exact ⟨h'.files, h'.dirs, h'.rows, h'.hists, h'.texts, h'.ops⟩
    · exact h'.set f _ _ (by simp) (fun x hx => by simp at hx; subst hx; exact h'.now (on_ok hk) f)
theorem bud_rename {D : Dk} {c : Nat} (n m : ByteArray) (h : Bud D c) (hk : Ok D) : Bud (rename n m D).1 (c + 1) := by
  obtain ⟨a, _, d⟩ := on_room h hk
  refine bud_act h (by omega) (fun h' => ?_)
  unfold renameB
  split
  · exact h'
  · split
    · exact h'
    · refine h'.row _ a ?_
      have := without_len (without (dir (on D)) n) m
      have := without_len (dir (on D)) n
      rw [List.length_append, List.length_singleton]; omega
theorem bud_remove {D : Dk} {c : Nat} (n : ByteArray) (h : Bud D c) (hk : Ok D) : Bud (remove n D).1 (c + 1) := by
  obtain ⟨a, _, d⟩ := on_room h hk
  refine bud_act h (by omega) (fun h' => ?_)
  unfold removeB
  split
  · exact h'
  · refine h'.row _ a ?_
    have := without_len (dir (on D)) n
    omega
theorem bud_syncDir {D : Dk} {c : Nat} (h : Bud D c) (hk : Ok D) : Bud (syncDir D).1 (c + 1) := by
  refine bud_act h (by omega) (fun h' => ?_)
  unfold syncDirB
  exact ⟨h'.files, by simp only [List.length_singleton]; omega, fun r hr => by simp at hr; subst hr; exact h'.rows _ (dir_mem (on_ok hk).some), h'.hists, h'.texts, h'.ops⟩
theorem bud_setFail {D : Dk} {c : Nat} (n : Int) (h : Bud D c) : Bud (setFail n D) c := ⟨h.files, h.dirs, h.rows, h.hists, h.texts, h.ops⟩
theorem bud_setStop {D : Dk} {c : Nat} (n : Int) (h : Bud D c) : Bud (setStop n D) c := ⟨h.files, h.dirs, h.rows, h.hists, h.texts, h.ops⟩
theorem bud_crash {D : Dk} {c : Nat} (k : Int) (ks : List Int) (h : Bud D c) (hk : Ok D) : Bud (crash k ks D) c := by
  have hl : (picks D k ks).length ≤ c := by
    have := (picks_names hk k ks).length_eq
    rw [List.length_map] at this
    rw [this, names, List.length_map]
    exact h.rows _ (rowAt_mem hk k)
  refine ⟨by simp only [crash, List.length_map]; exact hl, by simp only [crash, List.length_singleton]; omega, fun r hr => ?_, fun x hx => ?_, fun x hx => ?_, Nat.zero_le _⟩
  · simp only [crash, List.mem_singleton] at hr
    subst hr
    rw [numbered_len]; exact hl
  · simp only [crash, List.mem_map] at hx
    obtain ⟨p, _, rfl⟩ := hx
    simp
  · simp only [crash, List.mem_map] at hx
    obtain ⟨p, hp, rfl⟩ := hx
    intro y hy
    simp at hy
    subst hy
    obtain ⟨q, hq, e⟩ := List.mem_map.1 ((picks_perm hk k ks).mem_iff.1 hp)
    rw [← e]
    simp only
    have hlt := ((hk.rows _ (rowAt_mem hk k)).1 q hq).2
    unfold momAt
    rw [List.getD_eq_getElem?_getD]
    generalize (if q.2 < ks.length then _ else 0) = j
    by_cases hj : j < (hist D q.2).length
    · rw [List.getElem?_eq_getElem hj]
      exact h.texts _ (hist_mem hlt) _ (List.getElem_mem _)
    · rw [List.getElem?_eq_none (by omega)]
      exact Nat.zero_le _

/-! ## How many bytes there are behind a change of names -/
def szN (D : Dk) : Option Nat → Nat
  | none => 0
  | some i => (now D i).length
theorem used_without {D : Dk} (hk : Ok D) (n : ByteArray) : ((without (dir D) n).map (fun p => (now D p.2).length)).sum + szN D (find (dir D) n) = used D := by
  have := sum_without hk.row.2.1 (fun i => (now D i).length) n
  unfold used
  rw [← this]
  cases find (dir D) n <;> rfl
theorem used_remove {D : Dk} (hk : Ok D) (n : ByteArray) : used { D with dirs := D.dirs ++ [without (dir D) n] } + szN D (find (dir D) n) = used D := by
  rw [← used_without hk n]
  unfold used
  rw [dir_snoc D D.dirs _]
  rfl
theorem used_rename {D : Dk} (hk : Ok D) (n m : ByteArray) (i : Nat) : used { D with dirs := D.dirs ++ [without (without (dir D) n) m ++ [(m, i)]] } + szN D (find (without (dir D) n) m) + szN D (find (dir D) n) = used D + szN D (some i) := by
  have h1 := used_without hk n
  have h2 : ((without (without (dir D) n) m).map (fun p => (now D p.2).length)).sum + szN D (find (without (dir D) n) m) = ((without (dir D) n).map (fun p => (now D p.2).length)).sum := by
    rw [← sum_without (hk.row.without n).2.1 (fun i => (now D i).length) m]
    cases find (without (dir D) n) m <;> rfl
  have h3 : used { D with dirs := D.dirs ++ [without (without (dir D) n) m ++ [(m, i)]] } = ((without (without (dir D) n) m).map (fun p => (now D p.2).length)).sum + (now D i).length := by
    unfold used
    rw [dir_snoc D D.dirs _, List.map_append, List.sum_append]
    simp only [List.map_cons, List.map_nil, List.sum_cons, List.sum_nil, Nat.add_zero]
    rfl
  rw [h3]
  show _ + (now D i).length + _ + _ = _ + (now D i).length
  omega
theorem used_create {D : Dk} (hk : Ok D) {n : ByteArray} (hf : find (dir D) n = none) : used { D with files := D.files ++ [[[]]], dirs := D.dirs ++ [without (dir D) n ++ [(n, D.files.length)]] } = used D := by
  have h1 := used_without hk n
  rw [hf] at h1
  simp only [szN, Nat.add_zero] at h1
  unfold used at h1 ⊢
  rw [dir_snoc { D with files := D.files ++ [[[]]] } D.dirs _, List.map_append, List.sum_append, ← h1]
  have h2 : now { D with files := D.files ++ [[[]]], dirs := D.dirs ++ [without (dir D) n ++ [(n, D.files.length)]] } D.files.length = [] := by
    unfold now hist
    simp [List.getD_eq_getElem?_getD]
  simp only [List.map_cons, List.map_nil, List.sum_cons, List.sum_nil, h2, List.length_nil, Nat.add_zero]
  refine sum_eq _ _ _ fun p hp => ?_
  have := (hk.row.1 p (without_sub hp)).2
  unfold now hist
  simp only
  rw [List.getD_eq_getElem?_getD, List.getElem?_append_left this, ← List.getD_eq_getElem?_getD]

end Go.Proofs.YtleomppgkikhnaaGreat.Dsk
namespace Go.Proofs.YtleomppgkikhnaaGreat.Dsk
open Go.Proofs.YtleomppgkikhnaaGreat

/-- Acts by their numbers, as the chapter's statements have them. -/
def does (k : Nat) (n t : ByteArray) (s : By) (N : Int) (d : Dk) : Dk × Int :=
  if k < 2 then create n d else if k < 6 then append n s d else if k = 6 then cut n N d else if k < 9 then sync n d else if k = 9 then rename n t d
  else if k = 10 then remove n d else if k < 13 then syncDir d else if k = 13 then (setFail (N.tmod 9) d, 0) else (setStop (N.tmod 50) d, 0)
theorem does_ok (k : Nat) (n t : ByteArray) (s : By) (N : Int) {d : Dk} (h : Ok d) : Ok (does k n t s N d).1 := by
  unfold does
  split
  · exact create_ok n h
  · split
    · exact append_ok n s h
    · split
      · exact cut_ok n N h
      · split
        · exact sync_ok n h
        · split
          · exact rename_ok n t h
          · split
            · exact remove_ok n h
            · split
              · exact syncDir_ok h
              · split
                · exact setFail_ok _ h
                · exact setStop_ok _ h
theorem does_fits (k : Nat) (n t : ByteArray) (s : By) (N : Int) {d : Dk} (hk : Ok d) (h : Fits d) : Fits (does k n t s N d).1 := by
  unfold does
  split
  · exact create_fits n hk h
  · split
    · exact append_fits n s hk h
    · split
      · exact cut_fits n N hk h
      · split
        · exact sync_fits n hk h
        · split
          · exact rename_fits n t hk h
          · split
            · exact remove_fits n hk h
            · split
              · exact syncDir_fits hk h
              · split
                · exact h
                · exact h
theorem fresh_fits (room : Int) : Fits (fresh room) := Nat.zero_le _
theorem act_room {d : Dk} {f : Dk → Dk × Int} (hf : ∀ d, (f d).1.room = d.room) : (act d f).1.room = d.room := by
  unfold act
  split
  · rfl
  · rw [hf]; rfl

/-! ## The power goes -/
/-- A body that sees neither the count nor the power. -/
def Blind (f : Dk → Dk × Int) : Prop := ∀ (a : Dk) (o : Nat) (l : Int), f { a with ops := o, left := l } = ({ (f a).1 with ops := o, left := l }, (f a).2)
theorem Blind.keeps {f : Dk → Dk × Int} (h : Blind f) (a : Dk) : (f a).1.ops = a.ops ∧ (f a).1.left = a.left := by
  have := h a a.ops a.left
  have e : ({ a with ops := a.ops, left := a.left } : Dk) = a := rfl
  rw [e] at this
  have h1 := congrArg (fun x => x.1.ops) this
  have h2 := congrArg (fun x => x.1.left) this
  exact ⟨h1, h2⟩
theorem blind_create (n : ByteArray) : Blind (createB n) := by
  intro a o l
  unfold createB
  show (if isName n = false then _ else match find (dir a) n with | some _ => _ | none => _) = _
  split
  · rfl
  · cases find (dir a) n <;> rfl
theorem blind_append (n : ByteArray) (s : By) : Blind (appendB n s) := by
  intro a o l
  unfold appendB
  show (match find (dir a) n with | none => _ | some f => if a.room < used a + s.length then _ else if a.fail = 1 then _ else _) = _
  cases find (dir a) n with
  | none => rfl
  | some f =>
    simp only
    split
    · rfl
    · split <;> rfl
theorem blind_cut (n : ByteArray) (to : Int) : Blind (cutB n to) := by
  intro a o l
  unfold cutB
  show (match find (dir a) n with | none => _ | some f => if to < 0 ∨ ((now a f).length : Int) < to then _ else _) = _
  cases find (dir a) n with
  | none => rfl
  | some f =>
    simp only
    split <;> rfl
theorem blind_sync (n : ByteArray) : Blind (syncB n) := by
  intro a o l
  unfold syncB
  show (match find (dir a) n with | none => _ | some f => if a.fail = 1 then _ else _) = _
  cases find (dir a) n with
  | none => rfl
  | some f =>
    simp only
    split <;> rfl
theorem blind_rename (n m : ByteArray) : Blind (renameB n m) := by
  intro a o l
  unfold renameB
  show (match find (dir a) n with | none => _ | some f => if isName m = false then _ else _) = _
  cases find (dir a) n with
  | none => rfl
  | some f =>
    simp only
    split <;> rfl
theorem blind_remove (n : ByteArray) : Blind (removeB n) := by
  intro a o l
  unfold removeB
  show (match find (dir a) n with | none => _ | some _ => _) = _
  cases find (dir a) n <;> rfl
theorem blind_syncDir : Blind syncDirB := fun _ _ _ => rfl

/-- a: so many operations, and then no power; b: the same with power for ever. -/
def StopRel (k : Nat) (a b : Dk) : Prop := b = { a with left := -1 } ∧ a.left = (k : Int) - (a.ops : Int) ∧ a.ops ≤ k
theorem StopRel.step {k : Nat} {a b : Dk} (h : StopRel k a b) {f : Dk → Dk × Int} (hf : Blind f) (hk : a.ops < k) : StopRel k (act a f).1 (act b f).1 := by
  obtain ⟨rfl, hl, ho⟩ := h
  have ha : act a f = f { a with ops := a.ops + 1, left := a.left - 1 } := by
    unfold act
    rw [if_neg (by omega)]
    unfold on
    rw [if_pos (by omega)]
  have hb : act { a with left := -1 } f = f { a with ops := a.ops + 1, left := -1 } := by
    unfold act
    rw [if_neg (by simp)]
    rfl
  have e1 := hf a (a.ops + 1) (a.left - 1)
  have e2 := hf a (a.ops + 1) (-1)
  rw [ha, hb, e1, e2]
  refine ⟨rfl, ?_, ?_⟩
  · simp only; omega
  · simp only; omega
theorem StopRel.dead {k : Nat} {a b : Dk} (h : StopRel k a b) (f : Dk → Dk × Int) (hk : ¬ a.ops < k) : act a f = (a, 11) := by
  obtain ⟨_, hl, ho⟩ := h
  unfold act
  rw [if_pos (by omega)]
theorem StopRel.ops {k : Nat} {a b : Dk} (h : StopRel k a b) : b.ops = a.ops := by rw [h.1]
/-- An act that is an operation. -/
theorem does_act {k : Nat} (hk : k ≤ 12) (n t : ByteArray) (s : By) (N : Int) : ∃ f, Blind f ∧ ∀ d, does k n t s N d = act d f := by
  by_cases h1 : k < 2
  · exact ⟨_, blind_create n, fun d => by unfold does; rw [if_pos h1]; rfl⟩
  by_cases h2 : k < 6
  · exact ⟨_, blind_append n s, fun d => by unfold does; rw [if_neg h1, if_pos h2]; rfl⟩
  by_cases h3 : k = 6
  · exact ⟨_, blind_cut n N, fun d => by unfold does; rw [if_neg h1, if_neg h2, if_pos h3]; rfl⟩
  by_cases h4 : k < 9
  · exact ⟨_, blind_sync n, fun d => by unfold does; rw [if_neg h1, if_neg h2, if_neg h3, if_pos h4]; rfl⟩
  by_cases h5 : k = 9
  · exact ⟨_, blind_rename n t, fun d => by unfold does; rw [if_neg h1, if_neg h2, if_neg h3, if_neg h4, if_pos h5]; rfl⟩
  by_cases h6 : k = 10
  · exact ⟨_, blind_remove n, fun d => by unfold does; rw [if_neg h1, if_neg h2, if_neg h3, if_neg h4, if_neg h5, if_pos h6]; rfl⟩
  · exact ⟨_, blind_syncDir, fun d => by unfold does; rw [if_neg h1, if_neg h2, if_neg h3, if_neg h4, if_neg h5, if_neg h6, if_pos (by omega)]; rfl⟩
theorem stop_start (room : Int) (k : Nat) : StopRel k (setStop (k : Int) (fresh room)) (fresh room) := by
  refine ⟨rfl, ?_, Nat.zero_le _⟩
  simp only [setStop, fresh]; omega

/-! ## One fails -/
/-- A body that does not see what fails, either. -/
def Blind3 (f : Dk → Dk × Int) : Prop := ∀ (a : Dk) (o : Nat) (l : Int) (x : Nat), f { a with ops := o, left := l, fail := x } = ({ (f a).1 with ops := o, left := l, fail := x }, (f a).2)
theorem blind3_create (n : ByteArray) : Blind3 (createB n) := by
  intro a o l x
  unfold createB
  show (if isName n = false then _ else match find (dir a) n with | some _ => _ | none => _) = _
  split
  · rfl
  · cases find (dir a) n <;> rfl
theorem blind3_cut (n : ByteArray) (to : Int) : Blind3 (cutB n to) := by
  intro a o l x
  unfold cutB
  show (match find (dir a) n with | none => _ | some f => if to < 0 ∨ ((now a f).length : Int) < to then _ else _) = _
  cases find (dir a) n with
  | none => rfl
  | some f =>
    simp only
    split <;> rfl
theorem blind3_remove (n : ByteArray) : Blind3 (removeB n) := by
  intro a o l x
  unfold removeB
  show (match find (dir a) n with | none => _ | some _ => _) = _
  cases find (dir a) n <;> rfl
theorem blind3_syncDir : Blind3 syncDirB := fun _ _ _ _ => rfl
/-- a has one that fails ahead of it, or behind it (j: how many failed); b none. -/
def FailRel (j : Nat) (a b : Dk) : Prop := ∃ x, a = { b with fail := x, ops := b.ops + j } ∧ b.fail = 0 ∧ b.left = -1 ∧ (j = 0 ∧ 1 ≤ x ∨ j = 1 ∧ x = 0)
theorem on_for {d : Dk} (h : d.left = -1) (f : Dk → Dk × Int) : act d f = f { d with ops := d.ops + 1 } := by
  unfold act
  rw [if_neg (by omega)]
  unfold on
  rw [if_neg (by omega)]
theorem FailRel.step3 {j : Nat} {a b : Dk} (h : FailRel j a b) {f : Dk → Dk × Int} (hf : Blind3 f) : (act a f).2 = (act b f).2 ∧ FailRel j (act a f).1 (act b f).1 := by
  obtain ⟨x, rfl, h1, h2, h3⟩ := h
  have ha := on_for (d := { b with fail := x, ops := b.ops + j }) h2 f
  have hb := on_for h2 f
  have e1 : f { b with ops := b.ops + 1 } = ({ (f b).1 with ops := b.ops + 1, left := b.left, fail := b.fail }, (f b).2) := hf b (b.ops + 1) b.left b.fail
  have e2 : f { b with fail := x, ops := b.ops + j + 1 } = ({ (f b).1 with ops := b.ops + j + 1, left := b.left, fail := x }, (f b).2) := hf b (b.ops + j + 1) b.left x
  rw [ha, hb]
  simp only
  rw [e1, e2]
  refine ⟨rfl, x, ?_, h1, h2, h3⟩
  simp only [Dk.mk.injEq, true_and, and_true]
  omega
/-- Of append and sync: it fails, and nothing is changed; or both tell the same. -/
theorem FailRel.stepF {j : Nat} {a b : Dk} (h : FailRel j a b) {f : Dk → Dk × Int} (hb : Blind f)
    (hf : ∀ (d : Dk) (x : Nat), d.fail = 0 → (f { d with fail := x } = ({ (f d).1 with fail := x }, (f d).2) ∧ (f d).1.fail = 0 ∧ (f d).2 ≠ 10) ∨ ((f d).2 = 0 ∧ (f d).1.fail = 0 ∧ f { d with fail := x } = if x = 1 then ({ d with fail := 0 }, 10) else ({ (f d).1 with fail := x - 1 }, 0))) :
    ((act a f).2 = 10 ∧ j = 0 ∧ FailRel 1 (act a f).1 b) ∨ ((act a f).2 ≠ 10 ∧ (act a f).2 = (act b f).2 ∧ FailRel j (act a f).1 (act b f).1) := by
  obtain ⟨x, rfl, h1, h2, h3⟩ := h
  have ha := on_for (d := { b with fail := x, ops := b.ops + j }) h2 f
  have hbb := on_for h2 f
  have e1 : f { b with ops := b.ops + 1 } = ({ (f b).1 with ops := b.ops + 1, left := b.left }, (f b).2) := hb b (b.ops + 1) b.left
  have e2 : f { b with fail := x, ops := b.ops + j + 1 } = ({ (f { b with fail := x }).1 with ops := b.ops + j + 1, left := b.left }, (f { b with fail := x }).2) := hb { b with fail := x } (b.ops + j + 1) b.left
  rw [ha, hbb]
  simp only
  rw [e1, e2]
  rcases hf b x h1 with ⟨k1, k2, k3⟩ | ⟨k1, k2, k3⟩
  · rw [k1]
    refine .inr ⟨k3, rfl, x, ?_, k2, h2, h3⟩
    simp only [Dk.mk.injEq, true_and, and_true]
    omega
  · rw [k3]
    by_cases hx : x = 1
    · subst hx
      rw [if_pos rfl]
      refine .inl ⟨rfl, by omega, 0, ?_, h1, h2, .inr ⟨rfl, rfl⟩⟩
      simp only [Dk.mk.injEq, true_and, and_true]
      omega
    · rw [if_neg hx]
      refine .inr ⟨by simp, by simp only; rw [k1], x - 1, ?_, k2, h2, by omega⟩
      simp only [Dk.mk.injEq, true_and, and_true]
      omega
theorem failF_append (n : ByteArray) (s : By) (d : Dk) (x : Nat) (h0 : d.fail = 0) :
    (appendB n s { d with fail := x } = ({ (appendB n s d).1 with fail := x }, (appendB n s d).2) ∧ (appendB n s d).1.fail = 0 ∧ (appendB n s d).2 ≠ 10) ∨
    ((appendB n s d).2 = 0 ∧ (appendB n s d).1.fail = 0 ∧ appendB n s { d with fail := x } = if x = 1 then ({ d with fail := 0 }, 10) else ({ (appendB n s d).1 with fail := x - 1 }, 0)) := by
  have e : appendB n s { d with fail := x } = (match find (dir d) n with
      | none => ({ d with fail := x }, 5)
      | some f => if d.room < used d + s.length then ({ d with fail := x }, 9) else if x = 1 then ({ d with fail := 0 }, 10)
        else ({ d with fail := x - 1, files := d.files.set f (hist d f ++ fronts (now d f) s) }, 0)) := rfl
  cases hf : find (dir d) n with
  | none =>
    have e1 : appendB n s d = (d, 5) := by unfold appendB; rw [hf]
    rw [e, hf, e1]; exact .inl ⟨rfl, h0, by simp⟩
  | some f =>
    by_cases hr : d.room < used d + s.length
    · have e1 : appendB n s d = (d, 9) := by unfold appendB; rw [hf]; simp only; rw [if_pos hr]
      rw [e, hf, e1]
      simp only
      rw [if_pos hr]
      exact .inl ⟨rfl, h0, by simp⟩
    · have e1 : appendB n s d = ({ d with fail := d.fail - 1, files := d.files.set f (hist d f ++ fronts (now d f) s) }, 0) := by unfold appendB; rw [hf]; simp only; rw [if_neg hr, if_neg (by omega)]
      rw [e, hf, e1]
      simp only
      rw [if_neg hr]
      exact .inr ⟨trivial, by rw [h0], rfl⟩
theorem failF_sync (n : ByteArray) (d : Dk) (x : Nat) (h0 : d.fail = 0) :
    (syncB n { d with fail := x } = ({ (syncB n d).1 with fail := x }, (syncB n d).2) ∧ (syncB n d).1.fail = 0 ∧ (syncB n d).2 ≠ 10) ∨
    ((syncB n d).2 = 0 ∧ (syncB n d).1.fail = 0 ∧ syncB n { d with fail := x } = if x = 1 then ({ d with fail := 0 }, 10) else ({ (syncB n d).1 with fail := x - 1 }, 0)) := by
  have e : syncB n { d with fail := x } = (match find (dir d) n with
      | none => ({ d with fail := x }, 5)
      | some f => if x = 1 then ({ d with fail := 0 }, 10) else ({ d with fail := x - 1, files := d.files.set f [now d f] }, 0)) := rfl
  cases hf : find (dir d) n with
  | none =>
    have e1 : syncB n d = (d, 5) := by unfold syncB; rw [hf]
    rw [e, hf, e1]; exact .inl ⟨rfl, h0, by simp⟩
  | some f =>
    have e1 : syncB n d = ({ d with fail := d.fail - 1, files := d.files.set f [now d f] }, 0) := by unfold syncB; rw [hf]; simp only; rw [if_neg (by omega)]
    rw [e, hf, e1]
    simp only
    exact .inr ⟨trivial, by rw [h0], trivial⟩
theorem FailRel.same {j : Nat} {a b : Dk} (h : FailRel j a b) : list a = list b ∧ (∀ k ks, crash k ks a = crash k ks b) ∧ a.ops = b.ops + j ∧ j ≤ 1 := by
  obtain ⟨x, rfl, h1, h2, h3⟩ := h
  exact ⟨rfl, fun _ _ => rfl, rfl, by omega⟩


/-! ## All that is synced stays -/
/-- Behind the syncs of the names S: of each file all that it has now is kept; of those of S nothing else is. -/
structure Synced (d c : Dk) (S : List ByteArray) : Prop where
  ok : Ok c
  room : c.room = d.room
  dirs : c.dirs = d.dirs
  fail : c.fail = 0
  left : c.left = -1
  len : c.files.length = d.files.length
  now : ∀ f, now c f = now d f
  one : ∀ n ∈ S, ∀ f, find (dir d) n = some f → hist c f = [Dsk.now d f]
theorem Synced.start {d : Dk} (h : Ok d) : Synced d (setStop (-1) (setFail 0 d)) [] :=
  ⟨setStop_ok _ (setFail_ok _ h), rfl, rfl, rfl, rfl, rfl, fun _ => rfl, fun n hn => by simp at hn⟩
theorem Synced.next {d c : Dk} {S : List ByteArray} (h : Synced d c S) {n : ByteArray} (hn : n ∈ list d) : (sync n c).2 = 0 ∧ Synced d (sync n c).1 (S ++ [n]) := by
  obtain ⟨f, hf⟩ := mem_list.1 hn
  have hdir : dir c = dir d := by unfold dir; rw [h.dirs]
  have hc := find_mem (r := dir c) h.ok.row.2.1 (by rw [hdir]; exact hf)
  have hok := sync_ok n h.ok
  have hlt := find_lt h.ok hc
  have e : sync n c = ({ c with ops := c.ops + 1, fail := 0, files := c.files.set f [Dsk.now c f] }, 0) := by
    unfold sync
    rw [on_for h.left]
    unfold syncB
    have h1 : find (dir { c with ops := c.ops + 1 }) n = some f := hc
    rw [h1]
    simp only
    rw [if_neg (by rw [h.fail]; simp), h.fail]
    rfl
  rw [e] at hok ⊢
  refine ⟨rfl, hok, h.room, h.dirs, rfl, h.left, by simp only [List.length_set]; exact h.len, fun i => ?_, fun m hm g hg => ?_⟩
  · have := now_set { c with ops := c.ops + 1 } (f := f) hlt [Dsk.now c f] 0 i
    refine Eq.trans this ?_
    split
    · rename_i e; subst e; exact h.now i
    · exact h.now i
  · have h2 : hist { c with ops := c.ops + 1, fail := 0, files := c.files.set f [Dsk.now c f] } g = if g = f then [Dsk.now c f] else hist c g := hist_set c hlt [Dsk.now c f] g
    rw [h2]
    split
    · rename_i e; subst e; rw [h.now]
    · rename_i hne
      rcases List.mem_append.1 hm with hm | hm
      · exact h.one m hm g hg
      · simp at hm; subst hm
        rw [hdir] at hc
        rw [hg] at hc
        exact absurd (Option.some.inj hc) hne
/-- .. and of the names: when the power goes all is there as it was. -/
theorem Synced.crash {d c : Dk} (h : Synced d c (list d)) (hd : Ok d) (k : Int) (ks : List Int) :
    (syncDir c).2 = 0 ∧ used (syncDir c).1 = used d ∧ list (syncDir c).1 = list d ∧ list (Dsk.crash k ks (syncDir c).1) = list d ∧ used (Dsk.crash k ks (syncDir c).1) = used d ∧ (Dsk.crash k ks (syncDir c).1).ops = 0 ∧
      ∀ n ∈ list d, ∃ s, read n (syncDir c).1 = (s, 0) ∧ read n (Dsk.crash k ks (syncDir c).1) = (s, 0) := by
  have hdir : dir c = dir d := by unfold dir; rw [h.dirs]
  have e : syncDir c = ({ c with ops := c.ops + 1, dirs := [dir d] }, 0) := by
    unfold syncDir
    rw [on_for h.left]
    unfold syncDirB
    have : dir { c with ops := c.ops + 1 } = dir d := hdir
    rw [this]
  have hok := syncDir_ok h.ok
  rw [e] at hok ⊢
  obtain ⟨C, hC⟩ : ∃ C : Dk, C = { c with ops := c.ops + 1, dirs := [dir d] } := ⟨_, rfl⟩
  have hCd : dir C = dir d := by rw [hC]; rfl
  have hrow : rowAt C k = dir d := by
    unfold rowAt
    have : (min k ((C.dirs.length : Int) - 1)).toNat = 0 := by rw [hC]; simp only [List.length_singleton]; omega
    rw [this, hC]; rfl
  have hCn : ∀ f, Dsk.now C f = Dsk.now d f := fun f => by rw [hC]; exact h.now f
  have hmom : ∀ p ∈ dir d, momAt C ks p.2 = Dsk.now d p.2 := fun p hp => by
    have h1 : hist C p.2 = [Dsk.now d p.2] := by
      rw [hC]
      exact h.one p.1 (mem_list.2 ⟨p.2, hp⟩) p.2 (find_mem hd.row.2.1 hp)
    unfold momAt
    rw [h1]
    split
    · have : (min (ks.getD p.2 0) (([Dsk.now d p.2].length : Int) - 1)).toNat = 0 := by simp only [List.length_singleton]; omega
      rw [this]; rfl
    · rfl
  have hCu : used C = used d := by
    unfold used
    rw [hCd]
    exact sum_eq _ _ _ (fun p _ => by rw [hCn])
  simp only at hok ⊢
  rw [← hC] at hok ⊢
  refine ⟨trivial, hCu, by unfold list; rw [hCd], ?_, ?_, rfl, fun n hn => ?_⟩
  · rw [crash_list hok, hrow]; rfl
  · rw [crash_used hok, hrow]
    unfold used
    exact sum_eq _ _ _ (fun p hp => by rw [hmom p hp])
  · obtain ⟨f, hf⟩ := mem_list.1 hn
    refine ⟨Dsk.now d f, ?_, ?_⟩
    · unfold read
      have h1 : C.left = -1 := by rw [hC]; exact h.left
      rw [if_neg (by omega), hCd, find_mem hd.row.2.1 hf]
      simp only
      rw [hCn]
    · rw [crash_read hok k ks (by rw [hrow]; exact hf), hmom _ hf]

/-! ## A file that is new -/
/-- A disk with power for ever, on which nothing fails: its files, its rows of names. -/
structure At (d : Dk) (room : Nat) (files : List (List By)) (dirs : List Row) : Prop where
  room : d.room = room
  files : d.files = files
  dirs : d.dirs = dirs
  fail : d.fail = 0
  left : d.left = -1
theorem at_fresh (room : Nat) : At (fresh (room : Int)) room [] [[]] := ⟨by simp [fresh], rfl, rfl, rfl, rfl⟩
theorem At.create {d : Dk} {room : Nat} {fs : List (List By)} {ds : List Row} {r : Row} (h : At d room fs (ds ++ [r])) {n : ByteArray} (hn : isName n = true) (hr : ∀ p ∈ r, p.1 ≠ n) :
    (create n d).2 = 0 ∧ At (create n d).1 room (fs ++ [[[]]]) (ds ++ [r] ++ [r ++ [(n, fs.length)]]) := by
  have hdir : dir { d with ops := d.ops + 1 } = r := by
    unfold dir
    show d.dirs.getLastD [] = r
    rw [h.dirs]; simp [List.getLastD_eq_getLast?]
  have hw : without r n = r := List.filter_eq_self.2 (fun p hp => by simpa using hr p hp)
  have e : Dsk.create n d = ({ d with ops := d.ops + 1, files := d.files ++ [[[]]], dirs := d.dirs ++ [r ++ [(n, d.files.length)]] }, 0) := by
    unfold Dsk.create
    rw [on_for h.left]
    unfold createB
    rw [if_neg (by simp [hn]), hdir, find_none.2 hr]
    simp only
    rw [hw]
  rw [e]
  exact ⟨rfl, h.room, by simp only [h.files], by simp only [h.dirs, h.files], h.fail, h.left⟩
theorem At.append {d : Dk} {room : Nat} {fs : List (List By)} {ds : List Row} {r : Row} (h : At d room fs (ds ++ [r])) {n : ByteArray} {f : Nat} (hf : find r n = some f) (s : By) {b : By} (hb : (fs.getD f []).getLastD [] = b)
    (hu : (r.map (fun p => ((fs.getD p.2 []).getLastD []).length)).sum + s.length ≤ room) :
    (append n s d).2 = 0 ∧ At (append n s d).1 room (fs.set f (fs.getD f [] ++ fronts b s)) (ds ++ [r]) := by
  have hdir : dir { d with ops := d.ops + 1 } = r := by
    unfold dir
    show d.dirs.getLastD [] = r
    rw [h.dirs]; simp [List.getLastD_eq_getLast?]
  have hus : used { d with ops := d.ops + 1 } = (r.map (fun p => ((fs.getD p.2 []).getLastD []).length)).sum := by
    unfold used
    rw [hdir]
    unfold now hist
    simp only [h.files]
  have hnow : now { d with ops := d.ops + 1 } f = b := by
    unfold now hist
    simp only [h.files]
    exact hb
  have hhi : hist { d with ops := d.ops + 1 } f = fs.getD f [] := by
    unfold hist
    simp only [h.files]
  have e : Dsk.append n s d = ({ d with ops := d.ops + 1, fail := 0, files := d.files.set f (fs.getD f [] ++ fronts b s) }, 0) := by
    unfold Dsk.append
    rw [on_for h.left]
    unfold appendB
    rw [hdir, hf]
    simp only
    rw [if_neg (by rw [hus, h.room]; omega), if_neg (by rw [h.fail]; simp), hnow, hhi, h.fail]
  rw [e]
  exact ⟨rfl, h.room, by simp only [h.files], h.dirs, rfl, h.left⟩
theorem At.sync {d : Dk} {room : Nat} {fs : List (List By)} {ds : List Row} {r : Row} (h : At d room fs (ds ++ [r])) {n : ByteArray} {f : Nat} (hf : find r n = some f) {b : By} (hb : (fs.getD f []).getLastD [] = b) :
    (sync n d).2 = 0 ∧ At (sync n d).1 room (fs.set f [b]) (ds ++ [r]) := by
  have hdir : dir { d with ops := d.ops + 1 } = r := by
    unfold dir
    show d.dirs.getLastD [] = r
    rw [h.dirs]; simp [List.getLastD_eq_getLast?]
  have hnow : now { d with ops := d.ops + 1 } f = b := by
    unfold now hist
    simp only [h.files]
    exact hb
  have e : Dsk.sync n d = ({ d with ops := d.ops + 1, fail := 0, files := d.files.set f [b] }, 0) := by
    unfold Dsk.sync
    rw [on_for h.left]
    unfold syncB
    rw [hdir, hf]
    simp only
    rw [if_neg (by rw [h.fail]; simp), hnow, h.fail]
  rw [e]
  exact ⟨rfl, h.room, by simp only [h.files], h.dirs, rfl, h.left⟩
theorem At.syncDir {d : Dk} {room : Nat} {fs : List (List By)} {ds : List Row} {r : Row} (h : At d room fs (ds ++ [r])) : (syncDir d).2 = 0 ∧ At (syncDir d).1 room fs [r] := by
  have hdir : dir { d with ops := d.ops + 1 } = r := by
    unfold dir
    show d.dirs.getLastD [] = r
    rw [h.dirs]; simp [List.getLastD_eq_getLast?]
  have e : Dsk.syncDir d = ({ d with ops := d.ops + 1, dirs := [r] }, 0) := by
    unfold Dsk.syncDir
    rw [on_for h.left]
    unfold syncDirB
    rw [hdir]
  rw [e]
  exact ⟨rfl, h.room, h.files, rfl, h.fail, h.left⟩
theorem At.rename {d : Dk} {room : Nat} {fs : List (List By)} {ds : List Row} {r : Row} (h : At d room fs (ds ++ [r])) {n m : ByteArray} {f : Nat} (hf : find r n = some f) (hm : isName m = true) :
    (rename n m d).2 = 0 ∧ At (rename n m d).1 room fs (ds ++ [r] ++ [without (without r n) m ++ [(m, f)]]) := by
  have hdir : dir { d with ops := d.ops + 1 } = r := by
    unfold dir
    show d.dirs.getLastD [] = r
    rw [h.dirs]; simp [List.getLastD_eq_getLast?]
  have e : Dsk.rename n m d = ({ d with ops := d.ops + 1, dirs := d.dirs ++ [without (without r n) m ++ [(m, f)]] }, 0) := by
    unfold Dsk.rename
    rw [on_for h.left]
    unfold renameB
    rw [hdir, hf]
    simp only
    rw [if_neg (by simp [hm])]
  rw [e]
  exact ⟨rfl, h.room, h.files, by simp only [h.dirs], h.fail, h.left⟩
theorem At.read {d : Dk} {room : Nat} {fs : List (List By)} {ds : List Row} {r : Row} (h : At d room fs (ds ++ [r])) (n : ByteArray) :
    read n d = match find r n with | none => ([], 5) | some f => ((fs.getD f []).getLastD [], 0) := by
  have hdir : dir d = r := by
    unfold dir
    rw [h.dirs]; simp [List.getLastD_eq_getLast?]
  unfold Dsk.read
  rw [if_neg (by rw [h.left]; simp), hdir]
  cases find r n with
  | none => rfl
  | some f =>
    simp only
    unfold now hist
    rw [h.files]

/-! ## A file that is appended to -/
def histF (s m : By) : List By := (List.range (m.length + 1)).map (fun i => s ++ m.take i)
theorem histF_nil (s : By) : histF s [] = [s] := by simp [histF]
theorem histF_len (s m : By) : (histF s m).length = m.length + 1 := by simp [histF]
theorem histF_at (s m : By) {i : Nat} (h : i ≤ m.length) : (histF s m).getD i [] = s ++ m.take i := by
  unfold histF
  rw [List.getD_eq_getElem?_getD, List.getElem?_map, List.getElem?_range (by omega)]
  rfl
theorem histF_app (s m l : By) : histF s m ++ fronts (s ++ m) l = histF s (m ++ l) := by
  apply List.ext_getElem?
  intro i
  by_cases h : i < m.length + 1
  · rw [List.getElem?_append_left (by rw [histF_len]; exact h)]
    unfold histF
    rw [List.getElem?_map, List.getElem?_map, List.getElem?_range h, List.getElem?_range (by rw [List.length_append]; omega)]
    simp only [Option.map_some]
    rw [List.take_append_of_le_length (by omega)]
  · rw [List.getElem?_append_right (by rw [histF_len]; omega), histF_len]
    unfold fronts histF
    rw [List.getElem?_map, List.getElem?_map]
    by_cases h2 : i - (m.length + 1) < l.length
    · rw [List.getElem?_range h2, List.getElem?_range (by rw [List.length_append]; omega)]
      simp only [Option.map_some]
      rw [List.take_append, List.take_of_length_le (l := m) (by omega), List.append_assoc, show i - (m.length + 1) + 1 = i - m.length by omega]
    · rw [List.getElem?_eq_none (by simp; omega), List.getElem?_eq_none (by simp; omega)]
      rfl
theorem histF_last (s m : By) : (histF s m).getLastD [] = s ++ m := by
  unfold histF
  rw [List.range_succ, List.map_append, List.map_singleton]
  rw [List.getLastD_eq_getLast?, List.getLast?_concat]
  simp

end Go.Proofs.YtleomppgkikhnaaGreat.Dsk
namespace Go.Proofs.YtleomppgkikhnaaGreat.Dsk
open Go.Proofs.YtleomppgkikhnaaGreat

/-- Two lists that rise, of the same elements, are one. -/
theorem rise_eq {α : Type} (k : α → Nat) : ∀ (a b : List α), a.Pairwise (fun x y => k x < k y) → b.Pairwise (fun x y => k x < k y) → (∀ x, x ∈ a ↔ x ∈ b) → a = b
  | [], [], _, _, _ => rfl
  | [], y :: _, _, _, h => by have := (h y).2 (List.mem_cons_self ..); cases this
  | x :: _, [], _, _, h => by have := (h x).1 (List.mem_cons_self ..); cases this
  | x :: a, y :: b, ha, hb, h => by
    rw [List.pairwise_cons] at ha hb
    have hxy : x = y := by
      have h1 := (h x).1 (List.mem_cons_self ..)
      have h2 := (h y).2 (List.mem_cons_self ..)
      rcases List.mem_cons.1 h1 with e | e
      · exact e
      · rcases List.mem_cons.1 h2 with e2 | e2
        · exact e2.symm
        · have := hb.1 x e; have := ha.1 y e2; omega
    subst hxy
    have hab : ∀ z, z ∈ a ↔ z ∈ b := fun z => by
      have hz := h z
      rw [List.mem_cons, List.mem_cons] at hz
      constructor
      · intro hza
        rcases hz.1 (.inr hza) with e | e
        · subst e; have := ha.1 z hza; omega
        · exact e
      · intro hzb
        rcases hz.2 (.inr hzb) with e | e
        · subst e; have := hb.1 z hzb; omega
        · exact e
    rw [rise_eq k a b ha.2 hb.2 hab]

/-- A row's pairs, by their numbers. -/
def byNum (N : Nat) (r : Row) : Row := (List.range N).flatMap fun n => r.filter (fun p => decide (p.2 = n))
theorem byNum_mem {N : Nat} {r : Row} (h : ∀ p ∈ r, p.2 < N) (x : ByteArray × Nat) : x ∈ byNum N r ↔ x ∈ r := by
  unfold byNum
  rw [List.mem_flatMap]
  constructor
  · rintro ⟨n, _, hx⟩
    exact (List.mem_filter.1 hx).1
  · intro hx
    exact ⟨x.2, List.mem_range.2 (h x hx), List.mem_filter.2 ⟨hx, by simp⟩⟩
theorem filter_one {r : Row} (h : r.Pairwise (fun p q => p.2 ≠ q.2)) (n : Nat) : (r.filter (fun p => decide (p.2 = n))).Pairwise (fun x y => x.2 < y.2) := by
  have h1 := h.filter (fun p => decide (p.2 = n))
  refine h1.imp_of_mem fun {x y} hx hy hne => ?_
  have e1 := (List.mem_filter.1 hx).2
  have e2 := (List.mem_filter.1 hy).2
  simp only [decide_eq_true_eq] at e1 e2
  exact absurd (e1.trans e2.symm) hne
theorem byNum_up {N : Nat} {r : Row} (h : r.Pairwise (fun p q => p.2 ≠ q.2)) : (byNum N r).Pairwise (fun x y => x.2 < y.2) := by
  unfold byNum
  rw [List.pairwise_flatMap]
  refine ⟨fun n _ => filter_one h n, List.pairwise_lt_range.imp fun {a b} hab x hx y hy => ?_⟩
  have e1 := (List.mem_filter.1 hx).2
  have e2 := (List.mem_filter.1 hy).2
  simp only [decide_eq_true_eq] at e1 e2
  omega
theorem picks_by (d : Dk) (k : Int) (ks : List Int) : picks d k ks = (byNum d.files.length (rowAt d k)).map (fun p => (p.1, momAt d ks p.2)) := by
  unfold picks byNum
  rw [List.map_flatMap]
  congr 1
  funext n
  refine List.map_congr_left fun p hp => ?_
  have e1 := (List.mem_filter.1 hp).2
  simp only [decide_eq_true_eq] at e1
  rw [e1]
/-- What is left, from a list that rises and has just the row's pairs. -/
theorem picks_of {d : Dk} {k : Int} {ks : List Int} (hr : RowOk d.files.length (rowAt d k)) {l : Row} (hup : l.Pairwise (fun x y => x.2 < y.2)) (hm : ∀ x, x ∈ l ↔ x ∈ rowAt d k) : picks d k ks = l.map (fun p => (p.1, momAt d ks p.2)) := by
  rw [picks_by, rise_eq (fun p : ByteArray × Nat => p.2) _ l (byNum_up hr.2.2) hup (fun x => (byNum_mem (fun p hp => (hr.1 p hp).2) x).trans (hm x).symm)]

end Go.Proofs.YtleomppgkikhnaaGreat.Dsk
namespace Go.Proofs.YtleomppgkikhnaaGreat.Dsk
open Go.Proofs.YtleomppgkikhnaaGreat

def rA : ByteArray := ⟨#[97]⟩
def rB : ByteArray := ⟨#[98]⟩
def rC : ByteArray := ⟨#[99]⟩
def rowN (j : Nat) : Row := [(rA, 0), (rB, 1), (rC, 2)].take j
def nameN (j : Nat) : ByteArray := [rA, rB, rC].getD j rA
theorem ren_one {D : Dk} {ds : List Row} {r : Row} {fs : List (List By)} (h : At D 10000 fs (ds ++ [r])) {n : ByteArray} (hn : isName n = true) (hr : ∀ p ∈ r, p.1 ≠ n) (hl : ∀ p ∈ r, p.2 < fs.length) (t : By) (hu : (r.map (fun p => ((fs.getD p.2 []).getLastD []).length)).sum + t.length ≤ 10000) :
    (create n D).2 = 0 ∧ (append n t (create n D).1).2 = 0 ∧ (sync n (append n t (create n D).1).1).2 = 0 ∧ At (sync n (append n t (create n D).1).1).1 10000 (fs ++ [[t]]) ((ds ++ [r]) ++ [r ++ [(n, fs.length)]]) := by
  obtain ⟨e1, a1⟩ := h.create hn hr
  have hf : find (r ++ [(n, fs.length)]) n = some fs.length := by
    rw [find_app, find_none.2 hr, find_one, if_pos rfl]
    rfl
  have hg : (fs ++ [[[]]]).getD fs.length [] = [([] : By)] := by rw [List.getD_eq_getElem?_getD, List.getElem?_concat_length]; rfl
  obtain ⟨e2, a2⟩ := a1.append (n := n) (f := fs.length) hf t (b := []) (by rw [hg]; rfl) (by
    rw [List.map_append, List.sum_append]
    simp only [List.map_cons, List.map_nil, List.sum_cons, List.sum_nil, hg]
    have : (r.map (fun p => (((fs ++ [[[]]]).getD p.2 []).getLastD []).length)) = r.map (fun p => ((fs.getD p.2 []).getLastD []).length) := List.map_congr_left fun p hp => by
      have := hl p hp
      rw [List.getD_eq_getElem?_getD, List.getElem?_append_left this, ← List.getD_eq_getElem?_getD]
    rw [this]
    show _ + (0 + 0) + t.length ≤ 10000
    omega)
  rw [hg] at a2
  have hs : (fs ++ [[[]]]).set fs.length ([[]] ++ fronts [] t) = fs ++ [[[]] ++ fronts [] t] := by
    rw [List.set_append_right _ _ (Nat.le_refl _), Nat.sub_self]
    rfl
  rw [hs] at a2
  have hg2 : (fs ++ [[[]] ++ fronts [] t]).getD fs.length [] = [[]] ++ fronts [] t := by rw [List.getD_eq_getElem?_getD, List.getElem?_concat_length]; rfl
  obtain ⟨e3, a3⟩ := a2.sync (n := n) (f := fs.length) hf (b := t) (by rw [hg2]; exact fronts_last [[]] [] t rfl)
  rw [List.set_append_right _ _ (Nat.le_refl _), Nat.sub_self] at a3
  exact ⟨e1, e2, e3, a3⟩
theorem ren_next {D : Dk} {ds : List Row} {s t u : By} (hl : s.length + t.length + u.length ≤ 1000) {j : Nat} (hj : j < 3) (h : At D 10000 (([s, t, u].take j).map (fun x => [x])) (ds ++ [rowN j])) :
    (create (nameN j) D).2 = 0 ∧ (append (nameN j) ([s, t, u].getD j []) (create (nameN j) D).1).2 = 0 ∧ (sync (nameN j) (append (nameN j) ([s, t, u].getD j []) (create (nameN j) D).1).1).2 = 0 ∧
      At (sync (nameN j) (append (nameN j) ([s, t, u].getD j []) (create (nameN j) D).1).1).1 10000 (([s, t, u].take (j + 1)).map (fun x => [x])) ((ds ++ [rowN j]) ++ [rowN (j + 1)]) := by
  match j, hj with
  | 0, _ => exact ren_one (r := []) (fs := []) h (by decide) (by decide) (by decide) s (by simp; omega)
  | 1, _ => exact ren_one (r := [(rA, 0)]) (fs := [[s]]) h (by decide) (by decide) (by simp) t (by simp; omega)
  | 2, _ => exact ren_one (r := [(rA, 0), (rB, 1)]) (fs := [[s], [t]]) h (by decide) (by decide) (by simp) u (by simp; omega)
theorem At.used {d : Dk} {room : Nat} {fs : List (List By)} {ds : List Row} {r : Row} (h : At d room fs (ds ++ [r])) : Dsk.used d = (r.map (fun p => ((fs.getD p.2 []).getLastD []).length)).sum := by
  have hdir : dir d = r := by
    unfold dir
    rw [h.dirs]; simp [List.getLastD_eq_getLast?]
  unfold Dsk.used
  rw [hdir]
  refine congrArg List.sum (List.map_congr_left fun p _ => ?_)
  unfold now hist
  rw [h.files]
theorem ren_end {D : Dk} {ds : List Row} {s t u : By} (h : At D 10000 [[s], [t], [u]] (ds ++ [rowN 3])) :
    (syncDir D).2 = 0 ∧ (rename rA rB (syncDir D).1).2 = 0 ∧ At (rename rA rB (syncDir D).1).1 10000 [[s], [t], [u]] ([rowN 3] ++ [[(rC, 2), (rB, 0)]]) := by
  obtain ⟨e1, a1⟩ := h.syncDir
  have a1 : At (syncDir D).1 10000 [[s], [t], [u]] ([] ++ [rowN 3]) := a1
  obtain ⟨e2, a2⟩ := a1.rename (n := rA) (m := rB) (f := 0) (by decide) (by decide)
  exact ⟨e1, e2, a2⟩
theorem mom_one {D : Dk} {i : Nat} {x : By} (h : hist D i = [x]) (ks : List Int) : momAt D ks i = x := by
  unfold momAt
  rw [h]
  have : (if i < ks.length then (min (ks.getD i 0) (((([x] : List By).length : Nat) : Int) - 1)).toNat else 0) = 0 := by
    split
    · simp only [List.length_singleton]; omega
    · rfl
  rw [this]
  rfl
theorem ren_crash {D : Dk} {s t u : By} (h : At D 10000 [[s], [t], [u]] ([rowN 3] ++ [[(rC, 2), (rB, 0)]])) (ok : Ok D) (k : Int) (ks : List Int) :
    read rC (crash k ks D) = (u, 0) ∧ (k < 1 → read rA (crash k ks D) = (s, 0) ∧ read rB (crash k ks D) = (t, 0)) ∧ (¬ k < 1 → read rA (crash k ks D) = ([], 5) ∧ read rB (crash k ks D) = (s, 0)) := by
  have h0 : momAt D ks 0 = s := mom_one (by unfold hist; rw [h.files]; rfl) ks
  have h1 : momAt D ks 1 = t := mom_one (by unfold hist; rw [h.files]; rfl) ks
  have h2 : momAt D ks 2 = u := mom_one (by unfold hist; rw [h.files]; rfl) ks
  by_cases hk : k < 1
  · have hr : rowAt D k = rowN 3 := by
      unfold rowAt
      rw [h.dirs]
      show ([rowN 3, [(rC, 2), (rB, 0)]] : List Row).getD (min k (((2 : Nat) : Int) - 1)).toNat [] = rowN 3
      rw [show (min k (((2 : Nat) : Int) - 1)).toNat = 0 by omega]
      rfl
    refine ⟨?_, fun _ => ⟨?_, ?_⟩, fun k => absurd hk k⟩
    · rw [crash_read ok k ks (n := rC) (f := 2) (by rw [hr]; simp [rowN]), h2]
    · rw [crash_read ok k ks (n := rA) (f := 0) (by rw [hr]; simp [rowN]), h0]
    · rw [crash_read ok k ks (n := rB) (f := 1) (by rw [hr]; simp [rowN]), h1]
  · have hr : rowAt D k = [(rC, 2), (rB, 0)] := by
      unfold rowAt
      rw [h.dirs]
      show ([rowN 3, [(rC, 2), (rB, 0)]] : List Row).getD (min k (((2 : Nat) : Int) - 1)).toNat [] = _
      rw [show (min k (((2 : Nat) : Int) - 1)).toNat = 1 by omega]
      rfl
    refine ⟨?_, fun k => absurd k hk, fun _ => ⟨?_, ?_⟩⟩
    · rw [crash_read ok k ks (n := rC) (f := 2) (by rw [hr]; simp), h2]
    · rw [crash_none ok k ks (n := rA) (by rw [hr]; decide)]
    · rw [crash_read ok k ks (n := rB) (f := 0) (by rw [hr]; simp), h0]

end Go.Proofs.YtleomppgkikhnaaGreat.Dsk
namespace Go.Proofs.YtleomppgkikhnaaGreat.Dsk
open Go.Proofs.YtleomppgkikhnaaGreat

def tilde (n : ByteArray) : ByteArray := n ++ ⟨#[126]⟩
def endsT (n : ByteArray) : Bool := decide (n.data.toList.getLast? = some 126)
def maySwap (n : ByteArray) : Bool := isName n && decide (n.size ≤ 23) && !(endsT n)
def inOrd : List (Dk → Dk × Int) → Dk → Dk × Int
  | [], D => (D, 0)
  | f :: r, D => if (f D).2 = 0 then inOrd r (f D).1 else f D
def clearA (o : ByteArray) (D : Dk) : Dk × Int := ((remove o D).1, if (remove o D).2 = 5 then 0 else (remove o D).2)
def orRem (o : ByteArray) (x : Dk × Int) : Dk × Int := if x.2 = 0 then x else ((remove o x.1).1, x.2)
def fillA (o : ByteArray) (s : By) (D : Dk) : Dk × Int := orRem o (append o s D)
def syncA (o : ByteArray) (D : Dk) : Dk × Int := orRem o (sync o D)
def writeL (n : ByteArray) (s : By) : List (Dk → Dk × Int) := [clearA (tilde n), create (tilde n), fillA (tilde n) s, syncA (tilde n), rename (tilde n) n, syncDir]
def write (n : ByteArray) (s : By) (D : Dk) : Dk × Int := if maySwap n = true then inOrd (writeL n s) D else (D, 3)
def cleanL (D : Dk) : List (Dk → Dk × Int) := ((list D).filter endsT).map remove ++ [syncDir]
def clean (D : Dk) : Dk × Int := inOrd (cleanL D) D

theorem tilde_list (n : ByteArray) : (tilde n).data.toList = n.data.toList ++ [126] := by
  unfold tilde
  rw [ByteArray.data_append]
  simp
theorem tilde_size (n : ByteArray) : (tilde n).size = n.size + 1 := by
  unfold tilde
  rw [ByteArray.size_append]
  rfl
theorem tilde_ends (n : ByteArray) : endsT (tilde n) = true := by
  unfold endsT
  rw [tilde_list]
  simp
theorem maySwap_iff {n : ByteArray} : maySwap n = true ↔ isName n = true ∧ n.size ≤ 23 ∧ endsT n = false := by
  unfold maySwap
  simp [and_assoc]
theorem tilde_ne {n m : ByteArray} (h : endsT n = false) : n ≠ tilde m := fun e => by
  have := tilde_ends m
  rw [← e, h] at this
  cases this
theorem tilde_name {n : ByteArray} (h : maySwap n = true) : isName (tilde n) = true := by
  obtain ⟨h1, h2, _⟩ := maySwap_iff.1 h
  unfold isName at h1 ⊢
  rw [decide_eq_true_eq] at h1 ⊢
  refine ⟨fun b hb => ?_, by rw [tilde_size]; omega, by rw [tilde_size]; omega⟩
  rw [tilde_list] at hb
  rcases List.mem_append.1 hb with hb | hb
  · exact h1.1 b hb
  · simp at hb; subst hb; decide

/-! ## A disk written out; power and operations are left open -/
structure Wt (d : Dk) (room : Nat) (fs : List (List By)) (ds : List Row) (k : Nat) : Prop where
  room : d.room = room
  files : d.files = fs
  dirs : d.dirs = ds
  fail : d.fail = k
def U (fs : List (List By)) (r : Row) : Nat := (r.map (fun p => ((fs.getD p.2 []).getLastD []).length)).sum
/-- One operation more. -/
def Went (d e : Dk) : Prop := e.ops = d.ops + 1 ∧ (d.left = -1 → e.left = -1)
theorem act_two (d : Dk) (f : Dk → Dk × Int) : (d.left = 0 ∧ act d f = (d, 11)) ∨ (d.left ≠ 0 ∧ act d f = f (on d)) := by
  unfold act
  by_cases h : d.left = 0
  · exact .inl ⟨h, if_pos h⟩
  · exact .inr ⟨h, if_neg h⟩
theorem went_on (d : Dk) : Went d (on d) := ⟨rfl, fun h => by unfold on; simp only; rw [if_neg (by omega)]; exact h⟩
theorem Wt.on {d : Dk} {room : Nat} {fs : List (List By)} {ds : List Row} {k : Nat} (h : Wt d room fs ds k) : Wt (on d) room fs ds k := ⟨h.room, h.files, h.dirs, h.fail⟩
theorem Wt.dir {d : Dk} {room : Nat} {fs : List (List By)} {ds : List Row} {r : Row} {k : Nat} (h : Wt d room fs (ds ++ [r]) k) : dir d = r := by
  unfold Dsk.dir
  rw [h.dirs]; simp [List.getLastD_eq_getLast?]
theorem Wt.used {d : Dk} {room : Nat} {fs : List (List By)} {ds : List Row} {r : Row} {k : Nat} (h : Wt d room fs (ds ++ [r]) k) : Dsk.used d = U fs r := by
  unfold Dsk.used U
  rw [h.dir]
  refine congrArg List.sum (List.map_congr_left fun p _ => ?_)
  unfold now hist
  rw [h.files]
theorem without_none {r : Row} {o : ByteArray} (h : find r o = none) : without r o = r :=
  List.filter_eq_self.2 (fun p hp => by simpa using find_none.1 h p hp)
theorem find_without_self (r : Row) (o : ByteArray) : find (without r o) o = none := find_none.2 (fun _ hp => without_ne hp)
theorem without_snoc {r : Row} {o : ByteArray} (h : find r o = none) (i : Nat) : without (r ++ [(o, i)]) o = r := by
  have e : without (r ++ [(o, i)]) o = without r o ++ without [(o, i)] o := by unfold without; exact List.filter_append _ _
  rw [e, without_none h]
  simp [without]
theorem find_wo {r : Row} {o m : ByteArray} (h : m ≠ o) : find (without r o) m = find r m := by rw [find_without, if_neg h]
theorem find_app1 {r : Row} {o m : ByteArray} {i : Nat} (h : m ≠ o) : find (r ++ [(o, i)]) m = find r m := by
  rw [find_app]
  have : find [(o, i)] m = none := by unfold find; rw [if_neg (fun k => h k.symm)]; rfl
  rw [this]
  simp
theorem find_snoc_self {r : Row} {o : ByteArray} {i : Nat} (h : find r o = none) : find (r ++ [(o, i)]) o = some i := by
  rw [find_app, h]
  simp [find]

section
variable {d : Dk} {room : Nat} {fs : List (List By)} {ds : List Row} {r : Row} {k : Nat}
theorem Wt.clear (h : Wt d room fs (ds ++ [r]) k) (o : ByteArray) :
    (d.left = 0 ∧ clearA o d = (d, 11)) ∨ ((clearA o d).2 = 0 ∧ Went d (clearA o d).1 ∧ ∃ ds', Wt (clearA o d).1 room fs (ds' ++ [without r o]) k ∧ ∀ x ∈ ds', x ∈ ds ∨ x = r) := by
  rcases act_two d (removeB o) with ⟨h0, h1⟩ | ⟨h0, h1⟩
  · refine .inl ⟨h0, ?_⟩
    unfold clearA remove
    rw [h1]
    rfl
  · refine .inr ?_
    unfold clearA remove
    rw [h1]
    unfold removeB
    rw [h.on.dir]
    cases hf : find r o with
    | none => exact ⟨rfl, went_on d, ds, by rw [without_none hf]; exact h.on, fun x hx => .inl hx⟩
    | some f =>
      refine ⟨rfl, went_on d, ds ++ [r], ⟨h.room, h.files, by simp only; rw [h.on.dirs], h.fail⟩, fun x hx => ?_⟩
      simpa using hx
theorem Wt.remove (h : Wt d room fs (ds ++ [r]) k) {o : ByteArray} {f : Nat} (hf : find r o = some f) :
    (d.left = 0 ∧ remove o d = (d, 11)) ∨ ((remove o d).2 = 0 ∧ Went d (remove o d).1 ∧ Wt (remove o d).1 room fs (ds ++ [r] ++ [without r o]) k) := by
  rcases act_two d (removeB o) with ⟨h0, h1⟩ | ⟨h0, h1⟩
  · exact .inl ⟨h0, h1⟩
  · refine .inr ?_
    unfold Dsk.remove
    rw [h1]
    unfold removeB
    rw [h.on.dir, hf]
    exact ⟨rfl, went_on d, h.room, h.files, by simp only; rw [h.on.dirs], h.fail⟩
theorem Wt.create (h : Wt d room fs (ds ++ [r]) k) {o : ByteArray} (hn : isName o = true) (hf : find r o = none) :
    (d.left = 0 ∧ create o d = (d, 11)) ∨ ((create o d).2 = 0 ∧ Went d (create o d).1 ∧ Wt (create o d).1 room (fs ++ [[[]]]) (ds ++ [r] ++ [r ++ [(o, fs.length)]]) k) := by
  rcases act_two d (createB o) with ⟨h0, h1⟩ | ⟨h0, h1⟩
  · exact .inl ⟨h0, h1⟩
  · refine .inr ?_
    unfold Dsk.create
    rw [h1]
    unfold createB
    rw [if_neg (by simp [hn]), h.on.dir, hf, without_none hf]
    exact ⟨rfl, went_on d, h.room, by simp only; rw [h.on.files], by simp only; rw [h.on.dirs, h.on.files], h.fail⟩
theorem Wt.append (h : Wt d room fs (ds ++ [r]) k) {o : ByteArray} {f : Nat} (hf : find r o = some f) (s : By) {b : By} (hb : (fs.getD f []).getLastD [] = b) :
    (d.left = 0 ∧ append o s d = (d, 11)) ∨ ((append o s d).2 = 9 ∧ room < U fs r + s.length ∧ Went d (append o s d).1 ∧ Wt (append o s d).1 room fs (ds ++ [r]) k) ∨
      ((append o s d).2 = 10 ∧ ¬ room < U fs r + s.length ∧ k = 1 ∧ Went d (append o s d).1 ∧ Wt (append o s d).1 room fs (ds ++ [r]) 0) ∨
      ((append o s d).2 = 0 ∧ ¬ room < U fs r + s.length ∧ k ≠ 1 ∧ Went d (append o s d).1 ∧ Wt (append o s d).1 room (fs.set f (fs.getD f [] ++ fronts b s)) (ds ++ [r]) (k - 1)) := by
  rcases act_two d (appendB o s) with ⟨h0, h1⟩ | ⟨h0, h1⟩
  · exact .inl ⟨h0, h1⟩
  · refine .inr ?_
    have hr : (Dsk.on d).room = room := h.room
    have hk : (Dsk.on d).fail = k := h.fail
    have hnow : now (Dsk.on d) f = b := by unfold now hist; rw [h.on.files]; exact hb
    have hhi : hist (Dsk.on d) f = fs.getD f [] := by unfold hist; rw [h.on.files]
    unfold Dsk.append
    rw [h1]
    unfold appendB
    rw [h.on.dir, hf]
    simp only
    rw [h.on.used, hr, hk, hnow, hhi]
    by_cases c1 : room < U fs r + s.length
    · rw [if_pos c1]
      exact .inl ⟨rfl, c1, went_on d, h.on⟩
    · rw [if_neg c1]
      by_cases c2 : k = 1
      · rw [if_pos c2]
        exact .inr (.inl ⟨rfl, c1, c2, went_on d, rfl, h.files, h.dirs, rfl⟩)
      · rw [if_neg c2]
        exact .inr (.inr ⟨rfl, c1, c2, went_on d, rfl, by simp only; rw [h.on.files], h.dirs, rfl⟩)
theorem Wt.sync (h : Wt d room fs (ds ++ [r]) k) {o : ByteArray} {f : Nat} (hf : find r o = some f) {b : By} (hb : (fs.getD f []).getLastD [] = b) :
    (d.left = 0 ∧ sync o d = (d, 11)) ∨ ((sync o d).2 = 10 ∧ k = 1 ∧ Went d (sync o d).1 ∧ Wt (sync o d).1 room fs (ds ++ [r]) 0) ∨
      ((sync o d).2 = 0 ∧ k ≠ 1 ∧ Went d (sync o d).1 ∧ Wt (sync o d).1 room (fs.set f [b]) (ds ++ [r]) (k - 1)) := by
  rcases act_two d (syncB o) with ⟨h0, h1⟩ | ⟨h0, h1⟩
  · exact .inl ⟨h0, h1⟩
  · refine .inr ?_
    have hk : (Dsk.on d).fail = k := h.fail
    have hnow : now (Dsk.on d) f = b := by unfold now hist; rw [h.on.files]; exact hb
    unfold Dsk.sync
    rw [h1]
    unfold syncB
    rw [h.on.dir, hf]
    simp only
    rw [hk, hnow]
    by_cases c2 : k = 1
    · rw [if_pos c2]
      exact .inl ⟨rfl, c2, went_on d, h.room, h.files, h.dirs, rfl⟩
    · rw [if_neg c2]
      exact .inr ⟨rfl, c2, went_on d, h.room, by simp only; rw [h.on.files], h.dirs, rfl⟩
theorem Wt.rename (h : Wt d room fs (ds ++ [r]) k) {o n : ByteArray} {f : Nat} (hf : find r o = some f) (hn : isName n = true) :
    (d.left = 0 ∧ rename o n d = (d, 11)) ∨ ((rename o n d).2 = 0 ∧ Went d (rename o n d).1 ∧ Wt (rename o n d).1 room fs (ds ++ [r] ++ [without (without r o) n ++ [(n, f)]]) k) := by
  rcases act_two d (renameB o n) with ⟨h0, h1⟩ | ⟨h0, h1⟩
  · exact .inl ⟨h0, h1⟩
  · refine .inr ?_
    unfold Dsk.rename
    rw [h1]
    unfold renameB
    rw [h.on.dir, hf]
    simp only
    rw [if_neg (by simp [hn])]
    exact ⟨rfl, went_on d, h.room, h.files, by simp only; rw [h.on.dirs], h.fail⟩
theorem Wt.syncDir (h : Wt d room fs (ds ++ [r]) k) :
    (d.left = 0 ∧ syncDir d = (d, 11)) ∨ ((syncDir d).2 = 0 ∧ Went d (syncDir d).1 ∧ Wt (syncDir d).1 room fs [r] k) := by
  rcases act_two d syncDirB with ⟨h0, h1⟩ | ⟨h0, h1⟩
  · exact .inl ⟨h0, h1⟩
  · refine .inr ?_
    unfold Dsk.syncDir
    rw [h1]
    unfold syncDirB
    rw [h.on.dir]
    exact ⟨rfl, went_on d, h.room, h.files, rfl, h.fail⟩
end
theorem inOrd_ok {f : Dk → Dk × Int} {l : List (Dk → Dk × Int)} {D : Dk} (h : (f D).2 = 0) : inOrd (f :: l) D = inOrd l (f D).1 := by
  show (if (f D).2 = 0 then _ else _) = _
  rw [if_pos h]
theorem inOrd_err {f : Dk → Dk × Int} {l : List (Dk → Dk × Int)} {D : Dk} (h : (f D).2 ≠ 0) : inOrd (f :: l) D = f D := by
  show (if (f D).2 = 0 then _ else _) = _
  rw [if_neg h]
theorem orRem_err {o : ByteArray} {x : Dk × Int} (h : x.2 ≠ 0) : orRem o x = ((Dsk.remove o x.1).1, x.2) := if_neg h
theorem orRem_ok {o : ByteArray} {x : Dk × Int} (h : x.2 = 0) : orRem o x = x := if_pos h
theorem U_new (fs : List (List By)) (r : Row) (o : ByteArray) (h : ∀ p ∈ r, p.2 < fs.length) (x : List By) : U (fs ++ [x]) (r ++ [(o, fs.length)]) = U fs r + (x.getLastD []).length := by
  unfold U
  rw [List.map_append, List.sum_append]
  congr 1
  · refine congrArg List.sum (List.map_congr_left fun p hp => ?_)
    rw [List.getD_eq_getElem?_getD, List.getD_eq_getElem?_getD, List.getElem?_append_left (h p hp)]
  · simp
/-- What a writing came to. -/
structure Wrote (n : ByteArray) (s : By) (D : Dk) (room : Nat) (fs : List (List By)) (ds : List Row) (r : Row) (k : Nat) (E : Dk) : Prop where
  wt : Wt E room (fs ++ [[s]]) [without (without r (tilde n)) n ++ [(n, fs.length)]] (k - 1 - 1)
  ops : E.ops = D.ops + 6
  left : D.left = -1 → E.left = -1
  room : ¬ room < U fs (without r (tilde n)) + s.length
  k1 : k ≠ 1
  k2 : k - 1 ≠ 1
/-- Rows that a writing left ahead of its renaming. -/
def Mids (n : ByteArray) (fs : List (List By)) (ds : List Row) (r : Row) (l : List Row) : Prop := ∀ x ∈ l, x ∈ ds ∨ x = r ∨ x = without r (tilde n) ∨ x = without r (tilde n) ++ [(tilde n, fs.length)]
structure Late (n : ByteArray) (s : By) (D : Dk) (room : Nat) (fs : List (List By)) (ds : List Row) (r : Row) (E : Dk) (e : Int) : Prop where
  err : e = 11
  left : D.left ≠ -1
  wt : ∃ ds' k', Wt E room (fs ++ [[s]]) (ds' ++ [without (without r (tilde n)) n ++ [(n, fs.length)]]) k' ∧ Mids n fs ds r ds'
structure Missed (n : ByteArray) (s : By) (D : Dk) (room : Nat) (fs : List (List By)) (ds : List Row) (r : Row) (k : Nat) (E : Dk) (e : Int) : Prop where
  err : e = 11 ∧ D.left ≠ -1 ∨ e = 9 ∧ room < U fs (without r (tilde n)) + s.length ∨ e = 10 ∧ (k = 1 ∨ k - 1 = 1) ∧ ¬ room < U fs (without r (tilde n)) + s.length
  wt : ∃ H ds' k', Wt E room (fs ++ H) ds' k' ∧ Mids n fs ds r ds' ∧ (D.left = -1 → E.left = -1 ∧ ∃ l, ds' = l ++ [without r (tilde n)])
theorem Went.left {d e : Dk} (h : Went d e) : d.left = -1 → e.left = -1 := h.2
theorem write_all {n : ByteArray} (hn : maySwap n = true) (s : By) {D : Dk} {room : Nat} {fs : List (List By)} {ds : List Row} {r : Row} {k : Nat} (h : Wt D room fs (ds ++ [r]) k) (hr : ∀ p ∈ r, p.2 < fs.length) :
    ((write n s D).2 = 0 ∧ Wrote n s D room fs ds r k (write n s D).1) ∨ Late n s D room fs ds r (write n s D).1 (write n s D).2 ∨ Missed n s D room fs ds r k (write n s D).1 (write n s D).2 := by
  obtain ⟨hn1, hn2, hn3⟩ := maySwap_iff.1 hn
  have ho := tilde_name hn
  have hrW : ∀ p ∈ without r (tilde n), p.2 < fs.length := fun p hp => hr p (without_sub hp)
  have hfW := find_without_self r (tilde n)
  have hW2 : without (without r (tilde n) ++ [(tilde n, fs.length)]) (tilde n) = without r (tilde n) := without_snoc hfW _
  have hfo : find (without r (tilde n) ++ [(tilde n, fs.length)]) (tilde n) = some fs.length := find_snoc_self hfW
  have hUn := fun x => U_new fs (without r (tilde n)) (tilde n) hrW x
  generalize hoo : tilde n = o at *
  generalize hWW : without r o = W at *
  unfold write
  rw [if_pos hn]
  unfold writeL
  rw [hoo]
  rcases h.clear o with ⟨a0, a1⟩ | ⟨a1, a2, d1, a3, a4⟩
  · rw [inOrd_err (by rw [a1]; simp), a1]
    refine .inr (.inr ⟨.inl ⟨rfl, by omega⟩, [], ds ++ [r], k, by rw [List.append_nil]; exact h, fun x hx => ?_, fun e => by omega⟩)
    rcases List.mem_append.1 hx with hx | hx
    · exact .inl hx
    · simp at hx; exact .inr (.inl hx)
  rw [hWW] at a3
  rw [inOrd_ok a1]
  generalize (clearA o D).1 = D1 at *
  have m1 : Mids n fs ds r (d1 ++ [W]) := fun x hx => by
    rw [hoo, hWW]
    rcases List.mem_append.1 hx with hx | hx
    · rcases a4 x hx with e | e
      · exact .inl e
      · exact .inr (.inl e)
    · simp at hx; exact .inr (.inr (.inl hx))
  rcases a3.create ho hfW with ⟨b0, b1⟩ | ⟨b1, b2, b3⟩
  · rw [inOrd_err (by rw [b1]; simp), b1]
    exact .inr (.inr ⟨.inl ⟨rfl, fun e => by have := a2.left e; omega⟩, [], _, k, by rw [List.append_nil]; exact a3, m1, fun e => by have := a2.left e; omega⟩)
  rw [inOrd_ok b1]
  generalize (create o D1).1 = D2 at *
  have m2 : Mids n fs ds r (d1 ++ [W] ++ [W ++ [(o, fs.length)]]) := fun x hx => by
    rcases List.mem_append.1 hx with hx | hx
    · exact m1 x hx
    · simp at hx; rw [hoo, hWW]; exact .inr (.inr (.inr hx))
  have m3 : Mids n fs ds r (d1 ++ [W] ++ [W ++ [(o, fs.length)]] ++ [W]) := fun x hx => by
    rcases List.mem_append.1 hx with hx | hx
    · exact m2 x hx
    · simp at hx; rw [hoo, hWW]; exact .inr (.inr (.inl hx))
  have l2 : D.left = -1 → D2.left = -1 := fun e => b2.left (a2.left e)
  have hU := hUn [[]]
  have hU : U (fs ++ [[[]]]) (W ++ [(o, fs.length)]) = U fs W := by rw [hU]; rfl
  have hg : (fs ++ [[([] : By)]]).getD fs.length [] = [[]] := by rw [List.getD_eq_getElem?_getD, List.getElem?_concat_length]; rfl
  -- what is done when it errs
  have rem : ∀ (X : Dk) (H : List By) (k' : Nat), Wt X room (fs ++ [H]) (d1 ++ [W] ++ [W ++ [(o, fs.length)]]) k' → (D.left = -1 → X.left = -1) → ∃ H ds' k', Wt (Dsk.remove o X).1 room (fs ++ H) ds' k' ∧ Mids n fs ds r ds' ∧ (D.left = -1 → (Dsk.remove o X).1.left = -1 ∧ ∃ l, ds' = l ++ [without r (tilde n)]) := fun X H k' hX hl => by
    rcases hX.remove hfo with ⟨c0, c1⟩ | ⟨c1, c2, c3⟩
    · rw [c1]
      exact ⟨[H], _, k', hX, m2, fun e => by have := hl e; omega⟩
    · rw [hW2] at c3
      exact ⟨[H], _, k', c3, m3, fun e => ⟨c2.left (hl e), _, by rw [hoo, hWW]⟩⟩
  rcases b3.append hfo s (b := []) (by rw [hg]; rfl) with ⟨c0, c1⟩ | ⟨c1, c2, c3, c4⟩ | ⟨c1, c2, c3, c4, c5⟩ | ⟨c1, c2, c3, c4, c5⟩
  · have e1 : fillA o s D2 = ((Dsk.remove o D2).1, 11) := by unfold fillA; rw [c1]; rfl
    rw [inOrd_err (by rw [e1]; simp), e1]
    exact .inr (.inr ⟨.inl ⟨rfl, fun e => by have := l2 e; omega⟩, rem D2 _ _ b3 l2⟩)
  · have e1 : fillA o s D2 = ((Dsk.remove o (append o s D2).1).1, 9) := by unfold fillA; rw [orRem_err (by rw [c1]; decide), c1]
    rw [inOrd_err (by rw [e1]; simp), e1]
    refine .inr (.inr ⟨.inr (.inl ⟨rfl, ?_⟩), rem _ _ _ c4 (fun e => c3.left (l2 e))⟩)
    rw [hU] at c2
    rw [hoo, hWW]; exact c2
  · have e1 : fillA o s D2 = ((Dsk.remove o (append o s D2).1).1, 10) := by unfold fillA; rw [orRem_err (by rw [c1]; decide), c1]
    rw [inOrd_err (by rw [e1]; simp), e1]
    refine .inr (.inr ⟨.inr (.inr ⟨rfl, .inl c3, ?_⟩), rem _ _ _ c5 (fun e => c4.left (l2 e))⟩)
    rw [hU] at c2
    rw [hoo, hWW]; exact c2
  have e1 : fillA o s D2 = append o s D2 := orRem_ok c1
  rw [inOrd_ok (by rw [e1]; exact c1), e1]
  generalize (append o s D2).1 = D3 at *
  rw [hg] at c5
  have hs3 : (fs ++ [[([] : By)]]).set fs.length ([[]] ++ fronts [] s) = fs ++ [[[]] ++ fronts [] s] := by
    rw [List.set_append_right _ _ (Nat.le_refl _), Nat.sub_self]
    rfl
  rw [hs3] at c5
  have l3 : D.left = -1 → D3.left = -1 := fun e => c4.left (l2 e)
  rw [hU] at c2
  have hg2 : (fs ++ [[([] : By)] ++ fronts [] s]).getD fs.length [] = [[]] ++ fronts [] s := by rw [List.getD_eq_getElem?_getD, List.getElem?_concat_length]; rfl
  rcases c5.sync hfo (b := s) (by rw [hg2]; exact fronts_last [[]] [] s rfl) with ⟨d0, f1⟩ | ⟨f1, f2, f3, f4⟩ | ⟨f1, f2, f3, f4⟩
  · have e1 : syncA o D3 = ((Dsk.remove o D3).1, 11) := by unfold syncA; rw [f1]; rfl
    rw [inOrd_err (by rw [e1]; simp), e1]
    exact .inr (.inr ⟨.inl ⟨rfl, fun e => by have := l3 e; omega⟩, rem D3 _ _ c5 l3⟩)
  · have e1 : syncA o D3 = ((Dsk.remove o (sync o D3).1).1, 10) := by unfold syncA; rw [orRem_err (by rw [f1]; decide), f1]
    rw [inOrd_err (by rw [e1]; simp), e1]
    refine .inr (.inr ⟨.inr (.inr ⟨rfl, .inr f2, ?_⟩), rem _ _ _ f4 (fun e => f3.left (l3 e))⟩)
    rw [hoo, hWW]; exact c2
  have e2 : syncA o D3 = sync o D3 := orRem_ok f1
  rw [inOrd_ok (by rw [e2]; exact f1), e2]
  generalize (sync o D3).1 = D4 at *
  have hs4 : (fs ++ [[([] : By)] ++ fronts [] s]).set fs.length [s] = fs ++ [[s]] := by
    rw [List.set_append_right _ _ (Nat.le_refl _), Nat.sub_self]
    rfl
  rw [hs4] at f4
  have l4 : D.left = -1 → D4.left = -1 := fun e => f3.left (l3 e)
  rcases f4.rename (n := n) hfo hn1 with ⟨d0, g1⟩ | ⟨g1, g2, g3⟩
  · rw [inOrd_err (by rw [g1]; simp), g1]
    exact .inr (.inr ⟨.inl ⟨rfl, fun e => by have := l4 e; omega⟩, _, _, _, f4, m2, fun e => by have := l4 e; omega⟩)
  rw [inOrd_ok g1]
  generalize (rename o n D4).1 = D5 at *
  rw [hW2] at g3
  have l5 : D.left = -1 → D5.left = -1 := fun e => g2.left (l4 e)
  rcases g3.syncDir with ⟨d0, i1⟩ | ⟨i1, i2, i3⟩
  · rw [inOrd_err (by rw [i1]; simp), i1]
    refine .inr (.inl ⟨rfl, fun e => by have := l5 e; omega, _, k - 1 - 1, ?_, m2⟩)
    rw [hoo, hWW]
    exact g3
  rw [inOrd_ok i1]
  refine .inl ⟨rfl, ?_⟩
  show Wrote n s D room fs ds r k (syncDir D5).1
  refine ⟨by rw [hoo, hWW]; exact i3, ?_, fun e => i2.left (l5 e), by rw [hoo, hWW]; exact c2, c3, f2⟩
  rw [i2.1, g2.1, f3.1, c4.1, b2.1, a2.1]

end Go.Proofs.YtleomppgkikhnaaGreat.Dsk
namespace Go.Proofs.YtleomppgkikhnaaGreat.Dsk
open Go.Proofs.YtleomppgkikhnaaGreat

/-- So many names more, at most. -/
def Grows (f : Dk → Dk × Int) (k : Nat) : Prop := ∀ d, (dir (f d).1).length ≤ (dir d).length + k
theorem dir_of (room : Nat) (fs : List (List By)) (l : List Row) (r : Row) (o k : Nat) (x : Int) : dir ⟨room, fs, l ++ [r], o, k, x⟩ = r := by simp [dir, List.getLastD_eq_getLast?]
theorem without_len8 (r : Row) (n : ByteArray) : (without r n).length ≤ r.length := List.length_filter_le _ _
theorem grows_act {f : Dk → Dk × Int} {k : Nat} (h : Grows f k) : Grows (fun d => act d f) k := fun d => by
  show (dir (act d f).1).length ≤ _
  unfold act
  split
  · exact Nat.le_add_right _ _
  · exact h (on d)
theorem grows_create (n : ByteArray) : Grows (create n) 1 := grows_act fun d => by
  unfold createB
  split
  · exact Nat.le_add_right _ _
  · split
    · exact Nat.le_add_right _ _
    · show (dir { ({ d with files := d.files ++ [[[]]] } : Dk) with dirs := d.dirs ++ [without (dir d) n ++ [(n, d.files.length)]] }).length ≤ _
      rw [dir_of, List.length_append]
      have := without_len8 (dir d) n
      simp only [List.length_cons, List.length_nil]
      omega
theorem grows_append (n : ByteArray) (s : By) : Grows (append n s) 0 := grows_act fun d => by
  unfold appendB
  split
  · exact Nat.le_refl _
  · split
    · exact Nat.le_refl _
    · split
      · exact Nat.le_refl _
      · exact Nat.le_refl _
theorem grows_sync (n : ByteArray) : Grows (sync n) 0 := grows_act fun d => by
  unfold syncB
  split
  · exact Nat.le_refl _
  · split
    · exact Nat.le_refl _
    · exact Nat.le_refl _
theorem grows_rename (n m : ByteArray) : Grows (rename n m) 1 := grows_act fun d => by
  unfold renameB
  split
  · exact Nat.le_add_right _ _
  · split
    · exact Nat.le_add_right _ _
    · rw [dir_of, List.length_append]
      have h1 := without_len8 (without (dir d) n) m
      have h2 := without_len8 (dir d) n
      simp only [List.length_cons, List.length_nil]
      omega
theorem grows_remove (n : ByteArray) : Grows (remove n) 0 := grows_act fun d => by
  unfold removeB
  split
  · exact Nat.le_refl _
  · rw [dir_of]
    have := without_len8 (dir d) n
    omega
theorem grows_syncDir : Grows syncDir 0 := grows_act fun d => by
  exact Nat.le_of_eq (congrArg List.length (dir_of d.room d.files [] (dir d) d.ops d.fail d.left))
theorem grows_clear (o : ByteArray) : Grows (clearA o) 0 := grows_remove o
theorem grows_orRem {f : Dk → Dk × Int} (o : ByteArray) (h : Grows f 0) : Grows (fun d => orRem o (f d)) 0 := fun d => by
  show (dir (orRem o (f d)).1).length ≤ _
  unfold orRem
  split
  · exact h d
  · exact Nat.le_trans (grows_remove o _) (h d)
theorem grows_inOrd {f : Dk → Dk × Int} {l : List (Dk → Dk × Int)} {a b : Nat} (h : Grows f a) (k : Grows (inOrd l) b) : Grows (inOrd (f :: l)) (a + b) := fun d => by
  unfold inOrd
  have h1 := h d
  split
  · have := k (f d).1
    omega
  · omega
theorem grows_nil : Grows (inOrd []) 0 := fun _ => Nat.le_refl _
theorem grows_write (n : ByteArray) (s : By) : Grows (write n s) 2 := fun d => by
  unfold write
  split
  · exact grows_inOrd (b := 2) (grows_clear _) (grows_inOrd (b := 1) (grows_create _) (grows_inOrd (b := 1) (grows_orRem _ (grows_append _ _)) (grows_inOrd (b := 1) (grows_orRem _ (grows_sync _)) (grows_inOrd (b := 0) (grows_rename _ _) (grows_inOrd grows_syncDir grows_nil))))) d
  · exact Nat.le_add_right _ _
theorem grows_rems : ∀ (l : List ByteArray), Grows (inOrd (l.map remove ++ [syncDir])) 0
  | [] => grows_inOrd grows_syncDir grows_nil
  | n :: r => grows_inOrd (grows_remove n) (grows_rems r)
theorem grows_clean : Grows clean 0 := fun d => grows_rems _ d
/-- An act, by its number. -/
def does8 (k : Nat) (n : ByteArray) (s : By) (N : Int) (d : Dk) : Dk × Int :=
  if k < 5 then write n s d else if k = 5 then clean d else if k = 6 then create n d else if k = 7 then append n s d else if k = 8 then (setFail (N.tmod 5) d, 0) else (setStop (N.tmod 40) d, 0)
theorem grows_does8 (k : Nat) (n : ByteArray) (s : By) (N : Int) : Grows (does8 k n s N) 2 := fun d => by
  unfold does8
  split
  · exact grows_write n s d
  · split
    · exact Nat.le_trans (grows_clean d) (by omega)
    · split
      · exact Nat.le_trans (grows_create n d) (by omega)
      · split
        · exact Nat.le_trans (grows_append n s d) (by omega)
        · split
          · exact Nat.le_add_right _ _
          · exact Nat.le_add_right _ _

end Go.Proofs.YtleomppgkikhnaaGreat.Dsk
namespace Go.Proofs.YtleomppgkikhnaaGreat.Dsk
open Go.Proofs.YtleomppgkikhnaaGreat

theorem Wt.read {d : Dk} {room : Nat} {fs : List (List By)} {ds : List Row} {r : Row} {k : Nat} (h : Wt d room fs (ds ++ [r]) k) (hl : d.left = -1) {n : ByteArray} {f : Nat} (hf : find r n = some f) {b : By} (hb : fs.getD f [] = [b]) : read n d = (b, 0) := by
  unfold Dsk.read
  rw [if_neg (by omega), h.dir, hf]
  simp only
  unfold now hist
  rw [h.files, hb]
  rfl
theorem list_len (d : Dk) : (list d).length = (dir d).length := by
  unfold list
  rw [(sortN_perm _).length_eq]
  unfold names
  rw [List.length_map]
/-- With power for ever, nothing that fails, and room: it is written. -/
theorem write_good {n : ByteArray} (hn : maySwap n = true) (s : By) {D : Dk} {room : Nat} {fs : List (List By)} {ds : List Row} {r : Row} {k : Nat} (h : Wt D room fs (ds ++ [r]) k) (hr : ∀ p ∈ r, p.2 < fs.length) (hl : D.left = -1) (k1 : k ≠ 1) (k2 : k - 1 ≠ 1)
    (hu : U fs (without r (tilde n)) + s.length ≤ room) : (write n s D).2 = 0 ∧ Wrote n s D room fs ds r k (write n s D).1 := by
  rcases write_all hn s h hr with h | h | h
  · exact h
  · exact absurd hl h.left
  · rcases h.err with ⟨_, e⟩ | ⟨_, e⟩ | ⟨_, e, _⟩
    · exact absurd hl e
    · omega
    · omega
theorem without_ne_all {r : Row} {o : ByteArray} (h : ∀ p ∈ r, p.1 ≠ o) : without r o = r := without_none (find_none.2 h)

/-! ## SwapNames -/
def nO : ByteArray := ⟨#[111, 116, 104, 101, 114]⟩
def namD : Dk := (append nO [120] (create nO (fresh 1000)).1).1
theorem nam_create : (create nO (fresh 1000)).2 = 0 := by decide
theorem nam_append : (append nO [120] (create nO (fresh 1000)).1).2 = 0 := by decide
theorem nam_wt : Wt namD 1000 [[[], [120]]] ([[]] ++ [[(nO, 0)]]) 0 := ⟨by decide, by decide, by decide, by decide⟩
theorem nam_left : namD.left = -1 := by decide
theorem nam_ops : namD.ops = 2 := by decide
theorem nam_read : read nO namD = ([120], 0) := by decide
theorem nam_list : (list namD).length = 1 := by decide
theorem nam_write {n : ByteArray} (hn : maySwap n = true) (ho : n ≠ nO) (s : By) (hs : s.length ≤ 400) :
    (write n s namD).2 = 0 ∧ read nO (write n s namD).1 = ([120], 0) ∧ read n (write n s namD).1 = (s, 0) ∧ (write n s namD).1.ops = 8 ∧ (list (write n s namD).1).length = 2 := by
  have hW : without [(nO, 0)] (tilde n) = [(nO, 0)] := without_ne_all (fun p hp => by simp at hp; subst hp; exact tilde_ne (by decide))
  have hW2 : without [(nO, 0)] n = [(nO, 0)] := without_ne_all (fun p hp => by simp at hp; subst hp; exact fun e => ho e.symm)
  obtain ⟨h0, h⟩ := write_good hn s nam_wt (by simp) nam_left (by decide) (by decide) (by rw [hW]; simp [U]; omega)
  have hl := h.left nam_left
  have hwt := h.wt
  rw [hW, hW2] at hwt
  have hwt : Wt (write n s namD).1 1000 ([[[], [120]]] ++ [[s]]) ([] ++ [[(nO, 0)] ++ [(n, 1)]]) 0 := hwt
  refine ⟨h0, ?_, hwt.read hl (find_snoc_self (by unfold find; rw [if_neg (fun e => ho e.symm)]; rfl)) rfl, by rw [h.ops, nam_ops], by rw [list_len, hwt.dir]; rfl⟩
  unfold Dsk.read
  rw [if_neg (by omega), hwt.dir]
  have : find ([(nO, 0)] ++ [(n, 1)]) nO = some 0 := by simp [find]
  rw [this]
  simp only
  unfold now hist
  rw [hwt.files]
  rfl

/-! ## A file ck -/
def ck : ByteArray := ⟨#[99, 107]⟩
def ckT : ByteArray := ⟨#[99, 107, 126]⟩
theorem ck_tilde : tilde ck = ckT := by decide
theorem ck_may : maySwap ck = true := by decide
theorem ck_ne : ck ≠ tilde ck := by decide
theorem ck_wo (f : Nat) : without [(ck, f)] (tilde ck) = [(ck, f)] := without_ne_all (fun p hp => by simp at hp; subst hp; exact ck_ne)
theorem ck_wo2 (f : Nat) : without [(ck, f)] ck = [] := by simp [without]
theorem ck_lt : Lab.lt ck ckT = true := by
  show Op.bytesLess ck.toList ckT.toList = true
  rw [ByteArray.toList_eq, ByteArray.toList_eq]
  decide
theorem ck_sort : sortN [ck, ckT] = [ck, ckT] := by
  show (if Lab.lt ck ckT = true then [ck, ckT] else _) = _
  rw [if_pos ck_lt]
/-- One file, of one text, that is synced. -/
structure One (D : Dk) (room : Nat) (b : By) (k : Nat) : Prop where
  wt : ∃ fs f, Wt D room fs ([] ++ [[(ck, f)]]) k ∧ fs.getD f [] = [b] ∧ f < fs.length
/-- Whatever row of names is left: the file has one of two texts; beside it there is its other at most. -/
def Left2 (D : Dk) (room : Nat) (P : By → Prop) : Prop :=
  D.room = room ∧ ∀ x ∈ D.dirs, ∃ f b, hist D f = [b] ∧ P b ∧ (x = [(ck, f)] ∨ ∃ g, x = [(ck, f), (ckT, g)])
theorem hist_wt {D : Dk} {room : Nat} {fs : List (List By)} {ds : List Row} {k : Nat} (h : Wt D room fs ds k) (f : Nat) : hist D f = fs.getD f [] := by unfold hist; rw [h.files]
theorem getD_app {α : Type} (a b : List (List α)) {i : Nat} (h : i < a.length) : (a ++ b).getD i [] = a.getD i [] := by
  rw [List.getD_eq_getElem?_getD, List.getElem?_append_left h, List.getD_eq_getElem?_getD]
theorem getD_end {α : Type} (a : List (List α)) (x : List α) : (a ++ [x]).getD a.length [] = x := by
  rw [List.getD_eq_getElem?_getD, List.getElem?_concat_length]; rfl
theorem One.left2 {D : Dk} {room : Nat} {b : By} {k : Nat} (h : One D room b k) : Left2 D room (fun x => x = b) := by
  obtain ⟨fs, f, h, h1, h2⟩ := h.wt
  refine ⟨h.room, fun x hx => ⟨f, b, by rw [hist_wt h, h1], rfl, .inl ?_⟩⟩
  rw [h.dirs] at hx
  simpa using hx
theorem Left2.mono {D : Dk} {room : Nat} {P Q : By → Prop} (h : Left2 D room P) (k : ∀ b, P b → Q b) : Left2 D room Q :=
  ⟨h.1, fun x hx => by obtain ⟨f, b, h1, h2, h3⟩ := h.2 x hx; exact ⟨f, b, h1, k b h2, h3⟩⟩
/-- .. now, whatever was. -/
def Now (D : Dk) (room : Nat) (b : By) : Prop := ∃ fs f ds k, Wt D room fs (ds ++ [[(ck, f)]]) k ∧ fs.getD f [] = [b] ∧ f < fs.length
theorem One.now {D : Dk} {room : Nat} {b : By} {k : Nat} (h : One D room b k) : Now D room b := by
  obtain ⟨fs, f, h, h1, h2⟩ := h.wt
  exact ⟨fs, f, _, k, h, h1, h2⟩
theorem Now.read {D : Dk} {room : Nat} {b : By} (h : Now D room b) (hl : D.left = -1) : Dsk.read ck D = (b, 0) := by
  obtain ⟨fs, f, ds, k, h, h1, h2⟩ := h
  exact h.read hl (by simp [find]) h1
theorem Now.used {D : Dk} {room : Nat} {b : By} (h : Now D room b) : Dsk.used D = b.length := by
  obtain ⟨fs, f, ds, k, h, h1, h2⟩ := h
  rw [h.used]
  unfold U
  simp only [List.map_cons, List.map_nil, List.sum_cons, List.sum_nil]
  rw [h1]
  rfl
theorem Now.list {D : Dk} {room : Nat} {b : By} (h : Now D room b) : Dsk.list D = [ck] := by
  obtain ⟨fs, f, ds, k, h, h1, h2⟩ := h
  unfold Dsk.list
  rw [h.dir]
  rfl
/-- A writing of ck: told OK it is the new one; else it was, or is both, as the error says. -/
theorem One.write {D : Dk} {room : Nat} {b : By} {k : Nat} (h : One D room b k) (s : By) :
    ((write ck s D).2 = 0 ∧ One (write ck s D).1 room s (k - 1 - 1) ∧ (write ck s D).1.ops = D.ops + 6 ∧ (D.left = -1 → (write ck s D).1.left = -1) ∧ ¬ room < b.length + s.length ∧ k ≠ 1 ∧ k - 1 ≠ 1) ∨
    ((write ck s D).2 = 11 ∧ D.left ≠ -1 ∧ Left2 (write ck s D).1 room (fun x => x = b ∨ x = s)) ∨
    (((write ck s D).2 = 9 ∧ room < b.length + s.length ∨ (write ck s D).2 = 10 ∧ (k = 1 ∨ k - 1 = 1) ∧ ¬ room < b.length + s.length) ∧ Left2 (write ck s D).1 room (fun x => x = b) ∧ (D.left = -1 → (write ck s D).1.left = -1 ∧ Now (write ck s D).1 room b)) := by
  obtain ⟨fs, f, h, h1, h2⟩ := h.wt
  have hU : U fs [(ck, f)] = b.length := by
    unfold U
    simp only [List.map_cons, List.map_nil, List.sum_cons, List.sum_nil]
    rw [h1]
    rfl
  have mids : ∀ (E : Dk) (H : List (List By)) (ds' : List Row) (k' : Nat), Wt E room (fs ++ H) ds' k' → Mids ck fs [] [(ck, f)] ds' → Left2 E room (fun x => x = b) := fun E H ds' k' hE hm => by
    refine ⟨hE.room, fun x hx => ⟨f, b, by rw [hist_wt hE, getD_app _ _ h2, h1], rfl, ?_⟩⟩
    rw [hE.dirs] at hx
    have := hm x hx
    rw [ck_wo] at this
    rcases this with e | e | e | e
    · simp at e
    · exact .inl e
    · exact .inl e
    · exact .inr ⟨fs.length, by rw [e, ck_tilde]; rfl⟩
  rcases write_all ck_may s h (by simpa using h2) with ⟨h0, g⟩ | g | g
  · have hwt := g.wt
    rw [ck_wo, ck_wo2] at hwt
    have hro := g.room
    rw [ck_wo, hU] at hro
    exact .inl ⟨h0, ⟨_, fs.length, hwt, getD_end _ _, by simp⟩, g.ops, g.left, hro, g.k1, g.k2⟩
  · obtain ⟨ds', k', hE, hm⟩ := g.wt
    refine .inr (.inl ⟨g.err, g.left, ?_⟩)
    rw [ck_wo, ck_wo2] at hE
    refine ⟨hE.room, fun x hx => ?_⟩
    rw [hE.dirs] at hx
    rcases List.mem_append.1 hx with hx | hx
    · have := hm x hx
      rw [ck_wo] at this
      refine ⟨f, b, by rw [hist_wt hE, getD_app _ _ h2, h1], .inl rfl, ?_⟩
      rcases this with e | e | e | e
      · simp at e
      · exact .inl e
      · exact .inl e
      · exact .inr ⟨fs.length, by rw [e, ck_tilde]; rfl⟩
    · exact ⟨fs.length, s, by rw [hist_wt hE, getD_end], .inr rfl, .inl (by simpa using hx)⟩
  · obtain ⟨H, ds', k', hE, hm, hl⟩ := g.wt
    have hL := mids _ _ _ _ hE hm
    have he := g.err
    rw [ck_wo, hU] at he
    rcases he with ⟨e, e2⟩ | he
    · exact .inr (.inl ⟨e, e2, hL.mono (fun _ x => .inl x)⟩)
    · refine .inr (.inr ⟨he, hL, fun e => ?_⟩)
      obtain ⟨a1, l, a2⟩ := hl e
      rw [ck_wo] at a2
      refine ⟨a1, _, f, l, k', by rw [← a2]; exact hE, by rw [getD_app _ _ h2, h1], ?_⟩
      rw [List.length_append]
      omega
/-- The first writing, on a new disk. -/
theorem one_first (room : Nat) (s : By) (hs : s.length ≤ room) : (write ck s (fresh (room : Int))).2 = 0 ∧ One (write ck s (fresh (room : Int))).1 room s 0 ∧ (write ck s (fresh (room : Int))).1.left = -1 ∧ (write ck s (fresh (room : Int))).1.ops = 6 := by
  have h0 : Wt (fresh (room : Int)) room [] ([] ++ [[]]) 0 := ⟨by simp [fresh], rfl, rfl, rfl⟩
  obtain ⟨e, h⟩ := write_good ck_may s h0 (by simp) rfl (by decide) (by decide) (by simp [U, without]; omega)
  exact ⟨e, ⟨_, 0, h.wt, rfl, by simp⟩, h.left rfl, h.ops⟩
/-- What is left of it. -/
theorem left2_crash {D : Dk} {room : Nat} {P : By → Prop} (h : Left2 D room P) (ok : Ok D) (k : Int) (ks : List Int) :
    ∃ b, P b ∧ read ck (crash k ks D) = (b, 0) ∧ (clean (crash k ks D)).2 = 0 ∧ One (clean (crash k ks D)).1 room b 0 ∧ (clean (crash k ks D)).1.left = -1 := by
  obtain ⟨f, b, h1, h2, h3⟩ := h.2 _ (rowAt_mem ok k)
  have hm : momAt D ks f = b := mom_one h1 ks
  have hl : (crash k ks D).left = -1 := rfl
  have fin : ∀ (fs : List (List By)) (r : Row) (i : Nat), Wt (crash k ks D) room fs ([] ++ [r]) 0 → find r ck = some i → fs.getD i [] = [b] → i < fs.length → (list (crash k ks D) = [ck] ∧ r = [(ck, i)] ∨ list (crash k ks D) = [ck, ckT] ∧ (∃ j, find r ckT = some j) ∧ without r ckT = [(ck, i)]) →
      ∃ b, P b ∧ read ck (crash k ks D) = (b, 0) ∧ (clean (crash k ks D)).2 = 0 ∧ One (clean (crash k ks D)).1 room b 0 ∧ (clean (crash k ks D)).1.left = -1 := fun fs r i hw hf hg hi hc => by
    refine ⟨b, h2, hw.read hl hf hg, ?_⟩
    rcases hc with ⟨c1, rfl⟩ | ⟨c1, ⟨j, c2⟩, c3⟩
    · have e : clean (crash k ks D) = inOrd [syncDir] (crash k ks D) := by
        unfold clean cleanL
        rw [c1]
        rfl
      rw [e]
      rcases hw.syncDir with ⟨x, _⟩ | ⟨x, y, z⟩
      · omega
      · rw [inOrd_ok x]
        exact ⟨rfl, ⟨fs, i, z, hg, hi⟩, y.left hl⟩
    · have e : clean (crash k ks D) = inOrd [remove ckT, syncDir] (crash k ks D) := by
        unfold clean cleanL
        rw [c1]
        rfl
      rw [e]
      rcases hw.remove c2 with ⟨x, _⟩ | ⟨x, y, z⟩
      · omega
      · rw [inOrd_ok x]
        rw [c3] at z
        rcases z.syncDir with ⟨x2, _⟩ | ⟨x2, y2, z2⟩
        · have := y.left hl; omega
        · rw [inOrd_ok x2]
          exact ⟨rfl, ⟨fs, i, z2, hg, hi⟩, y2.left (y.left hl)⟩
  have hwt : ∀ l, picks D k ks = l → Wt (crash k ks D) room (l.map (fun p => [p.2])) ([] ++ [numbered 0 l]) 0 := fun l e => ⟨h.1, by rw [← e]; rfl, by rw [← e]; rfl, rfl⟩
  have hlist := crash_list ok k ks
  have hp := picks_perm ok k ks
  rcases h3 with h3 | ⟨g, h3⟩
  · rw [h3] at hp hlist
    have hp : (picks D k ks).Perm [(ck, momAt D ks f)] := hp
    rw [hm] at hp
    exact fin _ _ 0 (hwt _ (List.perm_singleton.1 hp)) rfl rfl (by simp) (.inl ⟨hlist, rfl⟩)
  · rw [h3] at hp hlist
    have hp : (picks D k ks).Perm [(ck, momAt D ks f), (ckT, momAt D ks g)] := hp
    rw [hm] at hp
    have hlist : list (crash k ks D) = [ck, ckT] := hlist.trans ck_sort
    have two : picks D k ks = [(ck, b), (ckT, momAt D ks g)] ∨ picks D k ks = [(ckT, momAt D ks g), (ck, b)] := by
      have hlen := hp.length_eq
      match hpk : picks D k ks, hlen with
      | [x, y], _ =>
        rw [hpk] at hp
        have hx : x ∈ [(ck, b), (ckT, momAt D ks g)] := hp.mem_iff.1 (by simp)
        have hy : (ck, b) ∈ [x, y] := hp.mem_iff.2 (by simp)
        have hz : (ckT, momAt D ks g) ∈ [x, y] := hp.mem_iff.2 (by simp)
        have hne : (ck, b) ≠ (ckT, momAt D ks g) := fun e => by
          have : ck = ckT := congrArg Prod.fst e
          exact absurd this (by decide)
        simp only [List.mem_cons, List.not_mem_nil, or_false] at hx hy hz
        rcases hx with rfl | rfl
        · rcases hz with e | e
          · exact absurd e.symm hne
          · exact .inl (by rw [e])
        · rcases hy with e | e
          · exact absurd e hne
          · exact .inr (by rw [e])
    rcases two with e | e
    · exact fin _ _ 0 (hwt _ e) (by simp [numbered, find]) rfl (by simp) (.inr ⟨hlist, ⟨1, show find [(ck, 0), (ckT, 1)] ckT = some 1 by decide⟩, show without [(ck, 0), (ckT, 1)] ckT = [(ck, 0)] by decide⟩)
    · exact fin _ _ 1 (hwt _ e) (show find [(ckT, 0), (ck, 1)] ck = some 1 by decide) rfl (by simp) (.inr ⟨hlist, ⟨0, show find [(ckT, 0), (ck, 1)] ckT = some 0 by decide⟩, show without [(ckT, 0), (ck, 1)] ckT = [(ck, 1)] by decide⟩)

end Go.Proofs.YtleomppgkikhnaaGreat.Dsk
namespace Go.Proofs.YtleomppgkikhnaaGreat.Dsk
open Go.Proofs.YtleomppgkikhnaaGreat

def pkRow (d : Dk) (ks : List Int) (r : Row) (n : Nat) : List (ByteArray × By) := (r.filter (fun p => decide (p.2 = n))).map (fun p => (p.1, momAt d ks n))
def pkN (d : Dk) (k : Int) (ks : List Int) (n : Nat) : List (ByteArray × By) := (List.range n).flatMap (pkRow d ks (rowAt d k))
def pkI (d : Dk) (k : Int) (ks : List Int) (n i : Nat) : List (ByteArray × By) := pkN d k ks n ++ pkRow d ks ((rowAt d k).take i) n
theorem pkN_all (d : Dk) (k : Int) (ks : List Int) : pkN d k ks d.files.length = picks d k ks := rfl
theorem pkN_zero (d : Dk) (k : Int) (ks : List Int) : pkN d k ks 0 = [] := rfl
theorem pkI_zero (d : Dk) (k : Int) (ks : List Int) (n : Nat) : pkI d k ks n 0 = pkN d k ks n := by simp [pkI, pkRow]
theorem pkI_last (d : Dk) (k : Int) (ks : List Int) (n : Nat) : pkI d k ks n (rowAt d k).length = pkN d k ks (n + 1) := by
  unfold pkI pkN
  rw [List.take_length, List.range_succ, List.flatMap_append]
  simp
theorem pkI_no {d : Dk} {k : Int} {ks : List Int} {n i : Nat} (h : i < (rowAt d k).length) (hn : (rowAt d k)[i].2 ≠ n) : pkI d k ks n (i + 1) = pkI d k ks n i := by
  unfold pkI pkRow
  rw [List.take_succ_eq_append_getElem h, List.filter_append]
  simp [hn]
theorem pkI_yes {d : Dk} {k : Int} {ks : List Int} {n i : Nat} (h : i < (rowAt d k).length) (hn : (rowAt d k)[i].2 = n) : pkI d k ks n (i + 1) = pkI d k ks n i ++ [((rowAt d k)[i].1, momAt d ks n)] := by
  unfold pkI pkRow
  rw [List.take_succ_eq_append_getElem h, List.filter_append, List.map_append, List.append_assoc]
  simp [hn]
theorem filter_split (r : Row) (n : Nat) : (r.filter (fun p => decide (p.2 < n + 1))).length = (r.filter (fun p => decide (p.2 < n))).length + (r.filter (fun p => decide (p.2 = n))).length := by
  induction r with
  | nil => rfl
  | cons p r ih =>
    by_cases h1 : p.2 < n
    · rw [List.filter_cons_of_pos (by simp; omega), List.filter_cons_of_pos (by simpa using h1), List.filter_cons_of_neg (by simp; omega)]
      simp only [List.length_cons]; omega
    · by_cases h2 : p.2 = n
      · rw [List.filter_cons_of_pos (by simp; omega), List.filter_cons_of_neg (by simpa using h1), List.filter_cons_of_pos (by simpa using h2)]
        simp only [List.length_cons]; omega
      · rw [List.filter_cons_of_neg (by simp; omega), List.filter_cons_of_neg (by simpa using h1), List.filter_cons_of_neg (by simpa using h2)]
        exact ih
theorem pkN_len (d : Dk) (k : Int) (ks : List Int) : ∀ n, (pkN d k ks n).length = ((rowAt d k).filter (fun p => decide (p.2 < n))).length
  | 0 => by rw [pkN_zero, List.filter_eq_nil_iff.2 (by simp)]; rfl
  | n + 1 => by
    have := pkN_len d k ks n
    unfold pkN at this ⊢
    rw [List.range_succ, List.flatMap_append, List.length_append, filter_split, this]
    simp [pkRow]
theorem pkI_len (d : Dk) (k : Int) (ks : List Int) (n i : Nat) : (pkI d k ks n i).length ≤ 2 * (rowAt d k).length := by
  unfold pkI
  rw [List.length_append, pkN_len]
  unfold pkRow
  rw [List.length_map]
  have h1 := List.length_filter_le (fun p : ByteArray × Nat => decide (p.2 < n)) (rowAt d k)
  have h2 := List.length_filter_le (fun p : ByteArray × Nat => decide (p.2 = n)) ((rowAt d k).take i)
  have h3 : ((rowAt d k).take i).length ≤ (rowAt d k).length := by rw [List.length_take]; omega
  omega
theorem numbered_app : ∀ (i : Nat) (l : List (ByteArray × By)) (x : ByteArray × By), numbered i (l ++ [x]) = numbered i l ++ [(x.1, i + l.length)]
  | i, [], x => by simp [numbered]
  | i, p :: r, x => by
    simp only [List.cons_append, numbered]
    rw [numbered_app (i + 1) r x]
    simp only [List.length_cons]
    rw [show i + 1 + r.length = i + (r.length + 1) by omega]
theorem numbered_length : ∀ (i : Nat) (l : List (ByteArray × By)), (numbered i l).length = l.length
  | _, [] => rfl
  | i, _ :: r => by simp [numbered, numbered_length (i + 1) r]
/-- The disk that is being made. -/
def half (d : Dk) (ps : List (ByteArray × By)) : Dk := ⟨d.room, ps.map (fun p => [p.2]), [[]], 0, 0, -1⟩
theorem half_all (d : Dk) (k : Int) (ks : List Int) : { half d (picks d k ks) with dirs := [numbered 0 (picks d k ks)] } = crash k ks d := rfl
theorem half_app (d : Dk) (ps : List (ByteArray × By)) (x : ByteArray × By) : half d (ps ++ [x]) = { half d ps with files := (half d ps).files ++ [[x.2]] } := by simp [half]

end Go.Proofs.YtleomppgkikhnaaGreat.Dsk
