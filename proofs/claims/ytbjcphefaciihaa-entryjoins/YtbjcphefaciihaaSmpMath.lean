/-
  Plain: samples, and their bytes.
-/
import Derived.Test.YtbjcphefaciihaaMath
namespace Go.Proofs.Ytbjcphefaciihaa.Smp

/-- A time and a value. -/
abbrev Sm := Int × Int
def Ok (s : Sm) : Prop := 0 ≤ s.1 ∧ s.1 < 18446744073709551616 ∧ -9223372036854775808 ≤ s.2 ∧ s.2 ≤ 9223372036854775807
/-- They go round. -/
def u (x : Int) : Int := x % 18446744073709551616
def i (x : Int) : Int := (x + 9223372036854775808) % 18446744073709551616 - 9223372036854775808

theorem u_bd (x : Int) : 0 ≤ u x ∧ u x < 18446744073709551616 := by unfold u; omega
theorem i_bd (x : Int) : -9223372036854775808 ≤ i x ∧ i x ≤ 9223372036854775807 := by unfold i; omega
theorem u_id {x : Int} (h0 : 0 ≤ x) (h1 : x < 18446744073709551616) : u x = x := by unfold u; omega
theorem i_id {x : Int} (h0 : -9223372036854775808 ≤ x) (h1 : x ≤ 9223372036854775807) : i x = x := by unfold i; omega

def riseB : List Sm → Bool
  | a :: b :: r => decide (a.1 < b.1) && riseB (b :: r)
  | _ => true
theorem riseB_iff : ∀ l : List Sm, riseB l = true ↔ ∀ k (h : k + 1 < l.length), (l[k]).1 < (l[k + 1]).1
  | [] => by simp [riseB]
  | [a] => by simp [riseB]
  | a :: b :: r => by
    have ih := riseB_iff (b :: r)
    simp only [riseB, Bool.and_eq_true, decide_eq_true_eq]
    constructor
    · rintro ⟨h1, h2⟩ k hk
      cases k with
      | zero => simpa using h1
      | succ k => have := ih.1 h2 k (by simpa using hk); simpa using this
    · intro h
      refine ⟨by simpa using h 0 (by simp), ih.2 fun k hk => ?_⟩
      have := h (k + 1) (by simpa using hk)
      simpa using this
theorem riseB_no {l : List Sm} {k : Nat} (h : k + 1 < l.length) (hn : (l[k + 1]).1 ≤ (l[k]).1) : riseB l = false := by
  cases hr : riseB l with
  | false => rfl
  | true => have := (riseB_iff l).1 hr k h; omega

/-- Chapter 4, D1: 0 (right), 6 (too many or none), 8 (no order). -/
def check (l : List Sm) : Int := if l.length = 0 ∨ 20 < l.length then 6 else if riseB l = true then 0 else 8
theorem check_many {l : List Sm} (h : l.length = 0 ∨ 20 < l.length) : check l = 6 := by unfold check; rw [if_pos h]
theorem check_order {l : List Sm} (h : ¬ (l.length = 0 ∨ 20 < l.length)) (h2 : riseB l = false) : check l = 8 := by unfold check; rw [if_neg h, if_neg (by simp [h2])]
theorem check_ok {l : List Sm} (h : ¬ (l.length = 0 ∨ 20 < l.length)) (h2 : riseB l = true) : check l = 0 := by unfold check; rw [if_neg h, if_pos h2]
theorem of_check {l : List Sm} (h : check l = 0) : 0 < l.length ∧ l.length ≤ 20 ∧ riseB l = true := by
  unfold check at h
  split at h
  · omega
  · split at h
    · rename_i a b; exact ⟨by omega, by omega, b⟩
    · omega

/-- What stands for a sample that has one ahead: its step, its bytes. -/
def stp (a x : Sm) : Int := u (x.1 - a.1)
def one (a : Sm) (st : Int) (x : Sm) : List UInt8 := Num.put (Num.zig (i (stp a x - st))) ++ Num.put (Num.zig (i (x.2 - a.2)))
def body (a : Sm) (st : Int) : List Sm → List UInt8
  | [] => []
  | x :: r => one a st x ++ body x (stp a x) r
def putS : List Sm → List UInt8
  | [] => []
  | a :: r => Num.put (r.length + 1) ++ (Num.put a.1.toNat ++ (Num.put (Num.zig a.2) ++ body a 0 r))

def nxt (a : Sm) (st : Int) (d e : Int) : Sm := (u (a.1 + u (st + d)), i (a.2 + e))
def takeN : Nat → Sm → Int → List UInt8 → Option (List Sm × List UInt8)
  | 0, _, _, s => some ([], s)
  | n + 1, a, st, s =>
    match Num.take s with
    | none => none
    | some (d, p) =>
      match Num.take p with
      | none => none
      | some (e, q) =>
        match takeN n (nxt a st (Num.zag d) (Num.zag e)) (u (st + Num.zag d)) q with
        | none => none
        | some (l, r) => some (nxt a st (Num.zag d) (Num.zag e) :: l, r)
def takeF (s : List UInt8) : Option (Sm × List UInt8) :=
  match Num.take s with
  | none => none
  | some (t, x) =>
    match Num.take x with
    | none => none
    | some (v, y) => some (((t : Int), Num.zag v), y)
def takeS (s : List UInt8) : Option (List Sm × List UInt8) :=
  match Num.take s with
  | none => none
  | some (n, r) =>
    if n < 1 ∨ 20 < n then none
    else match takeF r with
      | none => none
      | some (a, y) =>
        match takeN (n - 1) a 0 y with
        | none => none
        | some (l, z) => if riseB (a :: l) = true then some (a :: l, z) else none

theorem nxt_back {a x : Sm} {st : Int} (_hs : 0 ≤ st ∧ st < 18446744073709551616) (hx : Ok x) :
    u (st + i (stp a x - st)) = stp a x ∧ nxt a st (i (stp a x - st)) (i (x.2 - a.2)) = x := by
  obtain ⟨h1, h2, h3, h4⟩ := hx
  have e : u (st + i (stp a x - st)) = stp a x := by unfold stp u i; omega
  refine ⟨e, ?_⟩
  unfold nxt
  rw [e]
  have e1 : u (a.1 + stp a x) = x.1 := by unfold stp u; omega
  have e2 : i (a.2 + i (x.2 - a.2)) = x.2 := by unfold i; omega
  rw [e1, e2]
theorem nxt_ok (a : Sm) (st d e : Int) : Ok (nxt a st d e) := ⟨(u_bd _).1, (u_bd _).2, (i_bd _).1, (i_bd _).2⟩
theorem nxt_stp {a : Sm} {st d e : Int} (_hst : 0 ≤ st ∧ st < 18446744073709551616) (hd : -9223372036854775808 ≤ d ∧ d ≤ 9223372036854775807) (he : -9223372036854775808 ≤ e ∧ e ≤ 9223372036854775807) :
    stp a (nxt a st d e) = u (st + d) ∧ i (stp a (nxt a st d e) - st) = d ∧ i ((nxt a st d e).2 - a.2) = e := by
  have h1 : stp a (nxt a st d e) = u (st + d) := by unfold stp nxt u; omega
  refine ⟨h1, ?_, ?_⟩
  · rw [h1]; unfold u i; omega
  · unfold nxt i; omega

theorem takeN_body : ∀ (l : List Sm) (a : Sm) (st : Int) (rest : List UInt8), (0 ≤ st ∧ st < 18446744073709551616) → (∀ x ∈ l, Ok x) → takeN l.length a st (body a st l ++ rest) = some (l, rest)
  | [], _, _, _, _, _ => rfl
  | x :: r, a, st, rest, hs, ho => by
    have hx := ho x (List.mem_cons_self ..)
    obtain ⟨e1, e2⟩ := nxt_back (a := a) hs hx
    have b1 := Num.zig_lt (i_bd (stp a x - st)).1 (i_bd (stp a x - st)).2
    have b2 := Num.zig_lt (i_bd (x.2 - a.2)).1 (i_bd (x.2 - a.2)).2
    simp only [List.length_cons, takeN, body, one, List.append_assoc]
    rw [Num.take_put _ _ b1]
    simp only []
    rw [Num.take_put _ _ b2]
    simp only []
    rw [Num.zag_zig, Num.zag_zig, e1, e2, takeN_body r x (stp a x) rest (u_bd _) (fun y hy => ho y (List.mem_cons_of_mem _ hy))]
theorem take_putS {l : List Sm} (h : check l = 0) (ho : ∀ x ∈ l, Ok x) (rest : List UInt8) : takeS (putS l ++ rest) = some (l, rest) := by
  obtain ⟨h1, h2, h3⟩ := of_check h
  match l, h1, h2, h3, ho with
  | a :: r, _, h2, h3, ho =>
    have ha := ho a (List.mem_cons_self ..)
    obtain ⟨a1, a2, a3, a4⟩ := ha
    have hlen : r.length + 1 ≤ 20 := by simpa using h2
    have e1 : ((a.1.toNat : Nat) : Int) = a.1 := by omega
    unfold takeS putS
    rw [List.append_assoc, Num.take_put _ _ (by omega)]
    simp only []
    rw [if_neg (by omega)]
    unfold takeF
    rw [List.append_assoc, Num.take_put _ _ (by omega)]
    simp only []
    rw [List.append_assoc, Num.take_put _ _ (Num.zig_lt a3 a4)]
    simp only []
    rw [Num.zag_zig, e1, show r.length + 1 - 1 = r.length by omega, show ((a.1, a.2) : Sm) = a from rfl, takeN_body r a 0 rest (by omega) (fun y hy => ho y (List.mem_cons_of_mem _ hy))]
    simp only []
    rw [if_pos h3]

theorem of_takeN : ∀ (n : Nat) (a : Sm) (st : Int) (s : List UInt8) (l : List Sm) (r : List UInt8), (0 ≤ st ∧ st < 18446744073709551616) → takeN n a st s = some (l, r) → s = body a st l ++ r ∧ l.length = n ∧ ∀ x ∈ l, Ok x
  | 0, _, _, _, _, _, _, h => by
    simp only [takeN, Option.some.injEq, Prod.mk.injEq] at h
    obtain ⟨rfl, rfl⟩ := h
    exact ⟨rfl, rfl, fun x hx => by simp at hx⟩
  | n + 1, a, st, s, l, r, hs, h => by
    simp only [takeN] at h
    split at h
    · cases h
    · rename_i d p h1
      split at h
      · cases h
      · rename_i e q h2
        split at h
        · cases h
        · rename_i l' r' h3
          simp only [Option.some.injEq, Prod.mk.injEq] at h
          obtain ⟨rfl, rfl⟩ := h
          obtain ⟨i1, i2, i3⟩ := of_takeN n _ _ q l' r' (u_bd _) h3
          obtain ⟨d1, d2⟩ := Num.of_take h1
          obtain ⟨e1, e2⟩ := Num.of_take h2
          obtain ⟨n1, n2, n3⟩ := nxt_stp (a := a) (st := st) hs (Num.zag_bd d2) (Num.zag_bd e2)
          refine ⟨?_, by simp [i2], fun x hx => ?_⟩
          · simp only [body, one]
            rw [n2, n3, n1, Num.zig_zag, Num.zig_zag, d1, e1, i1]
            simp only [List.append_assoc]
          · rcases List.mem_cons.1 hx with rfl | hx
            · exact nxt_ok _ _ _ _
            · exact i3 x hx
theorem of_takeF {s : List UInt8} {a : Sm} {r : List UInt8} (h : takeF s = some (a, r)) : s = Num.put a.1.toNat ++ (Num.put (Num.zig a.2) ++ r) ∧ Ok a := by
  unfold takeF at h
  split at h
  · cases h
  · rename_i t x h1
    split at h
    · cases h
    · rename_i v y h2
      simp only [Option.some.injEq, Prod.mk.injEq] at h
      obtain ⟨rfl, rfl⟩ := h
      obtain ⟨d1, d2⟩ := Num.of_take h1
      obtain ⟨e1, e2⟩ := Num.of_take h2
      have := Num.zag_bd e2
      refine ⟨?_, by show (0 : Int) ≤ _; omega, by show ((t : Nat) : Int) < _; omega, this.1, this.2⟩
      rw [d1, e1, Num.zig_zag]
      simp
theorem of_takeS {s : List UInt8} {l : List Sm} {r : List UInt8} (h : takeS s = some (l, r)) : s = putS l ++ r ∧ check l = 0 ∧ ∀ x ∈ l, Ok x := by
  unfold takeS at h
  split at h
  · cases h
  · rename_i n q h1
    split at h
    · cases h
    · rename_i hn
      split at h
      · cases h
      · rename_i a y h2
        split at h
        · cases h
        · rename_i l' z h3
          split at h
          · rename_i hr
            simp only [Option.some.injEq, Prod.mk.injEq] at h
            obtain ⟨rfl, rfl⟩ := h
            obtain ⟨d1, d2⟩ := Num.of_take h1
            obtain ⟨e1, e2⟩ := of_takeF h2
            obtain ⟨f1, f2, f3⟩ := of_takeN _ _ _ _ _ _ (by omega) h3
            refine ⟨?_, check_ok (by simp only [List.length_cons]; omega) hr, fun x hx => ?_⟩
            · rw [d1, e1, f1, putS, show l'.length + 1 = n by omega]
              simp only [List.append_assoc]
            · rcases List.mem_cons.1 hx with rfl | hx
              · exact e2
              · exact f3 x hx
          · cases h
theorem putS_inj {x y : List Sm} (hx : check x = 0) (hy : check y = 0) (ox : ∀ a ∈ x, Ok a) (oy : ∀ a ∈ y, Ok a) (h : putS x = putS y) : x = y := by
  have h1 := take_putS hx ox []
  have h2 := take_putS hy oy []
  rw [h, h2] at h1
  simp only [Option.some.injEq, Prod.mk.injEq] at h1
  exact h1.1.symm

theorem one_len (a : Sm) (st : Int) (x : Sm) : (one a st x).length ≤ 20 := by
  have h1 := Num.put_len10 (Num.zig_lt (i_bd (stp a x - st)).1 (i_bd (stp a x - st)).2)
  have h2 := Num.put_len10 (Num.zig_lt (i_bd (x.2 - a.2)).1 (i_bd (x.2 - a.2)).2)
  unfold one
  rw [List.length_append]; omega
theorem body_len : ∀ (l : List Sm) (a : Sm) (st : Int), (body a st l).length ≤ l.length * 20
  | [], _, _ => Nat.zero_le _
  | x :: r, a, st => by
    have h1 := one_len a st x
    have h2 := body_len r x (stp a x)
    simp only [body, List.length_append, List.length_cons]; omega
theorem putS_len {l : List Sm} (h : check l = 0) (ho : ∀ x ∈ l, Ok x) : (putS l).length ≤ 500 := by
  obtain ⟨h1, h2, _⟩ := of_check h
  match l, h1, h2, ho with
  | a :: r, _, h2, ho =>
    obtain ⟨a1, a2, a3, a4⟩ := ho a (List.mem_cons_self ..)
    have hlen : r.length + 1 ≤ 20 := by simpa using h2
    have g1 := Num.put_len10 (n := r.length + 1) (by omega)
    have g2 := Num.put_len10 (n := a.1.toNat) (by omega)
    have g3 := Num.put_len10 (Num.zig_lt a3 a4)
    have g4 := body_len r a 0
    unfold putS
    simp only [List.length_append]; omega

/-- The step of the one that has k ahead. -/
def gt (l : List Sm) (k : Nat) : Sm := l.getD k (0, 0)
def stA (a : Sm) (st : Int) (r : List Sm) : Nat → Int
  | 0 => st
  | k + 1 => stp (gt (a :: r) k) (gt (a :: r) (k + 1))
theorem body_take : ∀ (r : List Sm) (a : Sm) (st : Int) (k : Nat), k < r.length → body a st (r.take (k + 1)) = body a st (r.take k) ++ one (gt (a :: r) k) (stA a st r k) (gt (a :: r) (k + 1))
  | x :: r, a, st, 0, _ => by simp [body, gt, stA]
  | x :: r, a, st, k + 1, h => by
    have ih := body_take r x (stp a x) k (by simpa using h)
    simp only [List.take_succ_cons, body]
    rw [ih]
    have e : stA x (stp a x) r k = stA a st (x :: r) (k + 1) := by
      cases k with
      | zero => rfl
      | succ k => rfl
    rw [e, List.append_assoc]; rfl
/-- What has been put when k of the others have. -/
def pfx (a : Sm) (r : List Sm) (k : Nat) : List UInt8 := Num.put (r.length + 1) ++ (Num.put a.1.toNat ++ (Num.put (Num.zig a.2) ++ body a 0 (r.take k)))
theorem pfx_next {a : Sm} {r : List Sm} {k : Nat} (h : k < r.length) : pfx a r (k + 1) = pfx a r k ++ one (gt (a :: r) k) (stA a 0 r k) (gt (a :: r) (k + 1)) := by
  unfold pfx
  rw [body_take r a 0 k h]
  simp only [List.append_assoc]
theorem pfx_zero (a : Sm) (r : List Sm) : pfx a r 0 = Num.put (r.length + 1) ++ (Num.put a.1.toNat ++ Num.put (Num.zig a.2)) := by
  unfold pfx; simp [body]
theorem pfx_end {a : Sm} {r : List Sm} {k : Nat} (h : r.length ≤ k) : pfx a r k = putS (a :: r) := by
  unfold pfx putS
  rw [List.take_of_length_le h]
theorem pfx_len {a : Sm} {r : List Sm} (ha : Ok a) (hr : r.length < 20) (k : Nat) : (pfx a r k).length ≤ 500 := by
  obtain ⟨a1, a2, a3, a4⟩ := ha
  have g1 := Num.put_len10 (n := r.length + 1) (by omega)
  have g2 := Num.put_len10 (n := a.1.toNat) (by omega)
  have g3 := Num.put_len10 (Num.zig_lt a3 a4)
  have g4 := body_len (r.take k) a 0
  have g5 : (r.take k).length ≤ 19 := by simp; omega
  unfold pfx
  simp only [List.length_append]; omega
theorem stA_bd (a : Sm) (r : List Sm) (k : Nat) : 0 ≤ stA a 0 r k ∧ stA a 0 r k < 18446744073709551616 := by
  cases k with
  | zero => exact ⟨Int.le_refl _, by show (0 : Int) < _; omega⟩
  | succ k => exact u_bd _

/-- A change that is taken; what follows of samples that are taken one by one. -/
def takeC (s : List UInt8) : Option ((Int × Int) × List UInt8) :=
  match Num.take s with
  | none => none
  | some (d, p) =>
    match Num.take p with
    | none => none
    | some (e, q) => some ((Num.zag d, Num.zag e), q)
def joinN (l : List Sm) : Option (List Sm × List UInt8) → Option (List Sm × List UInt8)
  | none => none
  | some (m, r) => some (l ++ m, r)
theorem joinN_nil (o : Option (List Sm × List UInt8)) : joinN [] o = o := by
  cases o with
  | none => rfl
  | some x => rfl
theorem joinN_join (l m : List Sm) (o : Option (List Sm × List UInt8)) : joinN l (joinN m o) = joinN (l ++ m) o := by
  cases o with
  | none => rfl
  | some x => simp [joinN]
theorem takeN_none {m : Nat} {a : Sm} {st : Int} {s : List UInt8} (h : takeC s = none) : takeN (m + 1) a st s = none := by
  unfold takeC at h
  simp only [takeN]
  cases h1 : Num.take s with
  | none => rfl
  | some x =>
    obtain ⟨d, p⟩ := x
    rw [h1] at h
    simp only [] at h ⊢
    cases h2 : Num.take p with
    | none => rfl
    | some y => rw [h2] at h; cases h
theorem takeN_some {m : Nat} {a : Sm} {st d e : Int} {s q : List UInt8} (h : takeC s = some ((d, e), q)) : takeN (m + 1) a st s = joinN [nxt a st d e] (takeN m (nxt a st d e) (u (st + d)) q) := by
  unfold takeC at h
  simp only [takeN]
  cases h1 : Num.take s with
  | none => rw [h1] at h; cases h
  | some x =>
    obtain ⟨d', p⟩ := x
    rw [h1] at h
    simp only [] at h ⊢
    cases h2 : Num.take p with
    | none => rw [h2] at h; cases h
    | some y =>
      obtain ⟨e', q'⟩ := y
      rw [h2] at h
      simp only [Option.some.injEq, Prod.mk.injEq] at h
      obtain ⟨⟨rfl, rfl⟩, rfl⟩ := h
      simp only []
      cases takeN m (nxt a st (Num.zag d') (Num.zag e')) (u (st + Num.zag d')) q' with
      | none => rfl
      | some x => rfl
theorem takeC_len {s : List UInt8} {x : Int × Int} {q : List UInt8} (h : takeC s = some (x, q)) : q.length ≤ s.length := by
  unfold takeC at h
  split at h
  · cases h
  · rename_i d' p h1
    split at h
    · cases h
    · rename_i e' q' h2
      simp only [Option.some.injEq, Prod.mk.injEq] at h
      obtain ⟨_, rfl⟩ := h
      rw [(Num.of_take h1).1, (Num.of_take h2).1]; simp; omega
theorem takeF_len {s : List UInt8} {x : Sm} {q : List UInt8} (h : takeF s = some (x, q)) : q.length ≤ s.length := by
  rw [(of_takeF h).1]; simp; omega
theorem takeS_no {s : List UInt8} (h : Num.take s = none) : takeS s = none := by unfold takeS; rw [h]
theorem takeS_many {s r : List UInt8} {n : Nat} (h : Num.take s = some (n, r)) (hn : n < 1 ∨ 20 < n) : takeS s = none := by
  unfold takeS; rw [h]; simp only []; rw [if_pos hn]
theorem takeS_first {s r : List UInt8} {n : Nat} (h : Num.take s = some (n, r)) (hf : takeF r = none) : takeS s = none := by
  unfold takeS; rw [h]; simp only []
  split
  · rfl
  · rw [hf]
theorem takeS_on {s r y : List UInt8} {m : Nat} {a : Sm} (h : Num.take s = some (m + 1, r)) (hm : m < 20) (hf : takeF r = some (a, y)) :
    takeS s = match takeN m a 0 y with
      | none => none
      | some (l, z) => if riseB (a :: l) = true then some (a :: l, z) else none := by
  unfold takeS; rw [h]; simp only []
  rw [if_neg (by omega), hf]; rfl

/-- D3. -/
def inT (f t : Int) (x : Sm) : Bool := decide (f ≤ x.1) && decide (x.1 ≤ t)
def between (l : List Sm) (f t : Int) : List Sm := l.filter (inT f t)

end Go.Proofs.Ytbjcphefaciihaa.Smp
