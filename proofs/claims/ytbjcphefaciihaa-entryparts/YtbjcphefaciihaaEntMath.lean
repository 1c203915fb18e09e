/-
  Entries, as plain lists: labels and samples; what is wrong, their bytes, what bytes are.
-/
import Derived.Test.YtbjcphefaciihaaLabTakeM
import Derived.Test.YtbjcphefaciihaaSmpMath
namespace Go.Proofs.Ytbjcphefaciihaa.Ent
open Lab (Pr)
open Smp (Sm)

def check (l : List Pr) (s : List Sm) : Int := if Lab.check l = 0 then Smp.check s else (Lab.check l : Int)
def lput (l : List Pr) : ByteArray := if Lab.check l = 0 then Num.bs (Lab.putL (Lab.canon l)) else ⟨#[]⟩
def put (l : List Pr) (s : List Sm) : ByteArray := if check l s = 0 then Num.bs (Lab.putL (Lab.canon l) ++ Smp.putS s) else ⟨#[]⟩
def take (x : List UInt8) : Option (List Pr × List Sm) :=
  match Lab.takeL x with
  | none => none
  | some (l, r) => match Smp.takeS r with
    | none => none
    | some (s, q) => if q = [] then some (l, s) else none

theorem check_zero {l : List Pr} {s : List Sm} : check l s = 0 ↔ Lab.Right l ∧ Smp.check s = 0 := by
  unfold check
  by_cases h : Lab.check l = 0
  · rw [if_pos h, ← Lab.check_zero]; exact ⟨fun k => ⟨h, k⟩, fun k => k.2⟩
  · rw [if_neg h]; exact ⟨fun k => absurd (by omega) h, fun k => absurd (Lab.check_zero.2 k.1) h⟩
theorem check_lab {l : List Pr} {s : List Sm} (h : Lab.check l ≠ 0) : check l s = (Lab.check l : Int) := if_neg h
theorem check_smp {l : List Pr} {s : List Sm} (h : Lab.check l = 0) : check l s = Smp.check s := if_pos h
theorem put_ok {l : List Pr} {s : List Sm} (h : Lab.Right l) (k : Smp.check s = 0) : put l s = Num.bs (Lab.putL (Lab.canon l) ++ Smp.putS s) := if_pos (check_zero.2 ⟨h, k⟩)
theorem lput_ok {l : List Pr} (h : Lab.Right l) : lput l = Num.bs (Lab.putL (Lab.canon l)) := if_pos (Lab.check_zero.2 h)
/-- What was put is taken. -/
theorem take_put {l : List Pr} {s : List Sm} (h : Lab.Right l) (k : Smp.check s = 0) (ho : ∀ x ∈ s, Smp.Ok x) : take (Lab.putL (Lab.canon l) ++ Smp.putS s) = some (Lab.canon l, s) := by
  have h2 := Smp.take_putS k ho []
  rw [List.append_nil] at h2
  unfold take
  rw [Lab.takeL_put (Lab.canon_right h) (Lab.canon_rise h)]
  simp only [h2, if_true]
/-- With something behind it: it is not. -/
theorem take_more {l : List Pr} {s : List Sm} (h : Lab.Right l) (k : Smp.check s = 0) (ho : ∀ x ∈ s, Smp.Ok x) {m : List UInt8} (hm : m ≠ []) : take (Lab.putL (Lab.canon l) ++ Smp.putS s ++ m) = none := by
  unfold take
  rw [List.append_assoc, Lab.takeL_put (Lab.canon_right h) (Lab.canon_rise h)]
  simp only [Smp.take_putS k ho m, if_neg hm]
theorem of_take {x : List UInt8} {l : List Pr} {s : List Sm} (h : take x = some (l, s)) : x = Lab.putL l ++ Smp.putS s ∧ Lab.Right l ∧ Lab.Rise l ∧ Smp.check s = 0 ∧ ∀ y ∈ s, Smp.Ok y := by
  unfold take at h
  cases e1 : Lab.takeL x with
  | none => rw [e1] at h; cases h
  | some p =>
    obtain ⟨l1, r1⟩ := p
    rw [e1] at h
    simp only at h
    cases e2 : Smp.takeS r1 with
    | none => rw [e2] at h; cases h
    | some q =>
      obtain ⟨s1, r2⟩ := q
      rw [e2] at h
      simp only at h
      by_cases e3 : r2 = []
      · rw [if_pos e3] at h
        simp only [Option.some.injEq, Prod.mk.injEq] at h
        obtain ⟨rfl, rfl⟩ := h
        subst e3
        obtain ⟨a1, a2, a3⟩ := Lab.takeL_of e1
        obtain ⟨b1, b2, b3⟩ := Smp.of_takeS e2
        rw [List.append_nil] at b1
        exact ⟨by rw [a1, b1], a2, a3, b2, b3⟩
      · rw [if_neg e3] at h; cases h
/-- Cut off: it is not. -/
theorem take_cut {l : List Pr} {s : List Sm} (h : Lab.Right l) (k : Smp.check s = 0) (ho : ∀ x ∈ s, Smp.Ok x) {n : Nat} (hn : n < (Lab.putL (Lab.canon l) ++ Smp.putS s).length) : take ((Lab.putL (Lab.canon l) ++ Smp.putS s).take n) = none := by
  cases e : take ((Lab.putL (Lab.canon l) ++ Smp.putS s).take n) with
  | none => rfl
  | some p =>
    obtain ⟨l1, s1⟩ := p
    obtain ⟨h1, h2, h3, h4, h5⟩ := of_take e
    have hm := take_more h2 h4 h5 (m := (Lab.putL (Lab.canon l) ++ Smp.putS s).drop n) (fun hd => by
      have := congrArg List.length hd
      rw [List.length_drop, List.length_nil] at this
      omega)
    rw [Lab.canon_of_rise h3 h2, ← h1, List.take_append_drop, take_put h k ho] at hm
    cases hm
theorem put_inj {l m : List Pr} {s t : List Sm} (hl : Lab.Right l) (hm : Lab.Right m) (hs : Smp.check s = 0) (ht : Smp.check t = 0) (os : ∀ x ∈ s, Smp.Ok x) (ot : ∀ x ∈ t, Smp.Ok x)
    (h : Lab.putL (Lab.canon l) ++ Smp.putS s = Lab.putL (Lab.canon m) ++ Smp.putS t) : Lab.canon l = Lab.canon m ∧ s = t := by
  obtain ⟨h1, h2⟩ := Lab.putL_inj (Lab.canon_right hl) (Lab.canon_right hm) h
  exact ⟨h1, Smp.putS_inj hs ht os ot h2⟩

end Go.Proofs.Ytbjcphefaciihaa.Ent
