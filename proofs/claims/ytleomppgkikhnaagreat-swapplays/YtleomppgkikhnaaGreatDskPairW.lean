/-
  The program's disk and the document's, side by side.
-/
import Derived.Test.YtleomppgkikhnaaGreatRefDisk
import Derived.Test.YtleomppgkikhnaaGreatDskShownW
namespace Go.Proofs.YtleomppgkikhnaaGreat
open Go.RowKit
open Dsk (By Dk)

/-- The program's disk, which is A, and the document's, which is B. -/
structure DR (w0 : World) (pd pr : Nat) (S T : Nat → Prop) (w : World) (A B : Dk) (c : Nat) : Prop where
  d : IsDk S w pd A c
  r : IsRef T w pr B c
  ap : ∀ b, S b → T b → False
  od : Own w0 S w
  ot : ∀ b, T b → w0.heap.size ≤ b
section
variable {w0 : World} {pd pr : Nat} {S T : Nat → Prop} {w w' : World} {A B A' B' : Dk} {c c' : Nat}
theorem IsRef.sp {S : Nat → Prop} {w : World} {p : Nat} {D : Dk} {c : Nat} (h : IsRef S w p D c) : S p := by
  obtain ⟨_, _, _, _, _, _, _, _, H⟩ := h
  exact H.sp
theorem DR.stepD (h : DR w0 pd pr S T w A B c) (dk : IsDk (more S w w') w' pd A' c') (ho : Only S w w') (hc : c ≤ c') : DR w0 pd pr (more S w w') T w' A' B c' :=
  ⟨dk, (h.r.other ho (fun b hb ha => h.ap b ha hb)).mono hc, fun b ha hb => by
    rcases ha with ha | ha
    · exact h.ap b ha hb
    · have := h.r.lt b hb; omega, h.od.next ho, h.ot⟩
theorem DR.stepR (h : DR w0 pd pr S T w A B c) (g : RGoes T w w' pr B' c') (hc : c ≤ c') : DR w0 pd pr S (more T w w') w' A B' c' :=
  ⟨(h.d.other g.only (fun b hb ha => h.ap b hb ha)).mono hc, g.ref, fun b ha hb => by
    rcases hb with hb | hb
    · exact h.ap b ha hb
    · have := h.d.lt b ha; omega, ⟨h.od.below.trans (g.only.below h.od.below.size h.ot), h.od.all⟩, more_in h.ot h.od.below.size⟩
theorem DR.setD (h : DR w0 pd pr S T w A B c) (dk : IsDk S w' pd A' c) (ho : Only S w w') : DR w0 pd pr S T w' A' B c :=
  ⟨dk, h.r.other ho (fun b hb ha => h.ap b ha hb), h.ap, h.od.only ho, h.ot⟩
theorem DR.setR (h : DR w0 pd pr S T w A B c) (dk : IsRef T w' pr B' c) (ho : Only T w w') : DR w0 pd pr S T w' A B' c :=
  ⟨h.d.other ho (fun b hb ha => h.ap b hb ha), dk, h.ap, ⟨h.od.below.trans (ho.below h.od.below.size h.ot), h.od.all⟩, h.ot⟩
theorem DR.then (h : DR w0 pd pr S T w A B c) (hb : Below w.heap.size w w') : DR w0 pd pr S T w' A B c := ⟨h.d.below hb, h.r.below hb, h.ap, h.od.then hb, h.ot⟩
theorem DR.mono (h : DR w0 pd pr S T w A B c) (hc : c ≤ c') : DR w0 pd pr S T w A B c' := ⟨h.d.mono hc, h.r.mono hc, h.ap, h.od, h.ot⟩
end
def Uni (S T : Nat → Prop) : Nat → Prop := fun b => S b ∨ T b
/-- What it has is what it had, and what is new. -/
def New (S : Nat → Prop) (w : World) (S' : Nat → Prop) : Prop := ∀ b, S' b → S b ∨ w.heap.size ≤ b
def DoesE (w0 : World) (pd pr : Nat) (S T : Nat → Prop) (w : World) (D : Dk) (c : Nat) (e : Ending) (w' : World) : Prop := ∃ S' T', e = .returned (.bool true) ∧ DR w0 pd pr S' T' w' D D c ∧ Only (Uni S T) w w' ∧ New S w S' ∧ New T w T'
theorem only2 {S T : Nat → Prop} {w w3 w5 w6 : World} (hb : Below w.heap.size w w3) (h1 : Only S w3 w5) (h2 : Only T w5 w6) : Only (Uni S T) w w6 :=
  ⟨h2.os.trans (h1.os.trans hb.os), h2.tape.trans (h1.tape.trans hb.tape), h2.output.trans (h1.output.trans hb.output), Nat.le_trans hb.size (Nat.le_trans h1.size h2.size), fun b hx hn =>
    ((h2.block b (by have := hb.size; have := h1.size; omega) (fun z => hn (.inr z))).trans (h1.block b (by have := hb.size; omega) (fun z => hn (.inl z)))).trans (hb.block b hx)⟩
theorem new_more {S : Nat → Prop} {w w3 w5 : World} (h : w.heap.size ≤ w3.heap.size) : New S w (more S w3 w5) := fun b hb => by
  rcases hb with hb | hb
  · exact .inl hb
  · exact .inr (by omega)
theorem new_same {S : Nat → Prop} {w : World} : New S w S := fun _ h => .inl h
theorem DR.refAt {w0 : World} {pd pr : Nat} {S T : Nat → Prop} {w w' : World} {A B : Dk} {c : Nat} (h : DR w0 pd pr S T w A B c) (ho : Only S w w') : IsRef T w' pr B c := h.r.other ho (fun b hb ha => h.ap b ha hb)
theorem DR.both {w0 : World} {pd pr : Nat} {S T : Nat → Prop} {w w1 w2 : World} {A B A' B' : Dk} {c c' c2 : Nat} (h : DR w0 pd pr S T w A B c) (dk : IsDk (more S w w1) w1 pd A' c') (ho : Only S w w1) (g : RGoes T w1 w2 pr B' c2) (hc : c' ≤ c2) : DR w0 pd pr (more S w w1) (more T w1 w2) w2 A' B' c2 := by
  have hT : ∀ b, T b → b < w.heap.size := h.r.lt
  have apT : ∀ b, more S w w1 b → T b → False := fun b ha hb => by
    rcases ha with ha | ha
    · exact h.ap b ha hb
    · have := hT b hb; omega
  refine ⟨(dk.other g.only (fun b ha hb => apT b ha hb)).mono hc, g.ref, fun b ha hb => ?_, ⟨?_, more_in h.od.all h.od.below.size⟩, more_in h.ot (Nat.le_trans h.od.below.size ho.size)⟩
  · rcases hb with hb | hb
    · exact apT b ha hb
    · have := dk.lt b ha; omega
  · exact (h.od.below.trans (ho.below h.od.below.size h.od.all)).trans (g.only.below (Nat.le_trans h.od.below.size ho.size) h.ot)

end Go.Proofs.YtleomppgkikhnaaGreat
