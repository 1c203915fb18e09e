/-
  Two disks of the program side by side.
-/
import Derived.Test.YtpbiongoigbmpaaGreatDskShownW
import Derived.Test.YtpbiongoigbmpaaGreatDskListW
import Derived.Test.YtpbiongoigbmpaaGreatDskNameOfW
namespace Go.Proofs.YtpbiongoigbmpaaGreat
open Go.RowKit
open Dsk (By Dk)

structure FT (w0 : World) (pa pb : Nat) (S T : Nat → Prop) (w : World) (A B : Dk) (c : Nat) : Prop where
  da : IsDk S w pa A c
  db : IsDk T w pb B c
  ap : ∀ b, S b → T b → False
  oa : Own w0 S w
  ob : ∀ b, T b → w0.heap.size ≤ b
section
variable {w0 : World} {pa pb : Nat} {S T : Nat → Prop} {w w' : World} {A B A' B' : Dk} {c c' : Nat}
theorem FT.stepA (h : FT w0 pa pb S T w A B c) (dk : IsDk (more S w w') w' pa A' c') (ho : Only S w w') (hc : c ≤ c') : FT w0 pa pb (more S w w') T w' A' B c' :=
  ⟨dk, (h.db.other ho (fun b hb ha => h.ap b ha hb)).mono hc, fun b ha hb => by
    rcases ha with ha | ha
    · exact h.ap b ha hb
    · have := h.db.lt b hb; omega, h.oa.next ho, h.ob⟩
theorem FT.stepB (h : FT w0 pa pb S T w A B c) (dk : IsDk (more T w w') w' pb B' c') (ho : Only T w w') (hc : c ≤ c') : FT w0 pa pb S (more T w w') w' A B' c' :=
  ⟨(h.da.other ho (fun b hb ha => h.ap b hb ha)).mono hc, dk, fun b ha hb => by
    rcases hb with hb | hb
    · exact h.ap b ha hb
    · have := h.da.lt b ha; omega, ⟨h.oa.below.trans (ho.below h.oa.below.size h.ob), h.oa.all⟩, more_in h.ob h.oa.below.size⟩
theorem FT.setA (h : FT w0 pa pb S T w A B c) (dk : IsDk S w' pa A' c) (ho : Only S w w') : FT w0 pa pb S T w' A' B c :=
  ⟨dk, h.db.other ho (fun b hb ha => h.ap b ha hb), h.ap, h.oa.only ho, h.ob⟩
theorem FT.then (h : FT w0 pa pb S T w A B c) (hb : Below w.heap.size w w') : FT w0 pa pb S T w' A B c := ⟨h.da.below hb, h.db.below hb, h.ap, h.oa.then hb, h.ob⟩
theorem FT.mono (h : FT w0 pa pb S T w A B c) (hc : c ≤ c') : FT w0 pa pb S T w A B c' := ⟨h.da.mono hc, h.db.mono hc, h.ap, h.oa, h.ob⟩
end
theorem own_row' {w : World} {base e size n : Nat} {v : Value} {xs : List Value} (h : w.ownsRow base e size v n xs) (hn : 0 < n) : ∃ g c, v = .slice (some ⟨g, 0, none⟩) n c ∧ g < w.heap.size ∧ (∀ j u, xs[j]? = some u → w.cell? ⟨g, j, none⟩ = some u) := by
  rcases h.2 with ⟨_, h0⟩ | ⟨g, cap, cur, rfl, hb, hh, hnc, _⟩
  · omega
  · refine ⟨g, cap, rfl, (Array.getElem?_eq_some_iff.1 hh).1, fun j u hj => ?_⟩
    have := h.cells (g := g) rfl j u hj
    rw [Addr.add_lit, Nat.zero_add] at this
    exact this
theorem txts_of {w : World} {base : Nat} {v : Value} {l : List ByteArray} (h : StrsOwn w base v l) : ∃ a c, v = .slice a l.length c ∧ TxtsAt w a l := by
  by_cases h0 : 0 < l.length
  · obtain ⟨g, c, rfl, hg, hc⟩ := own_row' h h0
    exact ⟨some ⟨g, 0, none⟩, c, rfl, g, 0, fun _ => ⟨rfl, hg⟩, fun j hj => by rw [Nat.zero_add]; exact hc j _ (by rw [List.getElem?_map, List.getElem?_eq_getElem hj]; rfl)⟩
  · obtain ⟨a, c, e⟩ := own_slice h
    exact ⟨a, c, e, 0, 0, fun k => absurd k h0, fun j hj => by omega⟩
/-- Texts that lie in no block of S. -/
def TxK (S : Nat → Prop) (w : World) (a : Option Addr) (l : List ByteArray) : Prop := ∃ g o, (0 < l.length → a = some ⟨g, o, none⟩ ∧ g < w.heap.size ∧ ¬ S g) ∧ ∀ j (hj : j < l.length), w.cell? ⟨g, o + j, none⟩ = some (.string l[j])
theorem TxK.txts {S : Nat → Prop} {w : World} {a : Option Addr} {l : List ByteArray} (h : TxK S w a l) : TxtsAt w a l := by
  obtain ⟨g, o, h1, h2⟩ := h
  exact ⟨g, o, fun k => ⟨(h1 k).1, (h1 k).2.1⟩, h2⟩
theorem TxK.only {S : Nat → Prop} {w w' : World} {a : Option Addr} {l : List ByteArray} (h : TxK S w a l) (ho : Only S w w') : TxK (more S w w') w' a l := by
  obtain ⟨g, o, h1, h2⟩ := h
  refine ⟨g, o, fun k => ⟨(h1 k).1, Nat.lt_of_lt_of_le (h1 k).2.1 ho.size, fun z => ?_⟩, fun j hj => (ho.cell (a := ⟨g, o + j, none⟩) (h1 (by omega)).2.1 (h1 (by omega)).2.2).trans (h2 j hj)⟩
  rcases z with z | z
  · exact (h1 k).2.2 z
  · have := (h1 k).2.1; omega
theorem txk_of {S : Nat → Prop} {w w' : World} {v : Value} {l : List ByteArray} (h : StrsOwn w' w.heap.size v l) (hS : ∀ b, S b → b < w.heap.size) : ∃ a c, v = .slice a l.length c ∧ TxK S w' a l := by
  by_cases h0 : 0 < l.length
  · obtain ⟨g, c, rfl, hg, hc⟩ := own_row' h h0
    have hgb := (h.lt g rfl).1
    exact ⟨some ⟨g, 0, none⟩, c, rfl, g, 0, fun _ => ⟨rfl, hg, fun z => by have := hS g z; omega⟩, fun j hj => by rw [Nat.zero_add]; exact hc j _ (by rw [List.getElem?_map, List.getElem?_eq_getElem hj]; rfl)⟩
  · obtain ⟨a, c, e⟩ := own_slice h
    exact ⟨a, c, e, 0, 0, fun k => absurd k h0, fun j hj => by omega⟩

end Go.Proofs.YtpbiongoigbmpaaGreat
