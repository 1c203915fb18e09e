/-
  How many moments a file has; how many of them are kept.
-/
import Derived.Test.YtpbiongoigbmpaaGreatDskNbW
import Derived.Test.YtpbiongoigbmpaaGreatRangeIdx
namespace Go.Proofs.YtpbiongoigbmpaaGreat
open Go.RowKit Go.Shelf
open Dsk (Nm Hold Fl Ct By Dk FRel NRel)

theorem cutV_at : ∀ {l : List Ct} {j : Nat} (hj : j < l.length), (cutV l)[j * 2]? = some (.int .i64 (l[j].1 : Int)) ∧ (cutV l)[j * 2 + 1]? = some (.string (Num.bs l[j].2))
  | x :: r, 0, _ => by simp [cutV]
  | x :: r, j + 1, hj => by
    have ih := cutV_at (l := r) (j := j) (by simpa using hj)
    have e : cutV (x :: r) = .int .i64 (x.1 : Int) :: .string (Num.bs x.2) :: cutV r := by simp [cutV]
    rw [e]
    rw [show (j + 1) * 2 = j * 2 + 1 + 1 by omega]
    simpa using ih
/-- Where the cuts lie. -/
theorem CutsAt.view {w : World} {v : Value} {l : List Ct} (h : CutsAt w v l) : ∃ (a : Option Addr) (c g : Nat), v = .slice a l.length c ∧ l.length ≤ c ∧ (0 < l.length → a = some ⟨g, 0, none⟩ ∧ g < w.heap.size) ∧ ∀ j (hj : j < l.length), w.cell? ⟨g, j * 2, none⟩ = some (.int .i64 (l[j].1 : Int)) ∧ w.cell? ⟨g, j * 2 + 1, none⟩ = some (.string (Num.bs l[j].2)) := by
  rcases h.2 with ⟨e, h0⟩ | ⟨g, cap, cur, e, _, hh, h1, _⟩
  · exact ⟨none, 0, 0, by rw [e, h0], by omega, fun h => by omega, fun j hj => by omega⟩
  · refine ⟨_, _, g, e, h1, fun _ => ⟨rfl, (Array.getElem?_eq_some_iff.1 hh).1⟩, fun j hj => ?_⟩
    obtain ⟨v1, v2⟩ := cutV_at hj
    have hrow : w.ownsRow 0 109 2 (.slice (some ⟨g, 0, none⟩) l.length cap) l.length (cutV l) := e ▸ h
    exact ⟨(hrow.cellAt (j * 2) (by omega)).trans v1, (hrow.cellAt (j * 2 + 1) (by omega)).trans v2⟩
def momN (f : Fl) (k : Nat) : Nat := f.grown + ((f.cuts.take k).map (fun c => c.1 + 1)).sum
theorem momN_all (f : Fl) : momN f f.cuts.length = Dsk.moms f := by unfold momN Dsk.moms; rw [List.take_length]
theorem momN_succ (f : Fl) {k : Nat} (hk : k < f.cuts.length) : momN f (k + 1) = momN f k + (f.cuts[k].1 + 1) := by
  unfold momN
  rw [List.take_succ_eq_append_getElem hk, List.map_append, List.sum_append]
  simp
  omega
theorem momN_le (f : Fl) (k : Nat) : momN f k ≤ Dsk.moms f := by
  unfold momN Dsk.moms
  conv => rhs; rw [← List.take_append_drop k f.cuts, List.map_append, List.sum_append]
  omega

set_option maxRecDepth 100000 in
set_option maxHeartbeats 600000 in
theorem moments_at {S : Nat → Prop} {w : World} {b i : Nat} {F : Fl} {tv kv : Value} (H : FileAt S w b i F tv kv) (hm : Dsk.moms F ≤ 1000000000000) :
    Calls Tryz.prog 76 #[.pointer (some ⟨b, 0, none⟩)] w fun e w' => e = .returned (.int .i64 (Dsk.moms F : Int)) ∧ Below w.heap.size w w' := by
  obtain ⟨a, c, g, rfl, hlc, hga, hgc⟩ := H.cuts.view
  have c2 : w.cell? ⟨b, 2, none⟩ = some (.slice a F.cuts.length c) := cell_of H.blk 2 rfl
  have c3 : w.cell? ⟨b, 3, none⟩ = some (.int .i64 (F.grown : Int)) := cell_of H.blk 3 rfl
  have hb : b < w.heap.size := (Array.getElem?_eq_some_iff.1 H.blk).1
  have hcl : F.cuts.length ≤ 1000000000000 := by
    have h2 : F.cuts.length ≤ (F.cuts.map (fun c => c.1 + 1)).sum := by
      generalize F.cuts = cs
      induction cs with
      | nil => simp
      | cons c r ih => simp only [List.length_cons, List.map_cons, List.sum_cons]; omega
    unfold Dsk.moms at hm
    omega
  clear H
  go_enter Tryz.func76, Tryz.ntmps76
  go_wp2
  go_loopw [3, 15] (fun n i wr => ∃ k : Nat, k ≤ F.cuts.length ∧ i = .int .i64 (k : Int) ∧ n = .int .i64 (momN F k : Int) ∧ Below w.heap.size w wr) (fun _ i _ => F.cuts.length - (intOf i).toNat)
  case atStart => exact ⟨0, Nat.zero_le _, rfl, by simp [momN], Below.refl _ _⟩
  case round =>
    obtain ⟨k, hk, rfl, rfl, hbw⟩ := hrel
    by_cases hlt : k < F.cuts.length
    · obtain ⟨rfl, hg⟩ := hga (by omega)
      obtain ⟨v1, v2⟩ := hgc k hlt
      have e1 := (hbw.cell (p := ⟨g, k * 2, none⟩) hg).trans v1
      have e2 := (hbw.cell (p := ⟨g, k * 2 + 1, none⟩) hg).trans v2
      have hle := momN_le F (k + 1)
      have hsu := momN_succ F hlt
      obtain ⟨x, hx⟩ : ∃ x, F.cuts[k].1 = x := ⟨_, rfl⟩
      rw [hx] at e1 hsu
      have HSU := hide hsu
      have hxx : momN F k + (x + 1) ≤ 1000000000000 := by omega
      have hbw2 : ∀ o, Below w.heap.size w (wr.alloc o) := fun o => hbw.alloc hbw.size o
      have HB2 := hide hbw2
      clear hx hsu hle hbw2 v1 v2
      go_wp2
      go_roundw
      case rel => exact ⟨k + 1, hlt, by simp, by rw [HSU.out]; simp, HB2.out _⟩
      case measure => simp [intOf]; omega
    · obtain rfl : k = F.cuts.length := by omega
      rw [momN_all]
      go_wp2
      go_ret
      exact ⟨rfl, hbw⟩

set_option maxRecDepth 100000 in
set_option maxHeartbeats 600000 in
theorem kmoments_at {w : World} (d : Int) (a : Option Addr) (c : Nat) (ks : List Int) (g o : Nat) (ha : 0 < ks.length → a = some ⟨g, o, none⟩ ∧ g < w.heap.size) (hks : ∀ j (hj : j < ks.length), w.cell? ⟨g, o + j, none⟩ = some (.int .i64 ks[j])) (hl : ks.length ≤ 9223372036854775807) (n : Nat) (hn : n ≤ 1000000000000) :
    Calls Tryz.prog 47 #[.agg #[.int .i64 d, .slice a ks.length c], .int .i64 (n : Int)] w fun e w' => e = .returned (.int .i64 (ks.getD n 0)) ∧ Below w.heap.size w w' := by
  go_enter Tryz.func47, Tryz.ntmps47
  by_cases hlt : n < ks.length
  · obtain ⟨rfl, hg⟩ := ha (by omega)
    have v1 := hks n hlt
    have e0 : ∀ o', (w.alloc o').cell? ⟨g, o + n, none⟩ = some (.int .i64 ks[n]) := fun o' => (World.cell?_of_block (w := w) (a := ⟨g, o + n, none⟩) (Below.heap_alloc w o' g hg)).trans v1
    have eD : ks.getD n 0 = ks[n] := by rw [List.getD_eq_getElem?_getD, List.getElem?_eq_getElem hlt]; rfl
    rw [eD]
    go_wp2
    go_ret
    exact ⟨rfl, (Below.refl _ w).alloc (Nat.le_refl _) _⟩
  · have eD : ks.getD n 0 = 0 := by rw [List.getD_eq_getElem?_getD, List.getElem?_eq_none (by omega)]; rfl
    rw [eD]
    go_wp2
    go_ret
    exact ⟨rfl, (Below.refl _ w).alloc (Nat.le_refl _) _⟩
end Go.Proofs.YtpbiongoigbmpaaGreat
