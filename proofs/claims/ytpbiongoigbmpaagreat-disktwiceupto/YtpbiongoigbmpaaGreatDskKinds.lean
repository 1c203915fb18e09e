/-
  What is left (disk.Keep) that came in.
-/
import Derived.Test.YtpbiongoigbmpaaGreatDskCrashW
import Derived.Test.YtpbiongoigbmpaaGreatKinds
import Derived.ProofKit
import Derived.Lib.SmallJoins
namespace Go.Proofs.YtpbiongoigbmpaaGreat
open Go.RowKit Go.Deep Go.ChangeShapes

theorem keep_row {w : World} {a : Option Addr} {len cap : Nat} {zs : List Int} (h : IsRow .i64 w a len cap zs) : ∃ ks : List Int, len = ks.length ∧ KeepAt w a ks ∧ ks.length ≤ 9223372036854775807 := by
  obtain ⟨h1, h2, h3, _⟩ := view_row h
  refine ⟨zs.take len, by rw [List.length_take]; omega, ?_, by rw [List.length_take]; unfold maxLen at h2; omega⟩
  by_cases h0 : 0 < len
  · obtain ⟨b, off, rfl, hb, hc⟩ := h3 0 h0
    refine ⟨b, off, fun _ => ⟨rfl, hb⟩, fun j hj => ?_⟩
    rw [List.length_take] at hj
    rw [hc j (by omega), List.getElem_take, List.getD_eq_getElem?_getD, List.getElem?_eq_getElem (by omega)]
    rfl
  · refine ⟨0, 0, fun k => ?_, fun j hj => ?_⟩
    · rw [List.length_take] at k; omega
    · rw [List.length_take] at hj; omega
set_option maxRecDepth 100000 in
theorem open_keepV {H : Type} {enc : TypeId × Value → H} {w : World} {base : Nat} {held : Bool} {r : Reach} {b0 : Nat} {v : Value} {d : DataW H} {p : List MemPlace} (hv : Value.okWide Tryz.prog w r b0 36 v) (h : DataW.Trod enc Tryz.prog w base (fun _ => true) held 36 v d p) :
    ∃ (k : Int) (a : Option Addr) (c : Nat) (ks : List Int), v = .agg #[.int .i64 k, .slice a ks.length c] ∧ KeepAt w a ks ∧ ks.length ≤ 9223372036854775807 := by
  obtain ⟨v0, v1, y0, y1, n, rfl, _, _, t0, t1⟩ := Go.Joins.open_agg2 Tryz.underlying36 (by kernel_rfl) (by kernel_rfl) hv h
  obtain ⟨k, e0, _⟩ := DataW.trod_int Tryz.underlying3 t0
  simp at e0
  subst e0
  rcases open_ints Tryz.underlying34 Tryz.underlying3 (by kernel_rfl) t1 with ⟨hcs, _⟩ | ⟨x, l, c, zs, hcs, _, hl, hm, hz, _, hcell, hwz⟩
  · simp at hcs
    subst hcs
    exact ⟨k, none, 0, [], rfl, ⟨0, 0, fun h => absurd h (Nat.lt_irrefl _), fun j hj => absurd hj (Nat.not_lt_zero _)⟩, by simp⟩
  · simp at hcs
    subst hcs
    obtain ⟨ks, rfl, h1, h2⟩ := keep_row (w := w) (a := some x) (len := l) (cap := c) (zs := zs) (.inr ⟨_, rfl, hl, hm, by simpa using hz, hcell, hwz⟩)
    exact ⟨k, some x, c, ks, rfl, h1, h2⟩

end Go.Proofs.YtpbiongoigbmpaaGreat
