/-
  'append([]string{}, l...)'.
-/
import Derived.Test.YtleomppgkikhnaaGreatDskPairW
import Derived.Test.YtleomppgkikhnaaGreatDskTwoW
import Derived.Test.YtleomppgkikhnaaGreatRefListW
namespace Go.Proofs.YtleomppgkikhnaaGreat
open Go.RowKit
open Dsk (By Dk)

theorem str_cells {w : World} {a : Addr} {l : List ByteArray} (h : TxtsAt w (some a) l) (h0 : 0 < l.length) : ∀ j u, (l.map Value.string)[j]? = some u → w.cell? (a.add j) = some u := by
  obtain ⟨g, o, h1, h2⟩ := h
  obtain ⟨e, _⟩ := h1 h0
  cases e
  intro j u hj
  rw [List.getElem?_map] at hj
  by_cases hl : j < l.length
  · rw [List.getElem?_eq_getElem hl] at hj
    cases hj
    rw [Addr.add_lit]
    exact h2 j hl
  · rw [List.getElem?_eq_none (by omega)] at hj
    cases hj
/-- 'append([]string{}, l...)'. -/
theorem strs_copy {w : World} {base : Nat} {v : Value} (h : StrsOwn w base v []) (a : Option Addr) (c : Nat) {l : List ByteArray} (ht : TxtsAt w a l) (hl : l.length ≤ 1000000000000) (hb : base ≤ w.heap.size) (hz : a = none → c = 0) (ty : TypeId) :
    ∃ v' w', (Builtin.append_ #[44, 44] ty #[v, .slice a l.length c]).run Tryz.prog w = .ok v' w' ∧ StrsOwn w' base v' l ∧ w.grownBy w' v.ownBlock := by
  obtain ⟨ti, hi, hz0, hs, hby⟩ := str_info
  cases a with
  | none =>
    have h0 : l = [] := by
      cases l with
      | nil => rfl
      | cons x r =>
        obtain ⟨g, o, h1, _⟩ := ht
        have := (h1 (by simp)).1
        cases this
    subst h0
    rw [hz rfl]
    exact ⟨v, w, run_append_owned_none (P := Tryz.prog) (w := w) base 44 ty 9 ti 1 ustrs hi v 0 [] h, h, ⟨rfl, rfl, rfl, Nat.le_refl _, fun _ _ _ => rfl⟩⟩
  | some x =>
    have hcs : ∀ j u, (l.map Value.string)[j]? = some u → w.cell? (x.add j) = some u := by
      by_cases h0 : 0 < l.length
      · exact str_cells ht h0
      · obtain rfl : l = [] := List.length_eq_zero_iff.1 (by omega)
        exact fun j u hj => by simp at hj
    obtain ⟨v', w', hr, ho, hg, _⟩ := app_own w base 44 ty 9 ti _ 1 16 ustrs hi hz0 hs hby rfl (by decide) v 0 [] h x l.length c (l.map Value.string) (by simp) hcs
      (fun u hu => by obtain ⟨y, _, rfl⟩ := List.mem_map.1 hu; rfl) (by unfold maxLen; omega) (by omega) hb
    refine ⟨v', w', hr, ?_, hg⟩
    unfold StrsOwn
    simpa using ho
theorem strs_empty {w : World} {g B : Nat} (h : w.heap[g]? = some (.cells #[] 9 (0, 0))) (hB : B ≤ g) : StrsOwn w B (.slice (some ⟨g, 0, none⟩) 0 0) [] :=
  ⟨rfl, .inr ⟨g, 0, #[], rfl, hB, h, Nat.le_refl _, Nat.zero_le _, rfl, rfl⟩⟩
theorem own_nil {w : World} {base e size n : Nat} {v : Value} {xs : List Value} (h : w.ownsRow base e size v n xs) : ∀ c, v = .slice none n c → c = 0 := fun c k => by
  rcases h.2 with ⟨h0, _⟩ | ⟨g, cap, cur, e1, _⟩
  · rw [h0] at k; cases k; rfl
  · rw [e1] at k; cases k

end Go.Proofs.YtleomppgkikhnaaGreat
