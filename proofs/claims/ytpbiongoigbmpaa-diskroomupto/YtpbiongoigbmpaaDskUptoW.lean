/-
  What the bound on the input's bulk gives of acts that came in.
-/
import Derived.Test.YtpbiongoigbmpaaDskActsW
import Derived.Test.YtpbiongoigbmpaaRows
namespace Go.Proofs.Ytpbiongoigbmpaa
open Go.RowKit

theorem bulk_one {H : Type} (d : DataW H) : 1 ≤ Rows.uptoBulk d := by
  cases d with
  | lit l => cases l <;> simp [Rows.uptoBulk]
  | nil => simp [Rows.uptoBulk]
  | ptr d => simp [Rows.uptoBulk]
  | slice elems spare => simp [Rows.uptoBulk]
  | agg parts => simp [Rows.uptoBulk]
  | iface t d => simp [Rows.uptoBulk]
  | map entries => simp [Rows.uptoBulk]
  | held h => simp [Rows.uptoBulk]
theorem bulk_part {H : Type} {d : DataW H} {l : List (DataW H)} (h : d ∈ l) : Rows.uptoBulk d ≤ Rows.uptoBulkAll l := by
  induction l with
  | nil => cases h
  | cons x r ih =>
    simp only [Rows.uptoBulkAll]
    rcases List.mem_cons.1 h with e | e
    · subst e; omega
    · have := ih e; omega
theorem bulk_app {H : Type} (l r : List (DataW H)) : Rows.uptoBulkAll (l ++ r) = Rows.uptoBulkAll l + Rows.uptoBulkAll r := by
  induction l with
  | nil => simp [Rows.uptoBulkAll]
  | cons x l ih => simp only [List.cons_append, Rows.uptoBulkAll, ih]; omega
theorem bulk_acts {H : Type} (D : Nat → DataW H) (l : List Ac) (h : ∀ i (h : i < l.length), ∃ y0 y1 y2 y3, D i = .agg [y0, y1, y2, y3, .lit (.string l[i].raw.data.toList), .lit (.string l[i].text.data.toList)]) :
    ∀ n, n ≤ l.length → n + acSum (l.take n) ≤ Rows.uptoBulkAll ((List.range n).map D) := by
  intro n
  induction n with
  | zero => intro _; simp [acSum]
  | succ n ih =>
    intro hn
    have := ih (by omega)
    rw [List.range_succ, List.map_append, bulk_app, acSum_take (by omega)]
    obtain ⟨y0, y1, y2, y3, e⟩ := h n (by omega)
    simp only [List.map_cons, List.map_nil, Rows.uptoBulkAll, e, Rows.uptoBulk, Nat.add_zero]
    have e1 : l[n].raw.data.toList.length = l[n].raw.size := rfl
    have e2 : l[n].text.data.toList.length = l[n].text.size := rfl
    rw [e1, e2]
    omega
theorem acts_bulk {H : Type} {d : DataW H} {l : List Ac} (h : ActD d l) : l.length + acSum l ≤ Rows.uptoBulk d := by
  rcases h with rfl | ⟨D, sp, rfl, h⟩
  · simp [acSum]
  · have := bulk_acts D l h l.length (Nat.le_refl _)
    rw [List.take_length] at this
    simp only [Rows.uptoBulk]
    omega
theorem upto_acts {H : Type} {d : DataW H} {l : List Ac} {ds : List (DataW H)} (h : ActD d l) (hm : d ∈ ds) (hk : Rows.uptoSmall H ds = true) : l.length + acSum l ≤ 10000000 := by
  have h1 := acts_bulk h
  have h2 := bulk_part hm
  have h3 : Rows.uptoBulkAll ds ≤ 1048576 := of_decide_eq_true hk
  omega

end Go.Proofs.Ytpbiongoigbmpaa
