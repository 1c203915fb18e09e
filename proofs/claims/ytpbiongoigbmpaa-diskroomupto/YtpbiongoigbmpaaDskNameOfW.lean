/-
  The laws' name (one of four, or a raw one) and same (are two rows of texts alike?).
-/
import Derived.Test.YtpbiongoigbmpaaPickW
import Derived.Test.YtpbiongoigbmpaaDskShownW
namespace Go.Proofs.Ytpbiongoigbmpaa
open Go.RowKit

def nameOf (k : Nat) (raw : ByteArray) : ByteArray := [(⟨#[97]⟩ : ByteArray), ⟨#[98]⟩, ⟨#[99]⟩, ⟨#[99, 107]⟩].getD k raw
theorem four_at (w : World) (raw : ByteArray) {k : Nat} (hk : k < 4) : (w.alloc (.cells #[.string ⟨#[97]⟩, .string ⟨#[98]⟩, .string ⟨#[99]⟩, .string ⟨#[99, 107]⟩] 9)).cell? ⟨w.heap.size, k, none⟩ = some (.string (nameOf k raw)) := by
  match k, hk with
  | 0, _ => simp [nameOf]
  | 1, _ => simp [nameOf]
  | 2, _ => simp [nameOf]
  | 3, _ => simp [nameOf]
set_option maxRecDepth 100000 in
set_option maxHeartbeats 600000 in
theorem name_any (k : Int) (raw : ByteArray) (w : World) (h0 : -9223372036854775808 ≤ k) (h1 : k ≤ 9223372036854775807) :
    Calls Try.prog 30 #[.int .i64 k, .string raw] w fun e w' => e = .returned (.string (nameOf (pk k 5) raw)) ∧ Below w.heap.size w w' := by
  obtain ⟨n, hn⟩ : ∃ n, pk k 5 = n := ⟨_, rfl⟩
  have hlt : n < 5 := by rw [← hn]; exact pk_lt k (by omega)
  rw [hn]
  have HN := hide hn
  clear hn
  by_cases h4 : n < 4
  · have hc := four_at w raw h4
    have bA : Below w.heap.size w (w.alloc (.cells #[.string ⟨#[97]⟩, .string ⟨#[98]⟩, .string ⟨#[99]⟩, .string ⟨#[99, 107]⟩] 9)) := (Below.refl _ w).alloc (Nat.le_refl _) _
    have HBA := hide bA
    clear bA
    go_enter Try.func30, Try.ntmps30
    go_wp2_with fail
    refine (pick_any k 5 _ h0 h1 (by omega) (by omega)).mono ?_
    rintro e w1 ⟨rfl, hw⟩
    rw [hw, HN.out]
    clear hw
    go_wp2
    go_ret
    exact ⟨rfl, HBA.out⟩
  · obtain rfl : n = 4 := by omega
    go_enter Try.func30, Try.ntmps30
    go_wp2_with fail
    refine (pick_any k 5 _ h0 h1 (by omega) (by omega)).mono ?_
    rintro e w1 ⟨rfl, hw⟩
    rw [hw, HN.out]
    clear hw
    go_wp2
    go_ret
    exact ⟨rfl, (Below.refl _ w).alloc (Nat.le_refl _) _⟩
/-- Texts behind an address. -/
def TxtsAt (w : World) (a : Option Addr) (l : List ByteArray) : Prop := ∃ g o, (0 < l.length → a = some ⟨g, o, none⟩ ∧ g < w.heap.size) ∧ ∀ j (hj : j < l.length), w.cell? ⟨g, o + j, none⟩ = some (.string l[j])
theorem TxtsAt.below {w w' : World} {a : Option Addr} {l : List ByteArray} (h : TxtsAt w a l) (hb : Below w.heap.size w w') : TxtsAt w' a l := by
  obtain ⟨g, o, h1, h2⟩ := h
  refine ⟨g, o, fun k => ⟨(h1 k).1, Nat.lt_of_lt_of_le (h1 k).2 hb.size⟩, fun j hj => (hb.cell (p := ⟨g, o + j, none⟩) (h1 (by omega)).2).trans (h2 j hj)⟩
theorem take_next {la lb : List ByteArray} {k : Nat} (ha : k < la.length) (hb : k < lb.length) (h : la.take k = lb.take k) (e : la[k] = lb[k]) : la.take (k + 1) = lb.take (k + 1) := by
  rw [List.take_succ_eq_append_getElem ha, List.take_succ_eq_append_getElem hb, h, e]

end Go.Proofs.Ytpbiongoigbmpaa
