/-
  The laws' name (one of four, or a raw one) and same (are two rows of texts alike?).
-/
import Derived.Test.YtpbiongoigbmpaaGreatPickW
import Derived.Test.YtpbiongoigbmpaaGreatDskShownW
namespace Go.Proofs.YtpbiongoigbmpaaGreat
open Go.RowKit

def nameOf (k : Nat) (raw : ByteArray) : ByteArray := [(⟨#[97]⟩ : ByteArray), ⟨#[98]⟩, ⟨#[99]⟩, ⟨#[99, 107]⟩].getD k raw
theorem four_at (w : World) (raw : ByteArray) {k : Nat} (hk : k < 4) : (w.alloc (.cells #[.string ⟨#[97]⟩, .string ⟨#[98]⟩, .string ⟨#[99]⟩, .string ⟨#[99, 107]⟩] 9)).cell? ⟨w.heap.size, k, none⟩ = some (.string (nameOf k raw)) := by
  match k, hk with
  | 0, _ => simp [nameOf]
  | 1, _ => simp [nameOf]
  | 2, _ => simp [nameOf]
  | 3, _ => simp [nameOf]
set_option maxRecDepth 100000 in
set_option maxHeartbeats 600000 in
theorem name_any (k : Int) (raw : ByteArray) (w : World) (h0 : -9223372036854775808 ≤ k) (h1 : k ≤ 9223372036854775807) :
    Calls Tryz.prog 27 #[.int .i64 k, .string raw] w fun e w' => e = .returned (.string (nameOf (pk k 5) raw)) ∧ Below w.heap.size w w' := by
  obtain ⟨n, hn⟩ : ∃ n, pk k 5 = n := ⟨_, rfl⟩
  have hlt : n < 5 := by rw [← hn]; exact pk_lt k (by omega)
  rw [hn]
  have HN := hide hn
  clear hn
  by_cases h4 : n < 4
  · have hc := four_at w raw h4
    have bA : Below w.heap.size w (w.alloc (.cells #[.string ⟨#[97]⟩, .string ⟨#[98]⟩, .string ⟨#[99]⟩, .string ⟨#[99, 107]⟩] 9)) := (Below.refl _ w).alloc (Nat.le_refl _) _
    have HBA := hide bA
    clear bA
    go_enter Tryz.func27, Tryz.ntmps27
    go_wp2_with fail
    refine (pick_any k 5 _ h0 h1 (by omega) (by omega)).mono ?_
    rintro e w1 ⟨rfl, hw⟩
    rw [hw, HN.out]
    clear hw
    go_wp2
    go_ret
    exact ⟨rfl, HBA.out⟩
  · obtain rfl : n = 4 := by omega
    go_enter Tryz.func27, Tryz.ntmps27
    go_wp2_with fail
    refine (pick_any k 5 _ h0 h1 (by omega) (by omega)).mono ?_
    rintro e w1 ⟨rfl, hw⟩
    rw [hw, HN.out]
    clear hw
    go_wp2
    go_ret
    exact ⟨rfl, (Below.refl _ w).alloc (Nat.le_refl _) _⟩
/-- Texts behind an address. -/
def TxtsAt (w : World) (a : Option Addr) (l : List ByteArray) : Prop := ∃ g o, (0 < l.length → a = some ⟨g, o, none⟩ ∧ g < w.heap.size) ∧ ∀ j (hj : j < l.length), w.cell? ⟨g, o + j, none⟩ = some (.string l[j])
theorem TxtsAt.below {w w' : World} {a : Option Addr} {l : List ByteArray} (h : TxtsAt w a l) (hb : Below w.heap.size w w') : TxtsAt w' a l := by
  obtain ⟨g, o, h1, h2⟩ := h
  refine ⟨g, o, fun k => ⟨(h1 k).1, Nat.lt_of_lt_of_le (h1 k).2 hb.size⟩, fun j hj => (hb.cell (p := ⟨g, o + j, none⟩) (h1 (by omega)).2).trans (h2 j hj)⟩
theorem take_next {la lb : List ByteArray} {k : Nat} (ha : k < la.length) (hb : k < lb.length) (h : la.take k = lb.take k) (e : la[k] = lb[k]) : la.take (k + 1) = lb.take (k + 1) := by
  rw [List.take_succ_eq_append_getElem ha, List.take_succ_eq_append_getElem hb, h, e]
set_option maxRecDepth 100000 in
set_option maxHeartbeats 600000 in
theorem same_any {w : World} {a b : Option Addr} (ca cb : Nat) {la lb : List ByteArray} (ha : TxtsAt w a la) (hb : TxtsAt w b lb) (hla : la.length ≤ 1000000000000) (hlb : lb.length ≤ 1000000000000) :
    Calls Tryz.prog 21 #[.slice a la.length ca, .slice b lb.length cb] w fun e w' => e = .returned (.bool (decide (la = lb))) ∧ Below w.heap.size w w' := by
  by_cases hl : la.length = lb.length
  · obtain ⟨ga, oa, a1, a2⟩ := ha
    obtain ⟨gb, ob, b1, b2⟩ := hb
    have A2 := hide a2
    have B2 := hide b2
    have HL := hide hl
    have hne : ((la.length : Int) == (lb.length : Int)) = true := beq_iff_eq.2 (by omega)
    clear a2 b2
    obtain ⟨r, hr⟩ : ∃ r, decide (la = lb) = r := ⟨_, rfl⟩
    rw [hr]
    have HR := hide hr
    clear hr hl
    go_enter Tryz.func21, Tryz.ntmps21
    go_wp2
    have hn2 : ((la.length : Int) != (lb.length : Int)) = false := by simp only [bne, hne, Bool.not_true]
    rw [hn2]
    clear hne hn2
    go_loopw [5] (fun i wr => ∃ k : Nat, k ≤ la.length ∧ i = .int .i64 (k : Int) ∧ Hid (la.take k = lb.take k) ∧ Below w.heap.size w wr) (fun i _ => la.length - (intOf i).toNat)
    case atStart => exact ⟨0, Nat.zero_le _, rfl, by simp [Hid], Below.refl _ _⟩
    case round =>
      obtain ⟨k, hk, rfl, HT, hnx⟩ := hrel
      by_cases hlt : k < la.length
      · have hlt2 : k < lb.length := by have := HL.out; omega
        obtain ⟨rfl, hga⟩ := a1 (by omega)
        obtain ⟨rfl, hgb⟩ := b1 (by omega)
        have v1 := (hnx.cell (p := ⟨ga, oa + k, none⟩) hga).trans (A2.out k hlt)
        have v2 := (hnx.cell (p := ⟨gb, ob + k, none⟩) hgb).trans (B2.out k hlt2)
        obtain ⟨x, hx⟩ : ∃ x, la[k] = x := ⟨_, rfl⟩
        obtain ⟨y, hy⟩ : ∃ y, lb[k] = y := ⟨_, rfl⟩
        rw [hx] at v1
        rw [hy] at v2
        have HX := hide hx
        have HY := hide hy
        clear hx hy
        have hki : (k : Int) < (la.length : Int) := by omega
        by_cases heq : x = y
        · subst heq
          have HTN := hide (take_next hlt hlt2 HT.out (by rw [HX.out, HY.out]))
          go_wp2_with fail
          go_quiet (fail)
          go_wp2
          go_roundw
          case rel =>
            exact ⟨k + 1, by omega, by go_num, HTN, ⟨hnx.os, hnx.tape, hnx.output, hnx.size, hnx.block⟩⟩
          case measure => simp [intOf]; omega
        · have heq' : (x.toList == y.toList) = false := by rw [Lab.eqB]; exact decide_eq_false heq
          clear heq
          go_wp2_with fail
          go_quiet (fail)
          go_wp2
          go_ret
          refine ⟨?_, ⟨hnx.os, hnx.tape, hnx.output, hnx.size, hnx.block⟩⟩
          have hz : r = false := by
            rw [← HR.out]
            refine decide_eq_false fun e => Lab.eqB_false heq' ?_
            subst e
            rw [← HX.out, ← HY.out]
          rw [hz]
          rfl
      · go_wp2
        go_ret
        refine ⟨?_, hnx⟩
        have hz : r = true := by
          rw [← HR.out]
          refine decide_eq_true ?_
          have := HT.out
          rwa [List.take_of_length_le (by omega), List.take_of_length_le (by have := HL.out; omega)] at this
        rw [hz]
        rfl
  · have hne : ((la.length : Int) == (lb.length : Int)) = false := beq_eq_false_iff_ne.2 (by omega)
    rw [show decide (la = lb) = false from decide_eq_false (fun e => hl (by rw [e]))]
    clear ha hb
    go_enter Tryz.func21, Tryz.ntmps21
    go_wp2
    go_ret
    exact ⟨rfl, Below.refl _ _⟩

end Go.Proofs.YtpbiongoigbmpaaGreat
