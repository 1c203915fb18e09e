/-
  Pairs (api.Pair: a name, a value) in memory, as a walk reads them; hasName, Value, the document's own Value.
-/
import Derived.Test.YtbjcphefaciihaaBase
import Derived.Test.YtbjcphefaciihaaLabelMath
namespace Go.Proofs.Ytbjcphefaciihaa
open Go.RowKit
open Lab (Pr)

/-- The pairs lie behind the address 'a', two cells each. -/
def PairsAt (w : World) (a : Option Addr) (ps : List Pr) : Prop :=
  ∀ i, i < ps.length → ∃ b off, a = some ⟨b, off, none⟩ ∧ b < w.heap.size ∧ ∀ j (h : j < ps.length), w.cell? ⟨b, off + j * 2, none⟩ = some (.string (ps[j]).1) ∧ w.cell? ⟨b, off + j * 2 + 1, none⟩ = some (.string (ps[j]).2)

theorem PairsAt.nil (w : World) (a : Option Addr) : PairsAt w a [] := fun i h => by simp at h

theorem PairsAt.below {w w' : World} {a : Option Addr} {ps : List Pr} (h : PairsAt w a ps) (hb : Below w.heap.size w w') : PairsAt w' a ps := by
  intro i hi
  obtain ⟨b, off, ha, hbl, hc⟩ := h i hi
  have hsz := hb.size
  exact ⟨b, off, ha, by omega, fun j hj => ⟨(hb.cell (by exact hbl)).trans (hc j hj).1, (hb.cell (by exact hbl)).trans (hc j hj).2⟩⟩

theorem PairsAt.take {w : World} {a : Option Addr} {ps : List Pr} (h : PairsAt w a ps) (k : Nat) : PairsAt w a (ps.take k) := by
  intro i hi
  obtain ⟨b, off, ha, hbl, hc⟩ := h i (by simp at hi; omega)
  refine ⟨b, off, ha, hbl, fun j hj => ?_⟩
  have := hc j (by simp at hj; omega)
  simpa using this

/-- Pair k, in a later world. -/
theorem PairsAt.get {w wr : World} {a : Option Addr} {ps : List Pr} (h : PairsAt w a ps) (hnx : Below w.heap.size w wr) {k : Nat} (hk : k < ps.length) :
    ∃ b off zn zv, a = some ⟨b, off, none⟩ ∧ b < w.heap.size ∧ ps[k] = (zn, zv) ∧ wr.cell? ⟨b, off + k * 2, none⟩ = some (.string zn) ∧ wr.cell? ⟨b, off + k * 2 + 1, none⟩ = some (.string zv) := by
  obtain ⟨b, off, ha, hbl, hc⟩ := h k hk
  exact ⟨b, off, _, _, ha, hbl, rfl, (hnx.cell (by exact hbl)).trans (hc k hk).1, (hnx.cell (by exact hbl)).trans (hc k hk).2⟩

theorem has_next {ps : List Pr} {k : Nat} {n zn zv : ByteArray} (hk : k < ps.length) (hz : ps[k] = (zn, zv)) (h : Lab.has (ps.take k) n = false) (hn : (zn.toList == n.toList) = false) : Lab.has (ps.take (k + 1)) n = false := by
  rw [List.take_succ_eq_append_getElem hk, Lab.has_app, h, hz]
  simpa [Lab.has] using Lab.eqB_false hn
theorem has_found {ps : List Pr} {k : Nat} {n zn zv : ByteArray} (hk : k < ps.length) (hz : ps[k] = (zn, zv)) (hn : (zn.toList == n.toList) = true) : Lab.has ps n = true :=
  Lab.has_iff.2 ⟨ps[k], List.getElem_mem hk, by rw [hz]; exact Lab.eqB_true hn⟩
theorem has_end {ps : List Pr} {k : Nat} {n : ByteArray} (hk : ¬ k < ps.length) (h : Lab.has (ps.take k) n = false) : Lab.has ps n = false := by rwa [List.take_of_length_le (by omega)] at h
theorem ret_b {a b : Bool} (h : a = b) : Ending.returned (.bool a) = .returned (.bool b) := by rw [h]
theorem ret_s {a b : ByteArray} (h : a = b) : Ending.returned (.string a) = .returned (.string b) := by rw [h]
theorem val_next {ps : List Pr} {k : Nat} {n zn zv : ByteArray} (hk : k < ps.length) (hz : ps[k] = (zn, zv)) (h : Lab.value (ps.drop k) n = Lab.value ps n) (hn : (zn.toList == n.toList) = false) : Lab.value (ps.drop (k + 1)) n = Lab.value ps n := by
  rw [← h, List.drop_eq_getElem_cons hk, hz, Lab.value_cons_ne (Lab.eqB_false hn)]
theorem val_found {ps : List Pr} {k : Nat} {n zn zv : ByteArray} (hk : k < ps.length) (hz : ps[k] = (zn, zv)) (h : Lab.value (ps.drop k) n = Lab.value ps n) (hn : (zn.toList == n.toList) = true) : zv = Lab.value ps n := by
  rw [← h, List.drop_eq_getElem_cons hk, hz, Lab.value_cons_eq (Lab.eqB_true hn)]
theorem val_end {ps : List Pr} {k : Nat} {n : ByteArray} (hk : ¬ k < ps.length) (h : Lab.value (ps.drop k) n = Lab.value ps n) : (⟨#[]⟩ : ByteArray) = Lab.value ps n := by
  rw [← h, List.drop_eq_nil_of_le (by omega)]; rfl

set_option maxRecDepth 100000 in
set_option maxHeartbeats 800000 in
theorem hasName_any (a : Option Addr) (cap : Nat) (ps : List Pr) (n : ByteArray) (w : World) (hp : PairsAt w a ps) (hl : ps.length ≤ 9223372036854775807) :
    Calls Try.prog 68 #[.slice a ps.length cap, .string n] w fun e w' => e = .returned (.bool (Lab.has ps n)) ∧ Below w.heap.size w w' := by
  have HP := hide hp
  clear hp
  go_enter Try.func68, Try.ntmps68
  go_wp2
  go_loopw [9] (fun i wr => ∃ k : Nat, k ≤ ps.length ∧ i = .int .i64 (k : Int) ∧ Lab.has (ps.take k) n = false ∧ Below w.heap.size w wr)
    (fun i _ => ps.length - (intOf i).toNat)
  case atStart => exact ⟨0, Nat.zero_le _, rfl, rfl, Below.refl _ _⟩
  case round =>
    obtain ⟨k, hk, rfl, hno, hnx⟩ := hrel
    have HN := hide hno
    clear hno
    have hsz := hnx.size
    by_cases hlt : k < ps.length
    · obtain ⟨b, off, zn, zv, rfl, hbl, hz, hc1, hc2⟩ := (unhide HP).get hnx hlt
      have HZ := hide hz
      clear hz
      have hal := hnx.alloc hsz (Obj.cells #[.string zn, .string zv] 53)
      by_cases heq : (zn.toList == n.toList) = true
      · go_wp2
        go_ret
        exact ⟨ret_b (has_found hlt (unhide HZ) heq).symm, hal⟩
      · have heq' : (zn.toList == n.toList) = false := by simpa using heq
        clear heq
        go_wp2
        go_roundw
        case rel => exact ⟨k + 1, by omega, by go_num, has_next hlt (unhide HZ) (unhide HN) heq', hal⟩
        case measure => simp [intOf]; omega
    · go_wp2
      go_ret
      exact ⟨ret_b (has_end hlt (unhide HN)).symm, hnx⟩

set_option maxRecDepth 100000 in
set_option maxHeartbeats 800000 in
theorem value_any (a : Option Addr) (cap : Nat) (ps : List Pr) (n : ByteArray) (w : World) (hp : PairsAt w a ps) (hl : ps.length ≤ 9223372036854775807) :
    Calls Try.prog 70 #[.slice a ps.length cap, .string n] w fun e w' => e = .returned (.string (Lab.value ps n)) ∧ Below w.heap.size w w' := by
  have HP := hide hp
  clear hp
  go_enter Try.func70, Try.ntmps70
  go_wp2
  go_loopw [9] (fun i wr => ∃ k : Nat, k ≤ ps.length ∧ i = .int .i64 (k : Int) ∧ Lab.value (ps.drop k) n = Lab.value ps n ∧ Below w.heap.size w wr)
    (fun i _ => ps.length - (intOf i).toNat)
  case atStart => exact ⟨0, Nat.zero_le _, rfl, rfl, Below.refl _ _⟩
  case round =>
    obtain ⟨k, hk, rfl, hno, hnx⟩ := hrel
    have HN := hide hno
    clear hno
    have hsz := hnx.size
    by_cases hlt : k < ps.length
    · obtain ⟨b, off, zn, zv, rfl, hbl, hz, hc1, hc2⟩ := (unhide HP).get hnx hlt
      have HZ := hide hz
      clear hz
      have hal := hnx.alloc hsz (Obj.cells #[.string zn, .string zv] 53)
      by_cases heq : (zn.toList == n.toList) = true
      · go_wp2
        go_ret
        exact ⟨ret_s (val_found hlt (unhide HZ) (unhide HN) heq), hal⟩
      · have heq' : (zn.toList == n.toList) = false := by simpa using heq
        clear heq
        go_wp2
        go_roundw
        case rel => exact ⟨k + 1, by omega, by go_num, val_next hlt (unhide HZ) (unhide HN) heq', hal⟩
        case measure => simp [intOf]; omega
    · go_wp2
      go_ret
      exact ⟨ret_s (val_end hlt (unhide HN)), hnx⟩

set_option maxRecDepth 100000 in
set_option maxHeartbeats 800000 in
theorem refValue_any (a : Option Addr) (cap : Nat) (ps : List Pr) (n : ByteArray) (w : World) (hp : PairsAt w a ps) (hl : ps.length ≤ 9223372036854775807) :
    Calls Try.prog 22 #[.slice a ps.length cap, .string n] w fun e w' => e = .returned (.string (Lab.value ps n)) ∧ Below w.heap.size w w' := by
  have HP := hide hp
  clear hp
  go_enter Try.func22, Try.ntmps22
  go_wp2
  go_loopw [5] (fun i wr => ∃ k : Nat, k ≤ ps.length ∧ i = .int .i64 (k : Int) ∧ Lab.value (ps.drop k) n = Lab.value ps n ∧ Below w.heap.size w wr)
    (fun i _ => ps.length - (intOf i).toNat)
  case atStart => exact ⟨0, Nat.zero_le _, rfl, rfl, Below.refl _ _⟩
  case round =>
    obtain ⟨k, hk, rfl, hno, hnx⟩ := hrel
    have HN := hide hno
    clear hno
    have hsz := hnx.size
    by_cases hlt : k < ps.length
    · obtain ⟨b, off, zn, zv, rfl, hbl, hz, hc1, hc2⟩ := (unhide HP).get hnx hlt
      have HZ := hide hz
      clear hz
      have hal := hnx
      by_cases heq : (zn.toList == n.toList) = true
      · go_wp2
        go_ret
        exact ⟨ret_s (val_found hlt (unhide HZ) (unhide HN) heq), hal⟩
      · have heq' : (zn.toList == n.toList) = false := by simpa using heq
        clear heq
        go_wp2
        go_roundw
        case rel => exact ⟨k + 1, by omega, by go_num, val_next hlt (unhide HZ) (unhide HN) heq', hal⟩
        case measure => simp [intOf]; omega
    · go_wp2
      go_ret
      exact ⟨ret_s (val_end hlt (unhide HN)), hnx⟩

end Go.Proofs.Ytbjcphefaciihaa
