/-
  A string's bytes as a new row of the call's own, with nothing of its make: what the walks read in it, and back.
-/
import Derived.Test.YtpbiongoigbmpaaFirsts
import Derived.Laws.IdiomStrings
import Derived.Deep.OwnRows
namespace Go.Proofs.Ytpbiongoigbmpaa
open Go.RowKit

/-- The bytes l lie in block b, and may be written. -/
def BytesAt (w : World) (b : Nat) (l : List UInt8) : Prop := (∀ j (hj : j < l.length), w.cell? ⟨b, j, none⟩ = some (.int .u8 (l[j].toNat : Int))) ∧ (∀ j, j < l.length → w.frozen? ⟨b, j, none⟩ = false)

theorem bytes_of {P : Program} (w : World) (src dst e : TypeId) (s : ByteArray) (hs : P.underlying src = some .string) (hd : P.underlying dst = some (.slice e)) (he : P.underlying e = some (.int .u8)) :
    ∃ (w2 : World) (cap : Nat), (convert src dst (.string s)).run P w = .ok (.slice (some ⟨w.heap.size, 0, none⟩) s.size cap) w2 ∧ s.size ≤ cap ∧ w2.heap.size = w.heap.size + 1 ∧ Below w.heap.size w w2 ∧ BytesAt w2 w.heap.size s.data.toList := by
  refine ⟨_, _, run_bytes_of_string w src dst e s hs hd he, grownCap_ge _ _ _ _, by simp, ((Below.refl _ _).drew).alloc (Nat.le_refl _) _, fun j hj => ?_, fun j hj => ?_⟩
  · show (w.drew.alloc _).cell? ⟨w.drew.heap.size, j, none⟩ = _
    rw [World.cell?_alloc_mark, bytesRow_at s _ j (by simpa using hj)]
    simp
  · show (w.drew.alloc _).frozen? ⟨w.drew.heap.size, j, none⟩ = _
    rw [World.frozen?_alloc_mark]
    have hj' : j < s.size := by simpa using hj
    have : j < (bytesRow s (grownCap w s.size 0 e)).size := by simp [bytesRow]; omega
    have k : ∀ n : Nat, j < n → (decide (n ≤ j) && decide (j < n + 1)) = false := fun n hn => by simp; omega
    exact k _ this

/-- 'make([]byte, n)'. -/
theorem make_of {P : Program} (w : World) (t e : TypeId) (n : Nat) (ht : P.underlying t = some (.slice e)) (hinfo : (P.info? e).map (fun i => (i.zero, i.size, i.bytes)) = some (some (.int .u8 0), 1, 1)) (hn : n ≤ 281474976710656) :
    ∃ w2 : World, (Instr.makeSlice t (.int .i64 (n : Int)) (.int .i64 (n : Int))).run P w = .ok (.slice (some ⟨w.heap.size, 0, none⟩) n n) w2 ∧ w2.heap.size = w.heap.size + 1 ∧ Below w.heap.size w w2 ∧ BytesAt w2 w.heap.size (List.replicate n 0) := by
  refine ⟨_, run_make_row' t e (.int .u8 0) 1 ht hinfo rfl .i64 .i64 n (by omega) (by omega) w, by simp, (Below.refl _ _).alloc (Nat.le_refl _) _, fun j hj => ?_, fun j hj => ?_⟩
  · have hj' : j < n := by simpa using hj
    rw [World.cell?_alloc_at _ _ _ _ rfl, ← Array.getElem?_toList, toList_madeCells_one]
    simp [hj']
  · rw [World.frozen?_alloc_at _ _ _ _ rfl]

theorem BytesAt.drew {w : World} {b : Nat} {l : List UInt8} (h : BytesAt w b l) : BytesAt w.drew b l := h
theorem BytesAt.drewN {w : World} {b : Nat} {l : List UInt8} (h : BytesAt w b l) (n : Nat) : BytesAt (w.drewN n) b l := h
theorem BytesAt.conv {P : Program} {w : World} {b : Nat} {l : List UInt8} (h : BytesAt w b l) (cap : Nat) (src dst e : TypeId) (hs : P.underlying src = some (.slice e)) (he : P.underlying e = some (.int .u8)) (hd : P.underlying dst = some .string) :
    (convert src dst (.slice (some ⟨b, 0, none⟩) l.length cap)).run P w = .ok (.string (Num.bs l)) w :=
  run_convert_bytes_back (P := P) w src dst e ⟨b, 0, none⟩ cap l hs he hd fun j hj => by
    rw [Addr.add_lit, Nat.zero_add]; exact h.1 j hj
theorem BytesAt.set {w : World} {b : Nat} {l : List UInt8} (h : BytesAt w b l) {i : Nat} (hi : i < l.length) (c : UInt8) : BytesAt (w.setCell ⟨b, i, none⟩ (.int .u8 (c.toNat : Int))) b (l.set i c) := by
  refine ⟨fun j hj => ?_, fun j hj => ?_⟩
  · have hj' : j < l.length := by simpa using hj
    by_cases e : i = j
    · subst e
      rw [World.cell?_setCell_same _ _ _ (h.1 i hi)]
      simp
    · rw [World.cell?_setCell_other _ _ _ _ (fun c => e (congrArg Addr.off c)), h.1 j hj']
      simp [e]
  · rw [World.frozen?_setCell]
    exact h.2 j (by simpa using hj)
theorem BytesAt.below {w w' : World} {b : Nat} {l : List UInt8} (h : BytesAt w b l) {n : Nat} (hb : Below n w w') (hn : b < n) : BytesAt w' b l :=
  ⟨fun j hj => by rw [hb.cell (p := ⟨b, j, none⟩) hn]; exact h.1 j hj, fun j hj => by rw [hb.frozen (p := ⟨b, j, none⟩) hn]; exact h.2 j hj⟩
end Go.Proofs.Ytpbiongoigbmpaa
