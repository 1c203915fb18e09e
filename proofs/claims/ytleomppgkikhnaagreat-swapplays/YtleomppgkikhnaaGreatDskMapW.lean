/-
  The program's map of names: a block that stands for names, each with the block of its file.
-/
import Derived.Test.YtleomppgkikhnaaGreatBase
import Derived.Test.YtleomppgkikhnaaGreatPlain
import Derived.Maps.OwnSet
import Derived.Sort.KeysCollected
namespace Go.Proofs.YtleomppgkikhnaaGreat
open Go.RowKit
open Dsk (Nm Hold)

/-- A pointer to a block's head, or none. -/
def ptrV : Option Nat → Value
  | none => .pointer none
  | some b => .pointer (some ⟨b, 0, none⟩)
def ptrR : Value → Option (DataW Unit × List MemPlace)
  | .pointer none => some (.nil, [])
  | .pointer (some a) => if a.off = 0 ∧ a.spot = none then some (.lit (.int .i64 (a.block : Int)), []) else none
  | _ => none
def datV : Option Nat → DataW Unit
  | none => .nil
  | some b => .lit (.int .i64 (b : Int))
theorem ptrR_ptrV (o : Option Nat) : ptrR (ptrV o) = some (datV o, []) := by cases o <;> simp [ptrR, ptrV, datV]
theorem ptrR_inv {v : Value} {y : DataW Unit × List MemPlace} (h : ptrR v = some y) : ∃ o, v = ptrV o ∧ y = (datV o, []) := by
  unfold ptrR at h
  split at h
  · exact ⟨none, rfl, (Option.some.inj h).symm⟩
  · rename_i a
    split at h
    · rename_i k
      obtain ⟨b, o, s⟩ := a
      obtain ⟨rfl, rfl⟩ := k
      exact ⟨some b, rfl, (Option.some.inj h).symm⟩
    · cases h
  · cases h
theorem datV_inj {a b : Option Nat} (h : datV a = datV b) : a = b := by
  cases a <;> cases b <;> simp [datV] at h ⊢
  omega
def bkey (n : ByteArray) : Lit := .string n.data.toList
theorem bkey_inj {a b : ByteArray} (h : bkey a = bkey b) : a = b := by
  simp only [bkey, Lit.string.injEq] at h
  exact ByteArray.ext (Array.ext' h)
theorem bkey_key (n : ByteArray) : WideAt.IsKeyLit (bkey n) := by simp [bkey, WideAt.IsKeyLit]
theorem skeyed : Maps.Keyed Tryz.prog 9 := Maps.string_keyed (by kernel_rfl)
theorem umap : Tryz.prog.underlying 46 = some (.map 9 66) := by kernel_rfl
theorem ustr : Tryz.prog.underlying 9 = some .string := by kernel_rfl
theorem zptr (w : World) : (zeroValue 66).run Tryz.prog w = .ok (.pointer none) w := by
  have h : (Tryz.prog.info? 66).map (fun i => i.zero) = some (some (.pointer none)) := by kernel_rfl
  obtain ⟨i, hi, hz⟩ := Option.map_eq_some_iff.1 h
  simp [zeroValue, typeInfo, hi, hz]
theorem bkey_of {n : ByteArray} (h : n.size ≤ maxLen) : keyOf Tryz.prog 9 (.string n) = some (bkey n) := WideMaps.keyOf_string_mk ustr h

/-- Block b is a map of at most c entries: names, each with a block. -/
def MapIs (w : World) (b c : Nat) (f : Nm) : Prop := ∃ D : DataW Unit, w.ownsMap Tryz.prog 9 ptrR b c D ∧ (∀ n, Maps.has D (bkey n) = (f n).isSome) ∧ ∀ n, D.atKey (bkey n) .nil = datV (f n)
theorem MapIs.lt {w : World} {b c : Nat} {f : Nm} (h : MapIs w b c f) : b < w.heap.size := by obtain ⟨D, h, _⟩ := h; exact h.lt
theorem MapIs.block {w : World} {b c : Nat} {f : Nm} (h : MapIs w b c f) : ∃ es k, w.heap[b]? = some (.map es k) := by
  obtain ⟨D, ⟨es, k, h, _⟩, _⟩ := h
  exact ⟨es, k, h⟩
theorem MapIs.keep {w w' : World} {b c : Nat} {f : Nm} (h : MapIs w b c f) (e : w'.heap[b]? = w.heap[b]?) : MapIs w' b c f := by
  obtain ⟨D, ⟨es, k, h, r⟩, h2⟩ := h
  exact ⟨D, ⟨es, k, e.trans h, r⟩, h2⟩
theorem MapIs.mono {w : World} {b c c' : Nat} {f : Nm} (h : MapIs w b c f) (hc : c ≤ c') : MapIs w b c' f := by
  obtain ⟨D, h, r⟩ := h
  exact ⟨D, h.mono hc, r⟩
theorem MapIs.eq {w : World} {b c : Nat} {f f' : Nm} (h : MapIs w b c f) (e : f = f') : MapIs w b c f' := e ▸ h
theorem MapIs.made (w : World) : MapIs (w.alloc (.map #[] 0)) w.heap.size 0 (fun _ => none) :=
  ⟨.map [], World.ownsMap_made w _ _ _, fun _ => rfl, fun _ => rfl⟩
theorem MapIs.look {w : World} {b c : Nat} {f : Nm} (h : MapIs w b c f) {n : ByteArray} (hn : n.size ≤ maxLen) :
    (Instr.lookup 46 (.map (some b)) (.string n) false).run Tryz.prog w = .ok (ptrV (f n)) w := by
  obtain ⟨D, h, _, h2⟩ := h
  obtain ⟨v, ps, hr, hv⟩ := h.lookup skeyed umap (zptr w) (zd := .nil) (zp := []) rfl (bkey_of hn)
  obtain ⟨o, rfl, e⟩ := ptrR_inv hv
  simp only [Prod.mk.injEq] at e
  have := (h2 n).symm.trans e.1
  rw [hr, datV_inj this]
theorem MapIs.store {w : World} {b c : Nat} {f : Nm} (h : MapIs w b c f) {n : ByteArray} (hn : n.size ≤ maxLen) (hc : c < maxLen) (x : Nat) :
    ∃ w', (Instr.mapUpdate 46 (.map (some b)) (.string n) (.pointer (some ⟨x, 0, none⟩))).run Tryz.prog w = .ok () w' ∧ MapIs w' b (c + 1) (Dsk.putN (n, some x) f) ∧ w.grownBy w' (some b) ∧ w'.heap.size = w.heap.size := by
  obtain ⟨D, h, h1, h2⟩ := h
  obtain ⟨w', hr, ho, ht⟩ := h.store skeyed umap hc (bkey_of hn) (ptrR_ptrV (some x))
  refine ⟨w', hr, ⟨_, ho, fun m => ?_, fun m => ?_⟩, ht.grown, ?_⟩
  · by_cases e : m = n
    · subst e; rw [Maps.has_put_same h.isMap (bkey_key _)]; simp [Dsk.putN]
    · rw [Maps.has_put_other (fun k => e (bkey_inj k)), h1]; simp [Dsk.putN, e]
  · by_cases e : m = n
    · subst e; rw [Maps.atKey_put_same h.isMap (bkey_key _)]; simp [Dsk.putN]
    · rw [Maps.atKey_put_other (fun k => e (bkey_inj k)), h2]; simp [Dsk.putN, e]
  · obtain ⟨_, _, _, _, _, rfl⟩ := ht
    simp [ChangeMaps.setBlock]
theorem MapIs.drop {w : World} {b c : Nat} {f : Nm} (h : MapIs w b c f) {n : ByteArray} (hn : n.size ≤ maxLen) (ty : TypeId) :
    ∃ w', (Builtin.delete_ #[46, 9] ty #[.map (some b), .string n]).run Tryz.prog w = .ok (.tuple #[]) w' ∧ MapIs w' b c (Dsk.putN (n, none) f) ∧ w.grownBy w' (some b) ∧ w'.heap.size = w.heap.size := by
  obtain ⟨D, h, h1, h2⟩ := h
  obtain ⟨w', hr, ho, ht⟩ := h.drop skeyed umap (bkey_of hn) ty
  refine ⟨w', hr, ⟨_, ho, fun m => ?_, fun m => ?_⟩, ht.grown, ?_⟩
  · by_cases e : m = n
    · subst e; rw [Maps.has_del_same]; simp [Dsk.putN]
    · rw [Maps.has_del_other (fun k => e (bkey_inj k)), h1]; simp [Dsk.putN, e]
  · by_cases e : m = n
    · subst e; rw [Maps.atKey_del_same]; simp [Dsk.putN, datV]
    · rw [Maps.atKey_del_other (fun k => e (bkey_inj k)), h2]; simp [Dsk.putN, e]
  · obtain ⟨_, _, _, _, _, rfl⟩ := ht
    simp [ChangeMaps.setBlock]

end Go.Proofs.YtleomppgkikhnaaGreat
