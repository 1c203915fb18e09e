/-
  The chapter's example.
-/
import Derived.Test.YtleomppgkikhnaaGreatDskCrashW
namespace Go.Proofs.YtleomppgkikhnaaGreat
open Go.RowKit
open Dsk (Nm Hold Fl Ct By Dk FRel NRel)

theorem keep_one (w : World) (x : Int) (t : TypeId) : KeepAt (w.alloc (.cells #[.int .i64 x] t)) (some ⟨w.heap.size, 0, none⟩) [x] :=
  ⟨w.heap.size, 0, fun _ => ⟨rfl, by simp⟩, fun j hj => by
    have : j = 0 := by simpa using hj
    subst this
    simp⟩
theorem more_in {S : Nat → Prop} {w0 a b : World} (h : ∀ k, S k → w0.heap.size ≤ k) (ha : w0.heap.size ≤ a.heap.size) : ∀ k, more S a b k → w0.heap.size ≤ k := fun k hk => by
  rcases hk with hk | hk
  · exact h k hk
  · omega
theorem noneS_in {w0 a b : World} (ha : w0.heap.size ≤ a.heap.size) : ∀ k, more noneS a b k → w0.heap.size ≤ k := more_in (fun _ h => h.elim) ha
/-- Since w0 nothing that was there has changed, and what S has is new. -/
structure Own (w0 : World) (S : Nat → Prop) (w : World) : Prop where
  below : Below w0.heap.size w0 w
  all : ∀ k, S k → w0.heap.size ≤ k
theorem Own.new {w0 w : World} (h : Below w0.heap.size w0 w) : Own w0 (more noneS w0 w) w := ⟨h, noneS_in (Nat.le_refl _)⟩
theorem Own.next {w0 w w' : World} {S : Nat → Prop} (h : Own w0 S w) (ho : Only S w w') : Own w0 (more S w w') w' := ⟨h.below.trans (ho.below h.below.size h.all), more_in h.all h.below.size⟩
theorem Own.only {w0 w w' : World} {S : Nat → Prop} (h : Own w0 S w) (ho : Only S w w') : Own w0 S w' := ⟨h.below.trans (ho.below h.below.size h.all), h.all⟩
theorem Own.then {w0 w w' : World} {S : Nat → Prop} (h : Own w0 S w) (hb : Below w.heap.size w w') : Own w0 S w' := ⟨bl h.below hb, h.all⟩
def nA : ByteArray := ⟨#[97]⟩
def shD : Dk := (Dsk.append nA [120, 121, 122] (Dsk.syncDir (Dsk.create nA (Dsk.fresh 9)).1).1).1
theorem sh_create : (Dsk.create nA (Dsk.fresh 9)).2 = 0 := by decide
theorem sh_sync : (Dsk.syncDir (Dsk.create nA (Dsk.fresh 9)).1).2 = 0 := by decide
theorem sh_app : (Dsk.append nA [120, 121, 122] (Dsk.syncDir (Dsk.create nA (Dsk.fresh 9)).1).1).2 = 0 := by decide
theorem sh_read : Dsk.read nA (Dsk.crash 0 [2] shD) = ([120, 121], 0) := by decide
end Go.Proofs.YtleomppgkikhnaaGreat
