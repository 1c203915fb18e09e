/-
  Regions that draw their order and hold calls that make memory, but write none that was there: one walk in the order of the text, over the class of all worlds that go on from one.
-/
import Derived.Test.YtjbdofjheeljkaaBase
import Derived.BigQuiet
namespace Go.Proofs.Ytjbdofjheeljkaa
open Go.RowKit

/-- A world that goes on from w: what was there is as it was. -/
def Ext (w : World) : Type := {wx : World // Below w.heap.size w wx}
def Ext.w {w : World} (x : Ext w) : World := x.val
theorem Ext.below {w : World} (x : Ext w) : Below w.heap.size w x.w := x.property
theorem Ext.cell {w : World} (x : Ext w) {a : Addr} {v : Value} (h : w.cell? a = some v) : x.w.cell? a = some v :=
  (x.below.cell (World.block_lt_of_cell? w a h)).trans h
theorem Ext.mk_of {w wx : World} (h : Below w.heap.size w wx) : ∃ x : Ext w, wx = x.w := ⟨⟨wx, h⟩, rfl⟩

theorem Ext.some (w : World) : Nonempty (Ext w) := ⟨⟨w, Below.refl _ _⟩⟩

theorem calm_of {P : Program} {f : FuncId} {args : Array Value} {w : World} {x : Ext w} {v : Value} (h : Calls P f args x.w fun e w' => e = .returned v ∧ Below x.w.heap.size x.w w') :
    Calls P f args x.w fun e w'' => e = .returned v ∧ ∃ y : Ext w, w'' = y.w :=
  h.mono fun _ _ ⟨he, hb⟩ => ⟨he, Ext.mk_of (bl x.below hb)⟩
theorem calm_same {P : Program} {f : FuncId} {args : Array Value} {w : World} {x : Ext w} {v : Value} (h : Calls P f args x.w fun e w' => e = .returned v ∧ w' = x.w) :
    Calls P f args x.w fun e w'' => e = .returned v ∧ ∃ y : Ext w, w'' = y.w :=
  h.mono fun _ _ ⟨he, hb⟩ => ⟨he, x, hb⟩

theorem wp_region_calm {P : Program} {id : Nat} {Q : Exit → Act → World → Prop} {a : Act} {w : World} {l : List Oper} (hm : P.follows .mixedOrders = true) (hB : Region.lexB .any l.toArray = true)
    (h : wpQuiet P l.toArray (fun w' => ∃ x : Ext w, w' = x.w) (fun a' => ∀ w', (∃ x : Ext w, w' = x.w) → Q .normal a' w') l a) : (Code.region id l.toArray true).wp P Q a w :=
  wp_region_quiet (C := fun w' => ∃ x : Ext w, w' = x.w) hm hB (Ext.mk_of ((Below.refl _ _).drew)) (by simpa using h)

end Go.Proofs.Ytjbdofjheeljkaa
