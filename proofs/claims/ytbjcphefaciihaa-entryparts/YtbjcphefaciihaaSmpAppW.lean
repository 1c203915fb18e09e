/-
  'append(own, src...)' of samples, as one operation of a walk.
-/
import Derived.Test.YtbjcphefaciihaaSmpW
namespace Go.Proofs.Ytbjcphefaciihaa
open Go.RowKit
open Smp (Sm)

theorem wpList_apps {ops : Array Oper} {rest : List Oper} {o : Oper} {a : Act} {w : World} {Q : Exit → Act → World → Prop} (hgd : o.guard = none) (s x : Operand)
    (ho : o.op = .call { callee := .builtin .append, args := #[s, x], argTypes := #[23, 23] })
    (B : Nat) (v : Value) (ps : List Sm) (hs : a.eval s = v) (hown : OwnS w B v ps) (ao : Option Addr) (c k : Nat) (ms : List Sm) (hx : a.eval x = .slice ao k c) (hk : k = ms.length)
    (hm : SmpsAt w ao ms) (hnil : ao = none → c = 0) (hlen : ps.length + ms.length ≤ 1000) (hB : B ≤ w.heap.size)
    (h : ∀ v' w', OwnS w' B v' (ps ++ ms) → w.grownBy w' v.ownBlock → wpList Try.prog ops Q rest (a.put o.dst v') w') :
    wpList Try.prog ops Q (o :: rest) a w := by
  subst hk
  refine wpList_plain hgd fun K hK => ?_
  obtain ⟨v', w', hr, h2, h3⟩ := run_apps w B o.type v ps hown ao c ms hm hnil hlen hB
  unfold Oper.wp execOp
  simp only [ho, resolve, invoke, builtin, Sem.run_bind, Sem.run_pure, Result.andThen_ok, List.map_toArray, List.map_cons, List.map_nil, hs, hx, hr]
  exact hK _ _ (h v' w' h2 h3)
theorem owns_empty {w : World} {B g : Nat} (h : w.heap[g]? = some (.cells #[] 67 (0, 0))) (hB : B ≤ g) : OwnS w B (.slice (some ⟨g, 0, none⟩) 0 0) [] :=
  ⟨rfl, .inr ⟨g, 0, #[], rfl, hB, h, Nat.le_refl _, Nat.zero_le _, rfl, rfl⟩⟩
theorem sheap_new (w : World) (o : Obj) : (w.alloc o).heap[w.heap.size]? = some o := by
  show (w.heap.push o)[w.heap.size]? = some o
  simp
/-- A row of the call's own, behind an append to another one. -/
theorem SmpsAt.grown {w w' : World} {row : Option Nat} {a : Option Addr} {ss : List Sm} (h : SmpsAt w a ss) (hg : w.grownBy w' row) (hne : ∀ b, row = some b → ∀ x, a = some x → x.block ≠ b) : SmpsAt w' a ss := by
  intro i hi
  obtain ⟨b, off, ha, hbl, hc⟩ := h i hi
  have hsz := hg.size
  have hb : w'.heap[b]? = w.heap[b]? := hg.block b hbl (fun e => hne b e.symm ⟨b, off, none⟩ ha rfl)
  exact ⟨b, off, ha, by omega, fun j hj => ⟨(World.cell?_of_block (a := ⟨b, off + j * 2, none⟩) hb).trans (hc j hj).1, (World.cell?_of_block (a := ⟨b, off + j * 2 + 1, none⟩) hb).trans (hc j hj).2⟩⟩

end Go.Proofs.Ytbjcphefaciihaa
