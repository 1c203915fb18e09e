/-
  A region that draws its order, as in GrowK, in a round of a loop over a function.
-/
import Derived.Test.YtleomppgkikhnaaGreatGrowK
import Derived.OrdersIn
import Derived.OwnWalkIn
import Derived.RangeFuncNested
namespace Go.Proofs.YtleomppgkikhnaaGreat
open Go.RowKit

section
variable {P : Program} {B : Nat → Prop} {ops : Array Oper} {md : Region.Mode}

theorem wpIn_of_gwpK {o : Oper} {a : Act} {w : World} {K K' : Act → World → Prop} {Q' : Exit → Act → World → Prop} {l n : Nat} (hd : ∀ c, o.op ≠ .defer c) (h : ∀ a w', K a w' → K' a w') (hh : gwpK P B o a w K) : o.wpIn (Fence.wide.inRound l) n P a w K' Q' := by
  refine ⟨fun _ _ => trivial, ?_⟩
  rw [Oper.semAt_plain _ _ _ hd]
  unfold gwpK Oper.wp at hh
  generalize (execOp a.eval o).run P w = r at *
  cases r with
  | ok x w' =>
    cases x <;> simp only [Oper.upon] at hh <;> simp only [Oper.uponIn]
    case value u => exact h _ _ hh.2
    case skip => exact h _ _ hh.2
    case defer d => exact h _ _ hh.2
    case enter f args =>
      refine ⟨fun e => (by cases e), CallsIn.inRound l (callsIn_wide.2 (hh.mono fun e w'' he => ?_))⟩
      cases e with
      | returned v => exact h _ _ he.2
      | panicked c => exact absurd he (fun x => x)
      | outgrown => obtain ⟨_, _, x⟩ := he; exact absurd x (fun x => x)
    case row row args =>
      exact ⟨fun e => (by cases e), fun c cs _ => let ⟨v, w'', r, s⟩ := hh c cs; ⟨v, w'', h _ _ r.2, stepsIn_wide.2 s⟩⟩
  | halt x w' => cases x <;> simp only [Oper.upon] at hh; exact absurd hh (fun x => x)

theorem wpIn_of_wp {o : Oper} {a : Act} {w : World} {K K' : Act → World → Prop} {Q : Exit → Act → World → Prop} {l n : Nat} (hd : ∀ c, o.op ≠ .defer c) (h : ∀ a w', K a w' → K' a w') (hh : o.wp P a w K Q) : o.wpIn (Fence.wide.inRound l) n P a w K' Q := by
  refine ⟨fun _ _ => trivial, ?_⟩
  rw [Oper.semAt_plain _ _ _ hd]
  unfold Oper.wp at hh
  generalize (execOp a.eval o).run P w = r at *
  cases r with
  | ok x w' =>
    cases x <;> simp only [Oper.upon] at hh <;> simp only [Oper.uponIn]
    case value u => exact h _ _ hh
    case skip => exact h _ _ hh
    case defer d => exact h _ _ hh
    case enter f args =>
      refine ⟨fun e => (by cases e), CallsIn.inRound l (callsIn_wide.2 (hh.mono fun e w'' he => ?_))⟩
      cases e with
      | returned v => exact h _ _ he
      | panicked c => exact he
      | outgrown => exact he
    case row row args =>
      exact ⟨fun e => (by cases e), fun c cs _ => let ⟨v, w'', r, s⟩ := hh c cs; ⟨v, w'', h _ _ r, stepsIn_wide.2 s⟩⟩
  | halt x w' => cases x <;> simp only [Oper.upon] at hh <;> simp only [Oper.uponIn]; exact hh
theorem wpAnyIn_of_wpAny {Q : Exit → Act → World → Prop} {l n : Nat} (hd : ∀ (i : Nat) (o : Oper), ops[i]? = some o → ∀ c, o.op ≠ .defer c) (hQ : ∀ a w, ¬ Q .outgrown a w) : ∀ (fuel : Nat) (listed : Array Bool) (a : Act) (w : World),
    wpAny P md ops Q fuel listed a w → wpAnyIn (Fence.wide.inRound l) n P md ops Q fuel listed a w
  | 0, _, _, _, h => h
  | fuel + 1, listed, a, w, h => by
    refine ⟨h.1, fun i hi => ?_⟩
    have h1 := h.2 i hi
    unfold wpOp at h1
    unfold wpOpIn
    split
    · rename_i ho; simp only [ho] at h1; exact wpAnyIn_of_wpAny hd hQ fuel _ _ _ h1
    · rename_i o ho
      simp only [ho] at h1
      split
      · rename_i hw
        simp only [hw, if_true] at h1
        rcases h1 with h1 | ⟨_, a0, w0, h1⟩
        · exact wpIn_of_wp (hd i o ho) (fun a w' => wpAnyIn_of_wpAny hd hQ fuel _ a w') h1
        · exact (hQ _ _ h1).elim
      · rename_i hw; simp only [hw] at h1; exact ⟨fun _ _ => trivial, wpAnyIn_of_wpAny hd hQ fuel _ _ _ h1⟩

theorem wpAnyIn_of_anyGK {Q : Exit → Act → World → Prop} {l n : Nat} {tail : List Nat} (hd : ∀ (i : Nat) (o : Oper), ops[i]? = some o → ∀ c, o.op ≠ .defer c) (hQ : ∀ a w, ¬ Q .outgrown a w) : ∀ (fuel : Nat) (listed : Array Bool) (a : Act) (w : World),
    anyGK P B md ops tail Q fuel listed a w → wpAnyIn (Fence.wide.inRound l) n P md ops Q fuel listed a w
  | 0, _, _, _, h => h.2
  | fuel + 1, listed, a, w, h => by
    rcases h with ⟨_, h⟩ | h
    · exact wpAnyIn_of_wpAny hd hQ _ _ _ _ h
    refine ⟨fun h0 => absurd h0 h.1, fun i hi => ?_⟩
    have h1 := h.2 i hi
    unfold gOpK at h1
    unfold wpOpIn
    split
    · rename_i ho; simp only [ho] at h1; exact wpAnyIn_of_anyGK hd hQ fuel _ _ _ h1
    · rename_i o ho
      simp only [ho] at h1
      split
      · rename_i hw; simp only [hw, if_true] at h1; exact wpIn_of_gwpK (hd i o ho) (fun a w' => wpAnyIn_of_anyGK hd hQ fuel _ a w') h1
      · rename_i hw; simp only [hw] at h1; exact ⟨fun _ _ => trivial, wpAnyIn_of_anyGK hd hQ fuel _ _ _ h1⟩

def noDefer (l : List Oper) : Bool := l.all fun o => match o.op with
  | .defer _ => false
  | _ => true
theorem noDefer_spec {l : List Oper} (h : noDefer l = true) : ∀ (i : Nat) (o : Oper), l.toArray[i]? = some o → ∀ c, o.op ≠ .defer c := fun i o ho c e => by
  unfold noDefer at h
  rw [List.all_eq_true] at h
  have := h o (List.mem_of_getElem? (by simpa using ho))
  rw [e] at this
  cases this

theorem wpIn_region_growR {id : Nat} {Q : Exit → Act → World → Prop} {a : Act} {w : World} {l : List Oper} {lp n : Nat} (B : Nat → Prop) (st : List (List Nat × Nat)) (last tail : List Nat) (hm : P.follows .mixedOrders = true) (hs : Region.noSelect l.toArray = true) (hdf : noDefer l = true) (hT : tailBK .any l.toArray tail = true) (hB : growBK .any l.toArray tail st last (Array.replicate l.length false) l.length = true) (hQ : ∀ a w, ¬ Q .outgrown a w)
    (h : ∀ w1, Below w.heap.size w w1 → wpGK P l.toArray Q (stagesOfK l st) (pickLK l last) (pickLK l tail) B a w1) : (Code.region id l.toArray true).wpIn (Fence.wide.inRound lp) n P Q a w := by
  refine wpIn_region_any hm (wpAnyIn_of_anyGK (B := B) (tail := tail) (noDefer_spec hdf) hQ _ _ _ _ ?_)
  have := anyG_stagesK (P := P) (ops := l.toArray) (md := .any) (Q := Q) hT hs last st (Array.replicate l.length false) a _ l.length (fun k ok _ hk => absurd (none_markedK hk) (fun x => x)) hB B (h _ (Below.refl _ _).drew)
  simpa using this
end
end Go.Proofs.YtleomppgkikhnaaGreat
