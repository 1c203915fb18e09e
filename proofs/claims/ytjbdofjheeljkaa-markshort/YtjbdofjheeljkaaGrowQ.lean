/-
  Regions that draw their order, walked step by step: plain operations; then one, two or three of which each may come first; and so on, each way by itself.
-/
import Derived.Test.YtjbdofjheeljkaaGrowK
namespace Go.Proofs.Ytjbdofjheeljkaa
open Go.RowKit

section
variable {P : Program} {B : Nat → Prop} {l : List Oper} {md : Region.Mode}

/-- What is still to be shown, where these are done. -/
def AQ (P : Program) (B : Nat → Prop) (md : Region.Mode) (l : List Oper) (Q : Exit → Act → World → Prop) (fuel : Nat) (listed : Array Bool) (a : Act) (w : World) : Prop :=
  ClosedK md l.toArray listed → anyGK P B md l.toArray [] Q fuel listed a w
theorem growQ_plain {Q : Exit → Act → World → Prop} {fuel : Nat} {listed : Array Bool} {a : Act} {w : World} (ns : List Nat) (fuel' : Nat) (li : Array Bool) (hf : fuel = fuel' + ns.length) (hs : Region.noSelect l.toArray = true) (hg : growNsK md l.toArray ns (pickLK l ns) listed = some li)
    (h : wpQuiet P l.toArray (GrCK B w) (fun a' => AQ P B md l Q fuel' li a' w) (pickLK l ns) a) : AQ P B md l Q fuel listed a w := fun hcl => by
  subst hf
  exact anyG_plainK (tail := []) (by unfold tailBK; rfl) hs ns (pickLK l ns) listed li a fuel' (fun k i hk => by
    rw [pickL_atK _ _ _ _ (growNs_lenK _ _ _ _ hg) hk]; simp) (fun i _ => by simp) hcl hg h (fun a' hcl' hK => hK hcl')
theorem growQ_step {Q : Exit → Act → World → Prop} {fuel : Nat} {listed : Array Bool} {a : Act} {w : World} {c : Nat} {o : Oper} (ho : getLK l c = some o) (hcl : ClosedK md l.toArray listed) (hc : c ∈ Region.ready md l.toArray listed)
    (h : wpList P l.toArray (OnToK B w (fun a'' w'' => ∃ B', Sub B B' ∧ AQ P B' md l Q fuel (listed.setIfInBounds c true) a'' w'')) [o] a w) : gOpK P B l.toArray c (anyGK P B md l.toArray [] Q fuel (listed.setIfInBounds c true)) a w :=
  gOp_monoK (fun a'' w'' ⟨B', hBB, hx⟩ => anyG_lessK hBB _ _ _ _ (hx (hcl.set hc))) (gOp_of_listK (by rw [getL_eqK] at ho; simpa using ho) h)
/-- One that comes next. -/
theorem growQ_one {Q : Exit → Act → World → Prop} {fuel : Nat} {listed : Array Bool} {a : Act} {w : World} (c : Nat) (oc : Oper) (fuel' : Nat) (hf : fuel = fuel' + 1) (hoc : getLK l c = some oc) (hr : (Region.ready md l.toArray listed == [c]) = true)
    (h1 : wpList P l.toArray (OnToK B w (fun a'' w'' => ∃ B', Sub B B' ∧ AQ P B' md l Q fuel' (listed.setIfInBounds c true) a'' w'')) [oc] a w) : AQ P B md l Q fuel listed a w := fun hcl => by
  subst hf
  have hr := eq_of_beq hr
  refine .inr ⟨by rw [hr]; simp, fun i hi => ?_⟩
  have hi' := hi
  rw [hr] at hi
  obtain rfl := List.mem_singleton.1 hi
  exact growQ_step hoc hcl hi' h1
/-- Two, of which each may. -/
theorem growQ_two {Q : Exit → Act → World → Prop} {fuel : Nat} {listed : Array Bool} {a : Act} {w : World} (c f : Nat) (oc of : Oper) (fuel' : Nat) (hf : fuel = fuel' + 1) (hoc : getLK l c = some oc) (hof : getLK l f = some of) (hr : (Region.ready md l.toArray listed == [c, f]) = true)
    (h1 : wpList P l.toArray (OnToK B w (fun a'' w'' => ∃ B', Sub B B' ∧ AQ P B' md l Q fuel' (listed.setIfInBounds c true) a'' w'')) [oc] a w)
    (h2 : wpList P l.toArray (OnToK B w (fun a'' w'' => ∃ B', Sub B B' ∧ AQ P B' md l Q fuel' (listed.setIfInBounds f true) a'' w'')) [of] a w) : AQ P B md l Q fuel listed a w := fun hcl => by
  subst hf
  have hr := eq_of_beq hr
  refine .inr ⟨by rw [hr]; simp, fun i hi => ?_⟩
  have hi' := hi
  rw [hr] at hi
  rcases List.mem_cons.1 hi with rfl | hi
  · exact growQ_step hoc hcl hi' h1
  · obtain rfl := List.mem_singleton.1 hi
    exact growQ_step hof hcl hi' h2
/-- Three. -/
theorem growQ_three {Q : Exit → Act → World → Prop} {fuel : Nat} {listed : Array Bool} {a : Act} {w : World} (c f g : Nat) (oc of og : Oper) (fuel' : Nat) (hf : fuel = fuel' + 1) (hoc : getLK l c = some oc) (hof : getLK l f = some of) (hog : getLK l g = some og) (hr : (Region.ready md l.toArray listed == [c, f, g]) = true)
    (h1 : wpList P l.toArray (OnToK B w (fun a'' w'' => ∃ B', Sub B B' ∧ AQ P B' md l Q fuel' (listed.setIfInBounds c true) a'' w'')) [oc] a w)
    (h2 : wpList P l.toArray (OnToK B w (fun a'' w'' => ∃ B', Sub B B' ∧ AQ P B' md l Q fuel' (listed.setIfInBounds f true) a'' w'')) [of] a w)
    (h3 : wpList P l.toArray (OnToK B w (fun a'' w'' => ∃ B', Sub B B' ∧ AQ P B' md l Q fuel' (listed.setIfInBounds g true) a'' w'')) [og] a w) : AQ P B md l Q fuel listed a w := fun hcl => by
  subst hf
  have hr := eq_of_beq hr
  refine .inr ⟨by rw [hr]; simp, fun i hi => ?_⟩
  have hi' := hi
  rw [hr] at hi
  rcases List.mem_cons.1 hi with rfl | hi
  · exact growQ_step hoc hcl hi' h1
  · rcases List.mem_cons.1 hi with rfl | hi
    · exact growQ_step hof hcl hi' h2
    · obtain rfl := List.mem_singleton.1 hi
      exact growQ_step hog hcl hi' h3
/-- All are done. -/
theorem growQ_end {Q : Exit → Act → World → Prop} {listed : Array Bool} {a : Act} {w : World} (hr : (Region.ready md l.toArray listed).isEmpty = true) (hall : ((List.range l.toArray.size).all fun i => listed.getD i false) = true) (h : wpList P l.toArray Q [] a w) : AQ P B md l Q 0 listed a w := fun _ =>
  ⟨fun i hi _ => by rw [List.all_eq_true] at hall; exact hall i (List.mem_range.2 hi), wpAny_tailK [] [] listed a w (fun k i hk => by simp at hk) hr h⟩
/-- The whole. -/
theorem wp_region_growQ {id : Nat} {Q : Exit → Act → World → Prop} {a : Act} {w : World} (B : Nat → Prop) (n : Nat) (hn : l.length = n) (hm : P.follows .mixedOrders = true)
    (h : ∀ w1, Below w.heap.size w w1 → AQ P B .any l Q n (Array.replicate n false) a w1) : (Code.region id l.toArray true).wp P Q a w := by
  subst hn
  refine wp_region_any hm (wpAny_of_anyGK (B := B) (tail := []) _ _ _ _ ?_)
  have := h _ (Below.refl _ _).drew (fun k ok _ hk => absurd (none_markedK hk) (fun x => x))
  simpa using this
theorem OnToQ.mk {w w' : World} {B B' : Nat → Prop} {Q : Exit → Act → World → Prop} {fuel : Nat} {listed : Array Bool} {a : Act} (hb : Kept B w w') (hB : Sub B B') (h : AQ P B' md l Q fuel listed a w') :
    OnToK B w (fun a'' w'' => ∃ B', Sub B B' ∧ AQ P B' md l Q fuel listed a'' w'') .normal a w' := ⟨rfl, hb, B', hB, h⟩
end
end Go.Proofs.Ytjbdofjheeljkaa
