/-
  Regions that draw their order, in which at one place a call or a block that is laid may come first: two ways from there on, each as in GrowK.
-/
import Derived.Test.YtcegdmdnpepliaaGrowK
namespace Go.Proofs.Ytcegdmdnpepliaa
open Go.RowKit

section
variable {P : Program} {B : Nat → Prop} {ops : Array Oper} {md : Region.Mode}

def growPB (md : Region.Mode) (ops : Array Oper) (tail : List Nat) (ns : List Nat) (c f : Nat) (stA stB : List (List Nat × Nat)) (last : List Nat) (listed : Array Bool) (fuel : Nat) : Bool :=
  match growNsK md ops ns (pickLK ops.toList ns) listed with
  | some li => decide (ns.length + 1 ≤ fuel) && ns.all (fun i => !tail.contains i) && (Region.ready md ops li == [c, f] || Region.ready md ops li == [f, c]) && (growBK md ops tail stA last (li.setIfInBounds c true) (fuel - ns.length - 1) && growBK md ops tail stB last (li.setIfInBounds f true) (fuel - ns.length - 1))
  | none => false
/-- What is to be shown of the two ways. -/
def wpGP (P : Program) (ops : Array Oper) (Q : Exit → Act → World → Prop) (l : List Oper) (oc of : Oper) (stA stB : List (List Oper × Oper)) (last tail : List Oper) (B : Nat → Prop) (a : Act) (w : World) : Prop :=
  wpQuiet P ops (GrCK B w) (fun a' =>
    wpList P ops (OnToK B w (fun a'' w'' => ∃ B', Sub B B' ∧ wpGK P ops Q stA last tail B' a'' w'')) [oc] a' w ∧
    wpList P ops (OnToK B w (fun a'' w'' => ∃ B', Sub B B' ∧ wpGK P ops Q stB last tail B' a'' w'')) [of] a' w) l a
theorem anyG_stagesP {tail : List Nat} (hT : tailBK md ops tail = true) {Q : Exit → Act → World → Prop} (hs : Region.noSelect ops = true) {last ns : List Nat} {c f : Nat} {stA stB : List (List Nat × Nat)} {oc of : Oper} (hoc : getLK ops.toList c = some oc) (hof : getLK ops.toList f = some of)
    (listed : Array Bool) (a : Act) (w : World) (fuel : Nat) (hcl : ClosedK md ops listed) (hB : growPB md ops tail ns c f stA stB last listed fuel = true) (B : Nat → Prop)
    (h : wpGP P ops Q (pickLK ops.toList ns) oc of (stagesOfK ops.toList stA) (stagesOfK ops.toList stB) (pickLK ops.toList last) (pickLK ops.toList tail) B a w) : anyGK P B md ops tail Q fuel listed a w := by
  unfold growPB at hB
  cases e : growNsK md ops ns (pickLK ops.toList ns) listed with
  | none => rw [e] at hB; cases hB
  | some li =>
    rw [e] at hB
    simp only [Bool.and_eq_true, Bool.or_eq_true, beq_iff_eq, decide_eq_true_eq] at hB
    obtain ⟨⟨⟨hf, hnt⟩, hr⟩, hB1, hB2⟩ := hB
    have hmem : ∀ i, i ∈ Region.ready md ops li ↔ i = c ∨ i = f := fun i => by
      rcases hr with hr | hr <;> rw [hr] <;> simp [or_comm]
    have ho1 : ops[c]? = some oc := by rw [getL_eqK] at hoc; simpa using hoc
    have ho2 : ops[f]? = some of := by rw [getL_eqK] at hof; simpa using hof
    have key := anyG_plainK (Q := Q) hT hs ns _ listed li a (fuel - ns.length - 1 + 1) (fun k i hk => by rw [pickL_atK _ _ _ _ (growNs_lenK _ _ _ _ e) hk]; simp) (fun i hi => by rw [List.all_eq_true] at hnt; have := hnt i hi; simpa using this) hcl e h (fun a' hcl' hK => by
      refine .inr ⟨fun h0 => (by have := (hmem c).2 (.inl rfl); rw [h0] at this; cases this), fun i hi => ?_⟩
      have hi' := hi
      rcases (hmem i).1 hi with rfl | rfl
      · exact gOp_monoK (fun a'' w'' ⟨B', hBB, hx⟩ => anyG_lessK hBB _ _ _ _ (anyG_stagesK hT hs last stA _ a'' w'' _ (hcl'.set hi') hB1 B' hx)) (gOp_of_listK ho1 hK.1)
      · exact gOp_monoK (fun a'' w'' ⟨B', hBB, hx⟩ => anyG_lessK hBB _ _ _ _ (anyG_stagesK hT hs last stB _ a'' w'' _ (hcl'.set hi') hB2 B' hx)) (gOp_of_listK ho2 hK.2))
    have : fuel - ns.length - 1 + 1 + ns.length = fuel := by omega
    rwa [this] at key
/-- The whole. 'ns': plain operations; 'c', 'f': the two of which each may come first then; 'stA', 'stB': the stages behind each. -/
theorem wp_region_growP {id : Nat} {Q : Exit → Act → World → Prop} {a : Act} {w : World} {l : List Oper} (B : Nat → Prop) (ns : List Nat) (c f : Nat) (oc of : Oper) (stA stB : List (List Nat × Nat)) (last tail : List Nat) (hoc : getLK l c = some oc) (hof : getLK l f = some of) (hm : P.follows .mixedOrders = true) (hs : Region.noSelect l.toArray = true) (hT : tailBK .any l.toArray tail = true) (hB : growPB .any l.toArray tail ns c f stA stB last (Array.replicate l.length false) l.length = true)
    (h : ∀ w1, Below w.heap.size w w1 → wpGP P l.toArray Q (pickLK l ns) oc of (stagesOfK l stA) (stagesOfK l stB) (pickLK l last) (pickLK l tail) B a w1) : (Code.region id l.toArray true).wp P Q a w := by
  refine wp_region_any hm (wpAny_of_anyGK (B := B) (tail := tail) _ _ _ _ ?_)
  have := anyG_stagesP (P := P) (ops := l.toArray) (md := .any) (Q := Q) hT hs hoc hof (Array.replicate l.length false) a _ l.length (fun k ok _ hk => absurd (none_markedK hk) (fun x => x)) hB B (h _ (Below.refl _ _).drew)
  simpa using this
theorem wpP_start {Q : Exit → Act → World → Prop} {l : List Oper} {oc of : Oper} {stA stB : List (List Oper × Oper)} {last tail : List Oper} {a : Act} {w : World}
    (h : wpQuiet P ops (GrCK B w) (fun a' =>
      wpList P ops (OnToK B w (fun a'' w'' => ∃ B', Sub B B' ∧ wpGK P ops Q stA last tail B' a'' w'')) [oc] a' w ∧
      wpList P ops (OnToK B w (fun a'' w'' => ∃ B', Sub B B' ∧ wpGK P ops Q stB last tail B' a'' w'')) [of] a' w) l a) : wpGP P ops Q l oc of stA stB last tail B a w := h
end
end Go.Proofs.Ytcegdmdnpepliaa
