/-
  Regions that draw their order, in two parts: as in GrowK up to some call; then, with another set of blocks to be kept, as in GrowK again (what was read ahead of the call may be written behind it).
-/
import Derived.Test.YtjbdofjheeljkaaGrowK
namespace Go.Proofs.Ytjbdofjheeljkaa
open Go.RowKit

section
variable {P : Program} {B : Nat → Prop} {ops : Array Oper} {md : Region.Mode}

def growTB (md : Region.Mode) (ops : Array Oper) (tail1 tail2 : List Nat) (st : List (List Nat × Nat)) (last : List Nat) : List (List Nat × Nat) → Array Bool → Nat → Bool
  | [], listed, fuel => ((List.range ops.size).all fun i => tail1.contains i || listed.getD i false) && growBK md ops tail2 st last listed fuel
  | (ns, c) :: rest, listed, fuel => match growNsK md ops ns (pickLK ops.toList ns) listed with
    | some li => decide (ns.length + 1 ≤ fuel) && ns.all (fun i => !tail1.contains i) && Region.ready md ops li == [c] && growTB md ops tail1 tail2 st last rest (li.setIfInBounds c true) (fuel - ns.length - 1)
    | none => false
def wpGT (P : Program) (ops : Array Oper) (K : Act → World → Prop) : List (List Oper × Oper) → (Nat → Prop) → Act → World → Prop
  | [], _, a, w => K a w
  | (l, o) :: rest, B, a, w => wpQuiet P ops (GrCK B w) (fun a' => wpList P ops (OnToK B w (fun a'' w'' => ∃ B', Sub B B' ∧ wpGT P ops K rest B' a'' w'')) [o] a' w) l a
theorem anyG_stagesT {tail1 tail2 : List Nat} (hT1 : tailBK md ops tail1 = true) (hT2 : tailBK md ops tail2 = true) {Q : Exit → Act → World → Prop} (hs : Region.noSelect ops = true) (st : List (List Nat × Nat)) (last : List Nat) : ∀ (st1 : List (List Nat × Nat)) (listed : Array Bool) (a : Act) (w : World) (fuel : Nat), ClosedK md ops listed →
    growTB md ops tail1 tail2 st last st1 listed fuel = true → ∀ B, wpGT P ops (fun a2 w2 => ∃ B2, wpGK P ops Q (stagesOfK ops.toList st) (pickLK ops.toList last) (pickLK ops.toList tail2) B2 a2 w2) (stagesOfK ops.toList st1) B a w → anyGK P B md ops tail1 Q fuel listed a w
  | [], listed, a, w, fuel, hcl, hB, B, h => by
    unfold growTB at hB
    simp only [Bool.and_eq_true] at hB
    obtain ⟨hall, hB⟩ := hB
    obtain ⟨B2, h⟩ := h
    exact anyG_hereK (fun i hi hn => by
      rw [List.all_eq_true] at hall
      have := hall i (List.mem_range.2 hi)
      rw [Bool.or_eq_true] at this
      rcases this with h1 | h1
      · exact absurd (by simpa using h1) hn
      · exact h1) (wpAny_of_anyGK (B := B2) (tail := tail2) _ _ _ _ (anyG_stagesK hT2 hs last st listed a w fuel hcl hB B2 h))
  | (ns, c) :: rest, listed, a, w, fuel, hcl, hB, B, h => by
    unfold growTB at hB
    cases e : growNsK md ops ns (pickLK ops.toList ns) listed with
    | none => rw [e] at hB; cases hB
    | some li =>
      rw [e] at hB
      simp only [Bool.and_eq_true, beq_iff_eq, decide_eq_true_eq] at hB
      obtain ⟨⟨⟨hf, hnt⟩, hr⟩, hB⟩ := hB
      have hc : c ∈ Region.ready md ops li := by rw [hr]; exact List.mem_singleton.2 rfl
      obtain ⟨_, o, ho, _⟩ := mem_ready.1 hc
      have hget : getLK ops.toList c = some o := by rw [getL_eqK]; simpa using ho
      have hst : stagesOfK ops.toList ((ns, c) :: rest) = (pickLK ops.toList ns, o) :: stagesOfK ops.toList rest := by
        conv => lhs; unfold stagesOfK
        rw [hget]
      rw [hst] at h
      have key := anyG_plainK (Q := Q) hT1 hs ns _ listed li a (fuel - ns.length - 1 + 1) (fun k i hk => by rw [pickL_atK _ _ _ _ (growNs_lenK _ _ _ _ e) hk]; simp) (fun i hi => by rw [List.all_eq_true] at hnt; have := hnt i hi; simpa using this) hcl e h (fun a' hcl' hK => by
        refine .inr ⟨fun h0 => (by rw [h0] at hr; cases hr), fun i hi => ?_⟩
        have hi' := hi
        rw [hr] at hi
        obtain rfl := List.mem_singleton.1 hi
        exact gOp_monoK (fun a'' w'' ⟨B', hBB, hx⟩ => anyG_lessK hBB _ _ _ _ (anyG_stagesT hT1 hT2 hs st last rest _ a'' w'' _ (hcl'.set hi') hB B' hx)) (gOp_of_listK ho hK))
      have : fuel - ns.length - 1 + 1 + ns.length = fuel := by omega
      rwa [this] at key
/-- The whole. 'st1': the first part's stages, 'tail1': all operations that are none of it; the rest as in GrowK. -/
theorem wp_region_growT {id : Nat} {Q : Exit → Act → World → Prop} {a : Act} {w : World} {l : List Oper} (B : Nat → Prop) (st1 : List (List Nat × Nat)) (tail1 : List Nat) (st : List (List Nat × Nat)) (last tail : List Nat) (hm : P.follows .mixedOrders = true) (hs : Region.noSelect l.toArray = true) (hT1 : tailBK .any l.toArray tail1 = true) (hT : tailBK .any l.toArray tail = true) (hB : growTB .any l.toArray tail1 tail st last st1 (Array.replicate l.length false) l.length = true)
    (h : ∀ w1, Below w.heap.size w w1 → wpGT P l.toArray (fun a2 w2 => ∃ B2, wpGK P l.toArray Q (stagesOfK l st) (pickLK l last) (pickLK l tail) B2 a2 w2) (stagesOfK l st1) B a w1) : (Code.region id l.toArray true).wp P Q a w := by
  refine wp_region_any hm (wpAny_of_anyGK (B := B) (tail := tail1) _ _ _ _ ?_)
  have := anyG_stagesT (P := P) (ops := l.toArray) (md := .any) (Q := Q) hT1 hT hs st last st1 (Array.replicate l.length false) a _ l.length (fun k ok _ hk => absurd (none_markedK hk) (fun x => x)) hB B (h _ (Below.refl _ _).drew)
  simpa using this
theorem OnToT.mk {w w' : World} {B B' : Nat → Prop} {K : Act → World → Prop} {rest : List (List Oper × Oper)} {a : Act} (hb : Kept B w w') (hB : Sub B B') (h : wpGT P ops K rest B' a w') :
    OnToK B w (fun a'' w'' => ∃ B', Sub B B' ∧ wpGT P ops K rest B' a'' w'') .normal a w' := ⟨rfl, hb, B', hB, h⟩
theorem wpT_stage {K : Act → World → Prop} {l : List Oper} {o : Oper} {rest : List (List Oper × Oper)} {a : Act} {w : World}
    (h : wpQuiet P ops (GrCK B w) (fun a' => wpList P ops (OnToK B w (fun a'' w'' => ∃ B', Sub B B' ∧ wpGT P ops K rest B' a'' w'')) [o] a' w) l a) : wpGT P ops K ((l, o) :: rest) B a w := h
theorem wpT_end {Q : Exit → Act → World → Prop} {st : List (List Oper × Oper)} {last tail : List Oper} {a : Act} {w : World} (B2 : Nat → Prop) (h : wpGK P ops Q st last tail B2 a w) : wpGT P ops (fun a2 w2 => ∃ B2, wpGK P ops Q st last tail B2 a2 w2) [] B a w := ⟨B2, h⟩
end
end Go.Proofs.Ytjbdofjheeljkaa
