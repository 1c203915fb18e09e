/-
  Regions that draw their order, as in GrowK, with one operation more that may come up at any time ahead of where it is wanted (a block that is laid): one walk for each place at which it may stand.
-/
import Derived.Test.YtleomppgkikhnaaGreatGrowK
namespace Go.Proofs.YtleomppgkikhnaaGreat
open Go.RowKit

section
variable {P : Program} {B : Nat → Prop} {ops : Array Oper} {md : Region.Mode}

/-- Stages of which each may have the free operation ahead of its call. -/
def wpGF (P : Program) (ops : Array Oper) (Q : Exit → Act → World → Prop) (f : Oper) (after : List (List Oper × Oper)) : List (List Oper × Oper) → List Oper → List Oper → (Nat → Prop) → Act → World → Prop
  | [], last, tail, B, a, w => wpGK P ops Q (([], f) :: after) last tail B a w
  | (l, o) :: rest, last, tail, B, a, w => wpQuiet P ops (GrCK B w) (fun a' =>
      wpList P ops (OnToK B w (fun a'' w'' => ∃ B', Sub B B' ∧ wpGF P ops Q f after rest last tail B' a'' w'')) [o] a' w ∧
      wpList P ops (OnToK B w (fun a'' w'' => ∃ B', Sub B B' ∧ wpGK P ops Q (([], o) :: (rest ++ after)) last tail B' a'' w'')) [f] a' w) l a
def growFK (md : Region.Mode) (ops : Array Oper) (tail : List Nat) (f : Nat) (after : List (List Nat × Nat)) : List (List Nat × Nat) → List Nat → Array Bool → Nat → Bool
  | [], last, listed, fuel => growBK md ops tail (([], f) :: after) last listed fuel
  | (ns, c) :: rest, last, listed, fuel => match growNsK md ops ns (pickLK ops.toList ns) listed with
    | some li => decide (ns.length + 1 ≤ fuel) && ns.all (fun i => !tail.contains i) && (Region.ready md ops li == [c, f] || Region.ready md ops li == [f, c]) && growFK md ops tail f after rest last (li.setIfInBounds c true) (fuel - ns.length - 1) && growBK md ops tail (([], c) :: (rest ++ after)) last (li.setIfInBounds f true) (fuel - ns.length - 1)
    | none => false
theorem stagesOf_app (l : List Oper) : ∀ (a b : List (List Nat × Nat)), (∀ x ∈ a, ∃ o, getLK l x.2 = some o) → stagesOfK l (a ++ b) = stagesOfK l a ++ stagesOfK l b
  | [], _, _ => rfl
  | (ns, c) :: r, b, h => by
    obtain ⟨o, ho⟩ := h (ns, c) (List.mem_cons_self ..)
    simp only [List.cons_append, stagesOfK]
    have ho : getLK l c = some o := ho
    rw [ho]
    simp only [List.cons_append, stagesOf_app l r b (fun x hx => h x (List.mem_cons_of_mem _ hx))]
theorem grow_gets {tail last : List Nat} : ∀ (st : List (List Nat × Nat)) (listed : Array Bool) (fuel : Nat), growBK md ops tail st last listed fuel = true → ∀ x ∈ st, ∃ o, getLK ops.toList x.2 = some o
  | [], _, _, _, _, hx => by simp at hx
  | (ns, c) :: r, listed, fuel, h, x, hx => by
    unfold growBK at h
    cases e : growNsK md ops ns (pickLK ops.toList ns) listed with
    | none => rw [e] at h; cases h
    | some li =>
      rw [e] at h
      simp only [Bool.and_eq_true, beq_iff_eq, decide_eq_true_eq] at h
      obtain ⟨⟨_, hr⟩, hB⟩ := h
      have hc : c ∈ Region.ready md ops li := by rw [hr]; exact List.mem_singleton.2 rfl
      obtain ⟨_, o, ho, _⟩ := mem_ready.1 hc
      rcases List.mem_cons.1 hx with rfl | hx
      · exact ⟨o, by rw [getL_eqK]; simpa using ho⟩
      · exact grow_gets r _ _ hB x hx
theorem anyG_stagesF {tail : List Nat} (hT : tailBK md ops tail = true) {Q : Exit → Act → World → Prop} (hs : Region.noSelect ops = true) (last : List Nat) (f : Nat) (after : List (List Nat × Nat)) (of : Oper) (hof : getLK ops.toList f = some of) : ∀ (st : List (List Nat × Nat)) (listed : Array Bool) (a : Act) (w : World) (fuel : Nat), ClosedK md ops listed →
    growFK md ops tail f after st last listed fuel = true → ∀ B, wpGF P ops Q of (stagesOfK ops.toList after) (stagesOfK ops.toList st) (pickLK ops.toList last) (pickLK ops.toList tail) B a w → anyGK P B md ops tail Q fuel listed a w
  | [], listed, a, w, fuel, hcl, hB, B, h => by
    refine anyG_stagesK hT hs last (([], f) :: after) listed a w fuel hcl hB B ?_
    unfold wpGF at h
    have e : stagesOfK ops.toList (([], f) :: after) = ([], of) :: stagesOfK ops.toList after := by
      show (match getLK ops.toList f with | some o => (pickLK ops.toList [], o) :: stagesOfK ops.toList after | none => []) = _
      rw [hof]
      rfl
    rw [e]
    exact h
  | (ns, c) :: rest, listed, a, w, fuel, hcl, hB, B, h => by
    unfold growFK at hB
    cases e : growNsK md ops ns (pickLK ops.toList ns) listed with
    | none => rw [e] at hB; cases hB
    | some li =>
      rw [e] at hB
      simp only [Bool.and_eq_true, Bool.or_eq_true, beq_iff_eq, decide_eq_true_eq] at hB
      obtain ⟨⟨⟨⟨hf, hnt⟩, hr⟩, hB1⟩, hB2⟩ := hB
      have hmem : ∀ i, i ∈ Region.ready md ops li ↔ i = c ∨ i = f := fun i => by
        rcases hr with hr | hr
        · rw [hr]; simp
        · rw [hr]; simp [or_comm]
      have hc : c ∈ Region.ready md ops li := (hmem c).2 (.inl rfl)
      have hff : f ∈ Region.ready md ops li := (hmem f).2 (.inr rfl)
      obtain ⟨_, o, ho, _⟩ := mem_ready.1 hc
      obtain ⟨_, o2, ho2, _⟩ := mem_ready.1 hff
      have hget : getLK ops.toList c = some o := by rw [getL_eqK]; simpa using ho
      have hget2 : getLK ops.toList f = some o2 := by rw [getL_eqK]; simpa using ho2
      rw [hof] at hget2
      cases hget2
      have hgr := grow_gets _ _ _ hB2
      have est : stagesOfK ops.toList (([], c) :: (rest ++ after)) = ([], o) :: (stagesOfK ops.toList rest ++ stagesOfK ops.toList after) := by
        rw [← stagesOf_app ops.toList rest after (fun x hx => hgr x (List.mem_cons_of_mem _ (List.mem_append_left _ hx)))]
        show (match getLK ops.toList c with | some o => (pickLK ops.toList [], o) :: stagesOfK ops.toList (rest ++ after) | none => []) = _
        rw [hget]
        rfl
      have est0 : stagesOfK ops.toList ((ns, c) :: rest) = (pickLK ops.toList ns, o) :: stagesOfK ops.toList rest := by
        show (match getLK ops.toList c with | some o => (pickLK ops.toList ns, o) :: stagesOfK ops.toList rest | none => []) = _
        rw [hget]
      rw [est0] at h
      unfold wpGF at h
      have key := anyG_plainK (Q := Q) hT hs ns _ listed li a (fuel - ns.length - 1 + 1) (fun k i hk => by rw [pickL_atK _ _ _ _ (growNs_lenK _ _ _ _ e) hk]; simp) (fun i hi => by rw [List.all_eq_true] at hnt; have := hnt i hi; simpa using this) hcl e h (fun a' hcl' hK => by
        refine .inr ⟨fun h0 => (by rw [h0] at hc; cases hc), fun i hi => ?_⟩
        have hi' := hi
        rcases (hmem i).1 hi with rfl | rfl
        · exact gOp_monoK (fun a'' w'' ⟨B', hBB, hx⟩ => anyG_lessK hBB _ _ _ _ (anyG_stagesF hT hs last f after of hof rest _ a'' w'' _ (hcl'.set hi') hB1 B' hx)) (gOp_of_listK ho hK.1)
        · exact gOp_monoK (fun a'' w'' ⟨B', hBB, hx⟩ => anyG_lessK hBB _ _ _ _ (anyG_stagesK hT hs last _ _ a'' w'' _ (hcl'.set hi') hB2 B' (by rw [est]; exact hx))) (gOp_of_listK ho2 hK.2))
      have : fuel - ns.length - 1 + 1 + ns.length = fuel := by omega
      rwa [this] at key
/-- The whole. 'f': the free operation; 'after': the stages behind it. -/
theorem wp_region_growF {id : Nat} {Q : Exit → Act → World → Prop} {a : Act} {w : World} {l : List Oper} (B : Nat → Prop) (f : Nat) (of : Oper) (st after : List (List Nat × Nat)) (last tail : List Nat) (hof : getLK l f = some of) (hm : P.follows .mixedOrders = true) (hs : Region.noSelect l.toArray = true) (hT : tailBK .any l.toArray tail = true) (hB : growFK .any l.toArray tail f after st last (Array.replicate l.length false) l.length = true)
    (h : ∀ w1, Below w.heap.size w w1 → wpGF P l.toArray Q of (stagesOfK l after) (stagesOfK l st) (pickLK l last) (pickLK l tail) B a w1) : (Code.region id l.toArray true).wp P Q a w := by
  refine wp_region_any hm (wpAny_of_anyGK (B := B) (tail := tail) _ _ _ _ ?_)
  have := anyG_stagesF (P := P) (ops := l.toArray) (md := .any) (Q := Q) hT hs last f after of hof st (Array.replicate l.length false) a _ l.length (fun k ok _ hk => absurd (none_markedK hk) (fun x => x)) hB B (h _ (Below.refl _ _).drew)
  simpa using this
theorem OnToF.mk {w w' : World} {B B' : Nat → Prop} {Q : Exit → Act → World → Prop} {f : Oper} {after rest : List (List Oper × Oper)} {last tail : List Oper} {a : Act} (hb : Kept B w w') (hB : Sub B B') (h : wpGF P ops Q f after rest last tail B' a w') :
    OnToK B w (fun a'' w'' => ∃ B', Sub B B' ∧ wpGF P ops Q f after rest last tail B' a'' w'') .normal a w' := ⟨rfl, hb, B', hB, h⟩
theorem wpF_stage {Q : Exit → Act → World → Prop} {f : Oper} {after : List (List Oper × Oper)} {l : List Oper} {o : Oper} {rest : List (List Oper × Oper)} {last tail : List Oper} {a : Act} {w : World}
    (h : wpQuiet P ops (GrCK B w) (fun a' =>
      wpList P ops (OnToK B w (fun a'' w'' => ∃ B', Sub B B' ∧ wpGF P ops Q f after rest last tail B' a'' w'')) [o] a' w ∧
      wpList P ops (OnToK B w (fun a'' w'' => ∃ B', Sub B B' ∧ wpGK P ops Q (([], o) :: (rest ++ after)) last tail B' a'' w'')) [f] a' w) l a) : wpGF P ops Q f after ((l, o) :: rest) last tail B a w := h
theorem wpF_last {Q : Exit → Act → World → Prop} {f : Oper} {after : List (List Oper × Oper)} {last tail : List Oper} {a : Act} {w : World} (h : wpGK P ops Q (([], f) :: after) last tail B a w) : wpGF P ops Q f after [] last tail B a w := h
end
end Go.Proofs.YtleomppgkikhnaaGreat
