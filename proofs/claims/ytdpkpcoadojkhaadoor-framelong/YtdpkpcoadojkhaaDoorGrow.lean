/-
  Regions that draw their order, whose plain operations only read, and whose calls make memory and answer what hangs on the world: one walk, the plain operations ahead of each call, serves every order. (A call comes up when nothing else can: the plain operations that could have come up behind it yield the same there.) At the end operations that come one behind the other may do whatever they do.
-/
import Derived.Test.YtdpkpcoadojkhaaDoorCalm
namespace Go.Proofs.YtdpkpcoadojkhaaDoor
open Go.RowKit

section
variable {P : Program} {B : Nat} {ops : Array Oper} {md : Region.Mode}

/-- No exit but the usual one. -/
def noExit : Exit → Act → World → Prop := fun _ _ _ => False
/-- An operation that goes on: what lies below B it leaves as it was. -/
def gwp (P : Program) (B : Nat) (o : Oper) (a : Act) (w : World) (K : Act → World → Prop) : Prop := o.wp P a w (fun a' w' => Below B w w' ∧ K a' w') noExit
def gOp (P : Program) (B : Nat) (ops : Array Oper) (i : Nat) (K : Act → World → Prop) (a : Act) (w : World) : Prop :=
  match ops[i]? with
  | none => K a w
  | some o => if Region.wanted o (yielded ops a.tmps) then gwp P B o a w K else K (a.put o.dst undef) w
/-- Whatever order is picked from here on, up to where only the tail is left. -/
def anyG (P : Program) (B : Nat) (md : Region.Mode) (ops : Array Oper) (tail : List Nat) (Q : Exit → Act → World → Prop) : Nat → Array Bool → Act → World → Prop
  | 0, listed, a, w => (∀ i, i < ops.size → i ∉ tail → listed.getD i false = true) ∧ wpAny P md ops Q 0 listed a w
  | fuel + 1, listed, a, w =>
    ((∀ i, i < ops.size → i ∉ tail → listed.getD i false = true) ∧ wpAny P md ops Q (fuel + 1) listed a w) ∨
    (Region.ready md ops listed ≠ [] ∧ ∀ i ∈ Region.ready md ops listed, gOp P B ops i (anyG P B md ops tail Q fuel (listed.setIfInBounds i true)) a w)
/-- What is listed had all that it waits for listed. -/
def Closed (md : Region.Mode) (ops : Array Oper) (listed : Array Bool) : Prop :=
  ∀ (k : Nat) (ok : Oper), ops[k]? = some ok → listed.getD k false = true → ∀ e ∈ ok.after, Region.binds md e = true → listed.getD e.on false = true
theorem getD_set_cases {listed : Array Bool} {i k : Nat} (h : (listed.setIfInBounds i true).getD k false = true) : k = i ∨ listed.getD k false = true := by
  by_cases e : i = k
  · exact .inl e.symm
  · rw [getD_set_ne false e] at h; exact .inr h
theorem Closed.set {listed : Array Bool} (h : Closed md ops listed) {i : Nat} (hr : i ∈ Region.ready md ops listed) : Closed md ops (listed.setIfInBounds i true) := by
  intro k ok hk hl e he hb
  rcases getD_set_cases hl with rfl | hl
  · obtain ⟨_, o, ho, hall⟩ := mem_ready.1 hr
    rw [hk] at ho
    cases ho
    exact getD_set_true (hall e he hb)
  · exact getD_set_true (h k ok hk hl e he hb)
/-- All that the marked ones wait for is marked. -/
def marksOf (md : Region.Mode) (ops : Array Oper) : List Nat → Array Bool → Array Bool
  | [], m => m
  | k :: r, m => marksOf md ops r (if m.getD k false then match ops[k]? with
      | some o => o.after.foldl (fun m e => if Region.binds md e then m.setIfInBounds e.on true else m) m
      | none => m else m)
theorem none_marked {n k : Nat} (h : (Array.replicate n false).getD k false = true) : False := by
  rw [Array.getD_eq_getD_getElem?, Array.getElem?_replicate] at h
  split at h <;> simp at h
theorem fold_marks {listed : Array Bool} (l : List Edge) (hl : ∀ e ∈ l, Region.binds md e = true → listed.getD e.on false = true) : ∀ (m : Array Bool), (∀ k, m.getD k false = true → listed.getD k false = true) →
    ∀ k, (l.foldl (fun m e => if Region.binds md e then m.setIfInBounds e.on true else m) m).getD k false = true → listed.getD k false = true := by
  induction l with
  | nil => exact fun m hm => hm
  | cons e l ih =>
    intro m hm
    refine ih (fun e' he' => hl e' (List.mem_cons_of_mem _ he')) _ ?_
    intro k hk
    dsimp only at hk
    split at hk
    · rename_i hb
      rcases getD_set_cases hk with rfl | hk
      · exact hl e (List.mem_cons_self ..) hb
      · exact hm k hk
    · exact hm k hk
theorem marks_sound {listed : Array Bool} (hc : Closed md ops listed) : ∀ (ks : List Nat) (m : Array Bool), (∀ k, m.getD k false = true → listed.getD k false = true) → ∀ k, (marksOf md ops ks m).getD k false = true → listed.getD k false = true
  | [], _, hm => hm
  | k :: r, m, hm => by
    refine marks_sound hc r _ ?_
    intro x hx
    split at hx
    · rename_i hk
      cases ho : ops[k]? with
      | none => rw [ho] at hx; exact hm x hx
      | some o =>
        rw [ho] at hx
        simp only [← Array.foldl_toList] at hx
        exact fold_marks o.after.toList (fun e he hb => hc k o ho (hm k hk) e (by simpa using he) hb) m hm x hx
    · exact hm x hx
/-- Each of the tail waits for all that is not of it. -/
def tailB (md : Region.Mode) (ops : Array Oper) (tail : List Nat) : Bool :=
  tail.all fun c => match ops[c]? with
    | none => false
    | some o => (List.range ops.size).all fun i => tail.contains i || (marksOf md ops (List.range ops.size).reverse (o.after.foldl (fun m e => if Region.binds md e then m.setIfInBounds e.on true else m) (Array.replicate ops.size false))).getD i false
theorem tail_late {tail : List Nat} (hB : tailB md ops tail = true) {listed : Array Bool} (hc : Closed md ops listed) {j : Nat} (hj : j ∈ tail) (hr : j ∈ Region.ready md ops listed) {i : Nat} (hi : i < ops.size) (hn : i ∉ tail) : listed.getD i false = true := by
  unfold tailB at hB
  rw [List.all_eq_true] at hB
  have h1 := hB j hj
  obtain ⟨_, o, ho, hall⟩ := mem_ready.1 hr
  rw [ho] at h1
  simp only at h1
  rw [List.all_eq_true] at h1
  have h2 := h1 i (List.mem_range.2 hi)
  rw [Bool.or_eq_true] at h2
  rcases h2 with h2 | h2
  · exact absurd (by simpa using h2) hn
  · refine marks_sound hc _ _ ?_ i h2
    intro k hk
    simp only [← Array.foldl_toList] at hk
    exact fold_marks o.after.toList (fun e he hb => hall e (by simpa using he) hb) _ (fun k hk => absurd (none_marked hk) (fun x => x)) k hk

theorem wp_of_gwp {o : Oper} {a : Act} {w : World} {K K' : Act → World → Prop} {Q' : Exit → Act → World → Prop} (h : ∀ a w', K a w' → K' a w') (hh : gwp P B o a w K) : o.wp P a w K' Q' := by
  unfold gwp Oper.wp at *
  generalize (execOp a.eval o).run P w = r at *
  cases r with
  | ok n w' =>
    cases n <;> simp only [Oper.upon] at hh ⊢
    case value u => exact h _ _ hh.2
    case skip => exact h _ _ hh.2
    case defer d => exact h _ _ hh.2
    case enter f args =>
      refine hh.mono fun e w'' he => ?_
      cases e with
      | returned v => exact h _ _ he.2
      | panicked c => exact absurd he (fun x => x)
      | outgrown => obtain ⟨_, _, x⟩ := he; exact absurd x (fun x => x)
    case row row args => exact hh.mono fun v w'' he => h _ _ he.2
  | halt x w' => cases x <;> simp only [Oper.upon] at hh ⊢; exact absurd hh (fun x => x)

theorem wpAny_of_anyG {tail : List Nat} {Q : Exit → Act → World → Prop} : ∀ (fuel : Nat) (listed : Array Bool) (a : Act) (w : World),
    anyG P B md ops tail Q fuel listed a w → wpAny P md ops Q fuel listed a w
  | 0, _, _, _, h => h.2
  | fuel + 1, _, _, _, h => by
    rcases h with h | h
    · exact h.2
    refine ⟨fun h0 => absurd h0 h.1, fun i hi => ?_⟩
    have h1 := h.2 i hi
    unfold gOp at h1
    unfold wpOp
    split
    · rename_i ho; simp only [ho] at h1; exact wpAny_of_anyG fuel _ _ _ h1
    · rename_i o ho
      simp only [ho] at h1
      split
      · rename_i hw; simp only [hw, if_true] at h1; exact .inl (wp_of_gwp (fun a w' => wpAny_of_anyG fuel _ a w') h1)
      · rename_i hw; simp only [hw] at h1; exact wpAny_of_anyG fuel _ _ _ h1

/-- In state 'a', in every world that goes on from 'w0', the plain operation 'o' yields 'v' and leaves the world. -/
def YE (P : Program) (B : Nat) (ops : Array Oper) (w0 : World) (o : Oper) (v : Value) (a : Act) : Prop :=
  (Region.wanted o (yielded ops a.tmps) = true ∧ ∀ w, Below B w0 w → (execOp a.eval o).run P w = .ok (.value v) w) ∨
  (Region.wanted o (yielded ops a.tmps) = false ∧ v = undef)
theorem YE.of_same {w0 : World} {o : Oper} {v : Value} {a a' : Act} (hy : YE P B ops w0 o v a) (he : execOp a'.eval o = execOp a.eval o)
    (hw : Region.wanted o (yielded ops a'.tmps) = Region.wanted o (yielded ops a.tmps)) : YE P B ops w0 o v a' := by
  unfold YE at *
  rw [he, hw]
  exact hy
theorem YE.gOp {w0 w : World} {i : Nat} {o : Oper} {v : Value} {a : Act} (hi : ops[i]? = some o) (hy : YE P B ops w0 o v a) (hb : Below B w0 w) {K : Act → World → Prop} (h : K (a.put o.dst v) w) : gOp P B ops i K a w := by
  unfold Go.Proofs.YtdpkpcoadojkhaaDoor.gOp
  simp only [hi]
  rcases hy with ⟨hw, hv⟩ | ⟨hw, rfl⟩
  · simp only [hw, if_true]
    unfold gwp Oper.wp
    rw [hv w hb]
    exact ⟨Below.refl _ _, h⟩
  · simp only [hw, Bool.false_eq_true, if_false]; exact h

theorem gOp_put {w0 w : World} {j : Nat} {oi oj : Oper} {v : Value} (hj : ops[j]? = some oj) (hap : oi.apart ops oj = true)
    (hsi : ∀ cs b, oi.op ≠ .select cs b) (hsj : ∀ cs b, oj.op ≠ .select cs b) {K : Act → World → Prop} {a : Act}
    (hy : YE P B ops w0 oi v a) (hb : Below B w0 w) (h : gOp P B ops j K (a.put oi.dst v) w) :
    gOp P B ops j (fun a' w' => (YE P B ops w0 oi v a' ∧ Below B w0 w') ∧ K (a'.put oi.dst v) w') a w := by
  obtain ⟨h1, h2, h3⟩ := Oper.apart_spec hap
  have keep : ∀ (a : Act), YE P B ops w0 oi v a → ∀ u, YE P B ops w0 oi v (a.put oj.dst u) := fun a hy u =>
    hy.of_same (execOp_put oi hsi a oj.dst u h3) (wanted_put oi a oj.dst u h3)
  unfold gOp at *
  simp only [hj] at *
  rw [wanted_put oj a oi.dst v h1] at h
  split
  · rename_i hw
    simp only [hw, if_true] at h
    unfold gwp Oper.wp at *
    rw [execOp_put oj hsj a oi.dst v h1] at h
    generalize (execOp a.eval oj).run P w = r at *
    cases r with
    | ok n w' =>
      cases n <;> simp only [Oper.upon] at h ⊢
      case value u => exact ⟨h.1, ⟨keep a hy u, hb.trans h.1⟩, by rw [← Act.put_comm a v u h2]; exact h.2⟩
      case skip => exact ⟨h.1, ⟨keep a hy undef, hb.trans h.1⟩, by rw [← Act.put_comm a v undef h2]; exact h.2⟩
      case defer d =>
        have e : ({ (a.put oi.dst v) with defers := d :: (a.put oi.dst v).defers } : Act) = ({ a with defers := d :: a.defers } : Act).put oi.dst v := by
          unfold Act.put; cases oi.dst <;> rfl
        have hk : YE P B ops w0 oi v { a with defers := d :: a.defers } := hy.of_same (execOp_congr oi hsi fun x _ => rfl) rfl
        refine ⟨h.1, ⟨keep _ hk undef, hb.trans h.1⟩, ?_⟩
        rw [← Act.put_comm _ v undef h2, ← e]
        exact h.2
      case enter f args =>
        refine h.mono fun e w'' he => ?_
        cases e with
        | returned u => exact ⟨he.1, ⟨keep a hy u, hb.trans he.1⟩, by rw [← Act.put_comm a v u h2]; exact he.2⟩
        | panicked c => exact absurd he (fun x => x)
        | outgrown => obtain ⟨_, _, x⟩ := he; exact absurd x (fun x => x)
      case row row args => exact h.mono fun u w'' he => ⟨he.1, ⟨keep a hy u, hb.trans he.1⟩, by rw [← Act.put_comm a v u h2]; exact he.2⟩
    | halt x w' => cases x <;> simp only [Oper.upon] at h ⊢; exact absurd h (fun x => x)
  · rename_i hw
    simp only [hw] at h
    exact ⟨⟨keep a hy _, hb⟩, by rw [← Act.put_comm a v undef h2]; exact h⟩

theorem gOp_mono {i : Nat} {a : Act} {w : World} {K K' : Act → World → Prop} (h : ∀ a w', K a w' → K' a w') (hh : gOp P B ops i K a w) : gOp P B ops i K' a w := by
  unfold gOp at *
  split
  · rename_i ho; simp only [ho] at hh; exact h _ _ hh
  · rename_i o ho
    simp only [ho] at hh
    split
    · rename_i hw; simp only [hw, if_true] at hh; exact Oper.wp_mono (fun a w' hx => ⟨hx.1, h _ _ hx.2⟩) hh
    · rename_i hw; simp only [hw] at hh; exact h _ _ hh

theorem anyG_first {tail : List Nat} (hB : tailB md ops tail = true) {Q : Exit → Act → World → Prop} {w0 : World} {i : Nat} {oi : Oper} {v : Value} (hi : ops[i]? = some oi) (hit : i ∉ tail) (hsel : ∀ (j : Nat) (o : Oper) cs b, ops[j]? = some o → o.op ≠ .select cs b) :
    ∀ (fuel : Nat) (listed : Array Bool) (a : Act) (w : World), Closed md ops listed → Below B w0 w →
      (∀ j oj, ops[j]? = some oj → j ≠ i → listed.getD j true = false → (∀ e ∈ oj.after, Region.binds md e = true → e.on ≠ i) → oi.apart ops oj = true) →
      i ∈ Region.ready md ops listed → YE P B ops w0 oi v a →
      anyG P B md ops tail Q fuel (listed.setIfInBounds i true) (a.put oi.dst v) w → anyG P B md ops tail Q (fuel + 1) listed a w := by
  -- where only the tail is left behind number i, nothing else could have come up
  have late : ∀ (listed : Array Bool), Closed md ops listed → i ∈ Region.ready md ops listed → (∀ k, k < ops.size → k ∉ tail → (listed.setIfInBounds i true).getD k false = true) → ∀ j, j ∈ Region.ready md ops listed → j ≠ i → False := by
    intro listed hcl hr hall j hj hji
    obtain ⟨hjun, oj, hoj, _⟩ := mem_ready.1 hj
    have hjs : j < ops.size := (Array.getElem?_eq_some_iff.1 hoj).1
    have his : i < ops.size := (Array.getElem?_eq_some_iff.1 hi).1
    by_cases hjt : j ∈ tail
    · have h1 := tail_late hB hcl hjt hj his hit
      have h0 := (mem_ready.1 hr).1
      rcases Nat.lt_or_ge i listed.size with h' | h'
      · simp [h'] at h0 h1; rw [h0] at h1; cases h1
      · simp [Array.getElem?_eq_none h'] at h1
    · have h1 := hall j hjs hjt
      rw [getD_set_ne false (Ne.symm hji)] at h1
      rcases Nat.lt_or_ge j listed.size with h' | h'
      · simp [h'] at hjun h1; rw [hjun] at h1; cases h1
      · simp [Array.getElem?_eq_none h'] at h1
  intro fuel
  induction fuel with
  | zero =>
    intro listed a w hcl hb _ hr hy H
    refine .inr ⟨fun h => (by rw [h] at hr; cases hr), fun j hj => ?_⟩
    by_cases hji : j = i
    · subst hji; exact hy.gOp hi hb H
    · exact absurd (late listed hcl hr H.1 j hj hji) (fun x => x)
  | succ fuel ih =>
    intro listed a w hcl hb hfree hr hy H
    refine .inr ⟨fun h => (by rw [h] at hr; cases hr), fun j hj => ?_⟩
    by_cases hji : j = i
    · subst hji; exact hy.gOp hi hb H
    · rcases H with H | H
      · exact absurd (late listed hcl hr H.1 j hj hji) (fun x => x)
      have h1 := H.2 j (ready_mono hj hji)
      obtain ⟨hjun, oj, hoj, hall⟩ := mem_ready.1 hj
      have hnot : ∀ e ∈ oj.after, Region.binds md e = true → e.on ≠ i := fun e he hb heq => by
        have h1 := hall e he hb
        have h0 := (mem_ready.1 hr).1
        rw [heq] at h1
        rcases Nat.lt_or_ge i listed.size with h' | h'
        · simp [h'] at h0 h1; rw [h0] at h1; cases h1
        · simp [Array.getElem?_eq_none h'] at h1
      have h2 := gOp_put hoj (hfree j oj hoj hji hjun hnot) (fun cs b => hsel i oi cs b hi) (fun cs b => hsel j oj cs b hoj) hy hb h1
      have hfree' : ∀ k ok, ops[k]? = some ok → k ≠ i → (listed.setIfInBounds j true).getD k true = false →
          (∀ e ∈ ok.after, Region.binds md e = true → e.on ≠ i) → oi.apart ops ok = true := fun k ok hk hki hun hno => by
        refine hfree k ok hk hki ?_ hno
        by_cases hjk : j = k
        · subst hjk; exact hjun
        · rw [getD_set_ne true hjk] at hun; exact hun
      refine gOp_mono (fun a' w' h3 => ih (listed.setIfInBounds j true) a' w' (hcl.set hj) h3.1.2 hfree' (ready_mono hr (Ne.symm hji)) h3.1.1 ?_) h2
      rw [Array.setIfInBounds_comm _ _ hji]
      exact h3.2

/-- Operations that enter no function. -/
def plainOp : Op → Bool
  | .move _ | .assign _ | .pick .. | .load .. | .binOp .. | .unOp .. | .fieldAddr .. | .field .. | .indexAddr .. | .index .. | .extract .. | .build .. | .convert .. | .slice .. | .lookup .. => true
  | .call c => match c.callee with
    | .builtin .len => true
    | .builtin .cap => true
    | _ => false
  | _ => false
theorem then_value {α : Type} {r : Result α} {g : α → Value} {n : Next} {w' : World} (h : (r.andThen fun x w => Result.ok (Next.value (g x)) w) = .ok n w') : ∃ v, n = .value v := by
  cases r with
  | ok x w => simp only [Result.andThen_ok, Result.ok.injEq] at h; exact ⟨_, h.1.symm⟩
  | halt x w => simp at h
theorem plain_value {o : Oper} (hp : plainOp o.op = true) {a : Act} {w w' : World} {n : Next} (h : (execOp a.eval o).run P w = .ok n w') : ∃ v, n = .value v := by
  unfold execOp at h
  cases ho : o.op <;> rw [ho] at hp h <;> simp only [plainOp] at hp <;> first | (exact absurd hp Bool.false_ne_true) | skip
  case move x => simp only [Sem.run_pure, Result.ok.injEq] at h; exact ⟨_, h.1.symm⟩
  case assign x => simp only [Sem.run_pure, Result.ok.injEq] at h; exact ⟨_, h.1.symm⟩
  case call c =>
    unfold resolve at h
    cases hc : c.callee with
    | builtin b =>
      rw [hc] at hp
      simp only [hc, Sem.run_bind, Sem.run_pure, Result.andThen_ok] at h
      unfold invoke builtin at h
      cases b <;> simp only at hp h <;> first | (exact absurd hp Bool.false_ne_true) | (simp only [Sem.run_bind, Sem.run_pure] at h; exact then_value h)
    | invoke r n => rw [hc] at hp; exact absurd hp Bool.false_ne_true
    | value f => rw [hc] at hp; exact absurd hp Bool.false_ne_true
  all_goals (simp only [Sem.run_bind, Sem.run_pure] at h; exact then_value h)

def getL : List Oper → Nat → Option Oper
  | [], _ => none
  | x :: _, 0 => some x
  | _ :: r, n + 1 => getL r n
theorem getL_eq : ∀ (l : List Oper) (i : Nat), getL l i = l[i]?
  | [], _ => rfl
  | _ :: _, 0 => rfl
  | _ :: r, n + 1 => by rw [getL, getL_eq r n]; rfl

/-- A world that goes on from w: what lies below B is as it was. -/
def Gr (B : Nat) (w : World) : Type := {wx : World // Below B w wx}
def Gr.w {B : Nat} {w : World} (x : Gr B w) : World := x.val
theorem Gr.below {B : Nat} {w : World} (x : Gr B w) : Below B w x.w := x.property
theorem Gr.cell {B : Nat} {w : World} (x : Gr B w) {a : Addr} {v : Value} (hb : a.block < B) (h : w.cell? a = some v) : x.w.cell? a = some v := (x.below.cell hb).trans h
theorem Gr.mk_of {B : Nat} {w wx : World} (h : Below B w wx) : ∃ x : Gr B w, wx = x.w := ⟨⟨wx, h⟩, rfl⟩
theorem Gr.some (B : Nat) (w : World) : Nonempty (Gr B w) := ⟨⟨w, Below.refl _ _⟩⟩
abbrev GrC (B : Nat) (w : World) : World → Prop := fun w' => ∃ x : Gr B w, w' = x.w
/-- Behind the one operation of a stage. -/
def OnTo (B : Nat) (w : World) (K : Act → World → Prop) : Exit → Act → World → Prop := fun ex a' w' => ex = .normal ∧ Below B w w' ∧ K a' w'
theorem gOp_of_list {i : Nat} {o : Oper} {a : Act} {w : World} {K : Act → World → Prop} (hi : ops[i]? = some o) (h : wpList P ops (OnTo B w K) [o] a w) : gOp P B ops i K a w := by
  unfold gOp
  simp only [hi]
  unfold wpList at h
  split at h
  · rename_i hw
    rw [if_pos hw]
    rcases h with h | ⟨_, _, _, h⟩
    · unfold gwp Oper.wp at *
      generalize (execOp a.eval o).run P w = r at *
      cases r with
      | ok n w' =>
        cases n <;> simp only [Oper.upon] at h ⊢
        case value u => exact h.2
        case skip => exact h.2
        case defer d => exact h.2
        case enter f args =>
          refine h.mono fun e w'' he => ?_
          cases e with
          | returned v => exact he.2
          | panicked c => exact absurd he.1 (by intro x; cases x)
          | outgrown => obtain ⟨_, _, x, _⟩ := he; cases x
        case row row args => exact h.mono fun v w'' he => he.2
      | halt x w' => cases x <;> simp only [Oper.upon] at h ⊢; exact absurd h.1 (by intro x; cases x)
    · cases h.1
  · rename_i hw
    rw [if_neg hw]
    exact h.2.2

/-- A stage: plain operations, then one that goes on as it likes; at the end plain operations, and the tail. -/
def wpG (P : Program) (ops : Array Oper) (Q : Exit → Act → World → Prop) : List (List Oper × Oper) → List Oper → List Oper → Nat → Act → World → Prop
  | [], last, tail, B, a, w => wpQuiet P ops (GrC B w) (fun a' => wpList P ops Q tail a' w) last a
  | (l, o) :: rest, last, tail, B, a, w => wpQuiet P ops (GrC B w) (fun a' => wpList P ops (OnTo B w (fun a'' w'' => ∃ B', B ≤ B' ∧ wpG P ops Q rest last tail B' a'' w'')) [o] a' w) l a
theorem OnTo.mk {w w' : World} {B B' : Nat} {Q : Exit → Act → World → Prop} {rest : List (List Oper × Oper)} {last tail : List Oper} {a : Act} (hb : Below B w w') (hB : B ≤ B') (h : wpG P ops Q rest last tail B' a w') :
    OnTo B w (fun a'' w'' => ∃ B', B ≤ B' ∧ wpG P ops Q rest last tail B' a'' w'') .normal a w' := ⟨rfl, hb, B', hB, h⟩
theorem gOp_less {B B' : Nat} (hB : B ≤ B') {i : Nat} {a : Act} {w : World} {K K' : Act → World → Prop} (h : ∀ a w', K a w' → K' a w') (hh : gOp P B' ops i K a w) : gOp P B ops i K' a w := by
  unfold gOp at *
  split
  · rename_i ho; simp only [ho] at hh; exact h _ _ hh
  · rename_i o ho
    simp only [ho] at hh
    split
    · rename_i hw; simp only [hw, if_true] at hh; exact Oper.wp_mono (fun a w' hx => ⟨hx.1.mono hB, h _ _ hx.2⟩) hh
    · rename_i hw; simp only [hw] at hh; exact h _ _ hh
theorem anyG_less {B B' : Nat} (hB : B ≤ B') {tail : List Nat} {Q : Exit → Act → World → Prop} : ∀ (fuel : Nat) (listed : Array Bool) (a : Act) (w : World), anyG P B' md ops tail Q fuel listed a w → anyG P B md ops tail Q fuel listed a w
  | 0, _, _, _, h => h
  | fuel + 1, _, _, _, h => by
    rcases h with h | h
    · exact .inl h
    · exact .inr ⟨h.1, fun i hi => gOp_less hB (fun a w' hx => anyG_less hB fuel _ a w' hx) (h.2 i hi)⟩

def pickL (l : List Oper) : List Nat → List Oper
  | [] => []
  | i :: r => match getL l i with
    | some o => o :: pickL l r
    | none => []
def growNs (md : Region.Mode) (ops : Array Oper) : List Nat → List Oper → Array Bool → Option (Array Bool)
  | [], [], listed => some listed
  | i :: r, o :: l, listed => if (Region.ready md ops listed).contains i && Region.free md ops listed i && plainOp o.op then growNs md ops r l (listed.setIfInBounds i true) else none
  | _, _, _ => none
def tailRun (md : Region.Mode) (ops : Array Oper) : List Nat → List Oper → Array Bool → Bool
  | [], [], listed => (Region.ready md ops listed).isEmpty
  | c :: r, _ :: l, listed => Region.ready md ops listed == [c] && tailRun md ops r l (listed.setIfInBounds c true)
  | _, _, _ => false
def growB (md : Region.Mode) (ops : Array Oper) (tail : List Nat) : List (List Nat × Nat) → List Nat → Array Bool → Nat → Bool
  | [], last, listed, fuel => last.length + tail.length == fuel && last.all (fun i => !tail.contains i) && match growNs md ops last (pickL ops.toList last) listed with
    | some li => tailRun md ops tail (pickL ops.toList tail) li && (List.range ops.size).all fun i => tail.contains i || li.getD i false
    | none => false
  | (ns, c) :: rest, last, listed, fuel => match growNs md ops ns (pickL ops.toList ns) listed with
    | some li => decide (ns.length + 1 ≤ fuel) && ns.all (fun i => !tail.contains i) && Region.ready md ops li == [c] && growB md ops tail rest last (li.setIfInBounds c true) (fuel - ns.length - 1)
    | none => false
def stagesOf (l : List Oper) : List (List Nat × Nat) → List (List Oper × Oper)
  | [] => []
  | (ns, c) :: r => match getL l c with
    | some o => (pickL l ns, o) :: stagesOf l r
    | none => []

theorem quiet_YE {w0 : World} {o : Oper} {rest : List Oper} {Q : Act → Prop} {a : Act} (hp : plainOp o.op = true) (h : wpQuiet P ops (GrC B w0) Q (o :: rest) a) : ∃ v, YE P B ops w0 o v a ∧ wpQuiet P ops (GrC B w0) Q rest (a.put o.dst v) := by
  unfold wpQuiet at h
  split at h
  · rename_i hw
    obtain ⟨v, h1, h2⟩ := h
    refine ⟨v, .inl ⟨hw, fun w hb => ?_⟩, h2⟩
    have h3 := h1 w (Gr.mk_of hb)
    unfold Oper.quietAt at h3
    cases e : (execOp a.eval o).run P w with
    | ok n w' =>
      obtain ⟨u, rfl⟩ := plain_value hp e
      rw [e] at h3
      obtain ⟨e1, e2⟩ := h3
      rw [e1, e2]
    | halt x w' => rw [e] at h3; exact absurd h3 (fun x => x)
  · rename_i hw
    exact ⟨undef, .inr ⟨by simpa using hw, rfl⟩, h⟩

theorem anyG_plain {tail : List Nat} (hB : tailB md ops tail = true) {Q : Exit → Act → World → Prop} {w : World} (hs : Region.noSelect ops = true) {K : Act → Prop} : ∀ (ns : List Nat) (l : List Oper) (listed li : Array Bool) (a : Act) (fuel : Nat), (∀ k i : Nat, ns[k]? = some i → l[k]? = ops[i]?) → (∀ i ∈ ns, i ∉ tail) → Closed md ops listed →
    growNs md ops ns l listed = some li → wpQuiet P ops (GrC B w) K l a → (∀ a', Closed md ops li → K a' → anyG P B md ops tail Q fuel li a' w) → anyG P B md ops tail Q (fuel + ns.length) listed a w
  | [], [], listed, li, a, fuel, _, _, hcl, hg, h, hK => by
    simp only [growNs, Option.some.injEq] at hg
    subst hg
    exact hK a hcl h
  | [], _ :: _, _, _, _, _, _, _, _, hg, _, _ => by simp [growNs] at hg
  | _ :: _, [], _, _, _, _, _, _, _, hg, _, _ => by simp [growNs] at hg
  | i :: ns, o :: l, listed, li, a, fuel, hl, hnt, hcl, hg, h, hK => by
    have h0 : ops[i]? = some o := by have := hl 0 i rfl; simpa using this.symm
    unfold growNs at hg
    split at hg
    · rename_i hc
      simp only [Bool.and_eq_true] at hc
      obtain ⟨⟨hr, hf⟩, hp⟩ := hc
      have hr : i ∈ Region.ready md ops listed := by simpa using hr
      obtain ⟨v, hy, hn⟩ := quiet_YE hp h
      have := anyG_plain hB hs ns l (listed.setIfInBounds i true) li (a.put o.dst v) fuel (fun k j hk => by have := hl (k + 1) j (by simpa using hk); simpa using this) (fun j hj => hnt j (List.mem_cons_of_mem _ hj)) (hcl.set hr) hg hn hK
      exact anyG_first hB h0 (hnt i (List.mem_cons_self ..)) (Region.noSelect_spec hs) _ listed a w hcl (Below.refl _ _) (Region.free_spec h0 hf) hr hy this
    · cases hg
theorem wpAny_tail {Q : Exit → Act → World → Prop} : ∀ (tail : List Nat) (l : List Oper) (listed : Array Bool) (a : Act) (w : World), (∀ k i : Nat, tail[k]? = some i → l[k]? = ops[i]?) → tailRun md ops tail l listed = true → wpList P ops Q l a w → wpAny P md ops Q tail.length listed a w
  | [], [], listed, a, w, _, hB, h => ⟨by simpa [tailRun] using hB, h⟩
  | [], _ :: _, _, _, _, _, hB, _ => by simp [tailRun] at hB
  | _ :: _, [], _, _, _, _, hB, _ => by simp [tailRun] at hB
  | c :: r, o :: l, listed, a, w, hl, hB, h => by
    have h0 : ops[c]? = some o := by have := hl 0 c rfl; simpa using this.symm
    simp only [tailRun, Bool.and_eq_true, beq_iff_eq] at hB
    refine ⟨fun h0 => (by rw [h0] at hB; cases hB.1), fun i hi => ?_⟩
    rw [hB.1] at hi
    obtain rfl := List.mem_singleton.1 hi
    unfold wpOp
    rw [h0]
    have ih := fun a' w' => wpAny_tail (Q := Q) r l (listed.setIfInBounds i true) a' w' (fun k j hk => by have := hl (k + 1) j (by simpa using hk); simpa using this) hB.2
    unfold wpList at h
    simp only
    split at h
    · rename_i hw
      rw [if_pos hw]
      rcases h with h | h
      · exact .inl (Oper.wp_mono ih h)
      · exact .inr h
    · rename_i hw
      rw [if_neg hw]
      exact ih _ _ h
theorem pickL_at : ∀ (l : List Oper) (ns : List Nat) (k i : Nat), (pickL l ns).length = ns.length → ns[k]? = some i → (pickL l ns)[k]? = l[i]?
  | l, [], k, i, _, h => by simp at h
  | l, j :: r, k, i, hl, h => by
    unfold pickL at hl ⊢
    rw [getL_eq] at hl ⊢
    cases e : l[j]? with
    | none => rw [e] at hl; simp at hl
    | some o =>
      rw [e] at hl
      simp only at hl ⊢
      cases k with
      | zero => simp only [List.getElem?_cons_zero, Option.some.injEq] at h ⊢; subst h; exact e.symm
      | succ k => simp only [List.getElem?_cons_succ] at h ⊢; exact pickL_at l r k i (by simpa using hl) h
theorem growNs_len : ∀ (ns : List Nat) (l : List Oper) (listed li : Array Bool), growNs md ops ns l listed = some li → l.length = ns.length
  | [], [], _, _, _ => rfl
  | [], _ :: _, _, _, h => by simp [growNs] at h
  | _ :: _, [], _, _, h => by simp [growNs] at h
  | _ :: ns, _ :: l, listed, li, h => by
    unfold growNs at h
    split at h
    · simp [growNs_len ns l _ li h]
    · cases h

theorem pick_len : ∀ (tail : List Nat) (l : List Oper) (listed : Array Bool), tailRun md ops tail l listed = true → l.length = tail.length
  | [], [], _, _ => rfl
  | [], _ :: _, _, h => by simp [tailRun] at h
  | _ :: _, [], _, h => by simp [tailRun] at h
  | _ :: r, _ :: l, listed, h => by
    simp only [tailRun, Bool.and_eq_true] at h
    simp [pick_len r l _ h.2]
theorem anyG_here {tail : List Nat} {Q : Exit → Act → World → Prop} {fuel : Nat} {listed : Array Bool} {a : Act} {w : World} (h1 : ∀ i, i < ops.size → i ∉ tail → listed.getD i false = true) (h2 : wpAny P md ops Q fuel listed a w) : anyG P B md ops tail Q fuel listed a w := by
  cases fuel with
  | zero => exact ⟨h1, h2⟩
  | succ n => exact .inl ⟨h1, h2⟩

theorem anyG_stages {tail : List Nat} (hT : tailB md ops tail = true) {Q : Exit → Act → World → Prop} (hs : Region.noSelect ops = true) (last : List Nat) : ∀ (st : List (List Nat × Nat)) (listed : Array Bool) (a : Act) (w : World) (fuel : Nat), Closed md ops listed →
    growB md ops tail st last listed fuel = true → ∀ B, wpG P ops Q (stagesOf ops.toList st) (pickL ops.toList last) (pickL ops.toList tail) B a w → anyG P B md ops tail Q fuel listed a w
  | [], listed, a, w, fuel, hcl, hB, B, h => by
    unfold growB at hB
    simp only [Bool.and_eq_true, beq_iff_eq] at hB
    obtain ⟨⟨hf, hnt⟩, hB⟩ := hB
    cases e : growNs md ops last (pickL ops.toList last) listed with
    | none => rw [e] at hB; cases hB
    | some li =>
      rw [e] at hB
      simp only [Bool.and_eq_true] at hB
      obtain ⟨hrun, hall⟩ := hB
      have key := anyG_plain (Q := Q) hT hs last _ listed li a tail.length (fun k i hk => by rw [pickL_at _ _ _ _ (growNs_len _ _ _ _ e) hk]; simp) (fun i hi => by rw [List.all_eq_true] at hnt; have := hnt i hi; simpa using this) hcl e h (fun a' _ hK =>
        anyG_here (fun i hi hn => by
          rw [List.all_eq_true] at hall
          have := hall i (List.mem_range.2 hi)
          rw [Bool.or_eq_true] at this
          rcases this with h1 | h1
          · exact absurd (by simpa using h1) hn
          · exact h1) (wpAny_tail tail _ li a' w (fun k i hk => by rw [pickL_at _ _ _ _ (pick_len _ _ _ hrun) hk]; simp) hrun hK))
      have : tail.length + last.length = fuel := by omega
      rwa [this] at key
  | (ns, c) :: rest, listed, a, w, fuel, hcl, hB, B, h => by
    unfold growB at hB
    cases e : growNs md ops ns (pickL ops.toList ns) listed with
    | none => rw [e] at hB; cases hB
    | some li =>
      rw [e] at hB
      simp only [Bool.and_eq_true, beq_iff_eq, decide_eq_true_eq] at hB
      obtain ⟨⟨⟨hf, hnt⟩, hr⟩, hB⟩ := hB
      have hc : c ∈ Region.ready md ops li := by rw [hr]; exact List.mem_singleton.2 rfl
      obtain ⟨_, o, ho, _⟩ := mem_ready.1 hc
      have hget : getL ops.toList c = some o := by rw [getL_eq]; simpa using ho
      unfold stagesOf at h
      rw [hget] at h
      have key := anyG_plain (Q := Q) hT hs ns _ listed li a (fuel - ns.length - 1 + 1) (fun k i hk => by rw [pickL_at _ _ _ _ (growNs_len _ _ _ _ e) hk]; simp) (fun i hi => by rw [List.all_eq_true] at hnt; have := hnt i hi; simpa using this) hcl e h (fun a' hcl' hK => by
        refine .inr ⟨fun h0 => (by rw [h0] at hr; cases hr), fun i hi => ?_⟩
        have hi' := hi
        rw [hr] at hi
        obtain rfl := List.mem_singleton.1 hi
        exact gOp_mono (fun a'' w'' ⟨B', hBB, hx⟩ => anyG_less hBB _ _ _ _ (anyG_stages hT hs last rest _ a'' w'' _ (hcl'.set hi') hB B' hx)) (gOp_of_list ho hK))
      have : fuel - ns.length - 1 + 1 + ns.length = fuel := by omega
      rwa [this] at key

/-- The whole. 'st': plain operations and the call behind them, by their numbers; 'last': the plain ones at the end; 'tail': those that come then, one behind the other. -/
theorem wp_region_grow {id : Nat} {Q : Exit → Act → World → Prop} {a : Act} {w : World} {l : List Oper} (B : Nat) (st : List (List Nat × Nat)) (last tail : List Nat) (hm : P.follows .mixedOrders = true) (hs : Region.noSelect l.toArray = true) (hT : tailB .any l.toArray tail = true) (hB : growB .any l.toArray tail st last (Array.replicate l.length false) l.length = true)
    (h : ∀ w1, Below w.heap.size w w1 → wpG P l.toArray Q (stagesOf l st) (pickL l last) (pickL l tail) B a w1) : (Code.region id l.toArray true).wp P Q a w := by
  refine wp_region_any hm (wpAny_of_anyG (B := B) (tail := tail) _ _ _ _ ?_)
  have := anyG_stages (P := P) (ops := l.toArray) (md := .any) (Q := Q) hT hs last st (Array.replicate l.length false) a _ l.length (fun k ok _ hk => absurd (none_marked hk) (fun x => x)) hB B (h _ (Below.refl _ _).drew)
  simpa using this
theorem wpG_last {Q : Exit → Act → World → Prop} {last tail : List Oper} {a : Act} {w : World} (h : wpQuiet P ops (GrC B w) (fun a' => wpList P ops Q tail a' w) last a) : wpG P ops Q [] last tail B a w := h
theorem wpG_stage {Q : Exit → Act → World → Prop} {l : List Oper} {o : Oper} {rest : List (List Oper × Oper)} {last tail : List Oper} {a : Act} {w : World}
    (h : wpQuiet P ops (GrC B w) (fun a' => wpList P ops (OnTo B w (fun a'' w'' => ∃ B', B ≤ B' ∧ wpG P ops Q rest last tail B' a'' w'')) [o] a' w) l a) : wpG P ops Q ((l, o) :: rest) last tail B a w := h

end
end Go.Proofs.YtdpkpcoadojkhaaDoor
