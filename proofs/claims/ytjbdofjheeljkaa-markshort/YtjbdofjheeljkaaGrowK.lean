/-
  Regions that draw their order, as in Grow, but that what a call must leave as it was are the blocks of a set: one walk, the plain operations ahead of each call, serves every order. (A call comes up when nothing else can: the plain operations that could have come up behind it yield the same there.) At the end operations that come one behind the other may do whatever they do.
-/
import Derived.Test.YtjbdofjheeljkaaCalm
namespace Go.Proofs.Ytjbdofjheeljkaa
open Go.RowKit

/-- The blocks of B are as they were. -/
structure Kept (B : Nat → Prop) (w w' : World) : Prop where
  os : w'.os = w.os
  tape : w'.tape = w.tape
  output : w'.output = w.output
  size : w.heap.size ≤ w'.heap.size
  block : ∀ k, B k → w'.heap[k]? = w.heap[k]?
def Sub (B B' : Nat → Prop) : Prop := ∀ k, B k → B' k
theorem Sub.refl (B : Nat → Prop) : Sub B B := fun _ h => h
theorem Kept.refl (B : Nat → Prop) (w : World) : Kept B w w := ⟨rfl, rfl, rfl, Nat.le_refl _, fun _ _ => rfl⟩
theorem Kept.trans {B : Nat → Prop} {a b c : World} (h : Kept B a b) (k : Kept B b c) : Kept B a c := ⟨k.os.trans h.os, k.tape.trans h.tape, k.output.trans h.output, Nat.le_trans h.size k.size, fun i hi => (k.block i hi).trans (h.block i hi)⟩
theorem Kept.mono {B B' : Nat → Prop} {w w' : World} (h : Kept B' w w') (k : Sub B B') : Kept B w w' := ⟨h.os, h.tape, h.output, h.size, fun i hi => h.block i (k i hi)⟩
theorem Kept.cell {B : Nat → Prop} {w w' : World} (h : Kept B w w') {p : Addr} (hp : B p.block) : w'.cell? p = w.cell? p := World.cell?_of_block (w := w) (h.block p.block hp)
theorem Kept.frozen {B : Nat → Prop} {w w' : World} (h : Kept B w w') {p : Addr} (hp : B p.block) : w'.frozen? p = w.frozen? p := World.frozen?_of_block (w := w) (h.block p.block hp)
theorem Kept.of_below {B : Nat → Prop} {n : Nat} {w w' : World} (h : Below n w w') (k : ∀ b, B b → b < n) : Kept B w w' := ⟨h.os, h.tape, h.output, h.size, fun i hi => h.block i (k i hi)⟩

section
variable {P : Program} {B : Nat → Prop} {ops : Array Oper} {md : Region.Mode}

/-- No exit but the usual one. -/
def noExitK : Exit → Act → World → Prop := fun _ _ _ => False
/-- An operation that goes on: what lies below B it leaves as it was. -/
def gwpK (P : Program) (B : Nat → Prop) (o : Oper) (a : Act) (w : World) (K : Act → World → Prop) : Prop := o.wp P a w (fun a' w' => Kept B w w' ∧ K a' w') noExitK
def gOpK (P : Program) (B : Nat → Prop) (ops : Array Oper) (i : Nat) (K : Act → World → Prop) (a : Act) (w : World) : Prop :=
  match ops[i]? with
  | none => K a w
  | some o => if Region.wanted o (yielded ops a.tmps) then gwpK P B o a w K else K (a.put o.dst undef) w
/-- Whatever order is picked from here on, up to where only the tail is left. -/
def anyGK (P : Program) (B : Nat → Prop) (md : Region.Mode) (ops : Array Oper) (tail : List Nat) (Q : Exit → Act → World → Prop) : Nat → Array Bool → Act → World → Prop
  | 0, listed, a, w => (∀ i, i < ops.size → i ∉ tail → listed.getD i false = true) ∧ wpAny P md ops Q 0 listed a w
  | fuel + 1, listed, a, w =>
    ((∀ i, i < ops.size → i ∉ tail → listed.getD i false = true) ∧ wpAny P md ops Q (fuel + 1) listed a w) ∨
    (Region.ready md ops listed ≠ [] ∧ ∀ i ∈ Region.ready md ops listed, gOpK P B ops i (anyGK P B md ops tail Q fuel (listed.setIfInBounds i true)) a w)
/-- What is listed had all that it waits for listed. -/
def ClosedK (md : Region.Mode) (ops : Array Oper) (listed : Array Bool) : Prop :=
  ∀ (k : Nat) (ok : Oper), ops[k]? = some ok → listed.getD k false = true → ∀ e ∈ ok.after, Region.binds md e = true → listed.getD e.on false = true
theorem getD_set_casesK {listed : Array Bool} {i k : Nat} (h : (listed.setIfInBounds i true).getD k false = true) : k = i ∨ listed.getD k false = true := by
  by_cases e : i = k
  · exact .inl e.symm
  · rw [getD_set_ne false e] at h; exact .inr h
theorem ClosedK.set {listed : Array Bool} (h : ClosedK md ops listed) {i : Nat} (hr : i ∈ Region.ready md ops listed) : ClosedK md ops (listed.setIfInBounds i true) := by
  intro k ok hk hl e he hb
  rcases getD_set_casesK hl with rfl | hl
  · obtain ⟨_, o, ho, hall⟩ := mem_ready.1 hr
    rw [hk] at ho
    cases ho
    exact getD_set_true (hall e he hb)
  · exact getD_set_true (h k ok hk hl e he hb)
/-- All that the marked ones wait for is marked. -/
def marksOfK (md : Region.Mode) (ops : Array Oper) : List Nat → Array Bool → Array Bool
  | [], m => m
  | k :: r, m => marksOfK md ops r (if m.getD k false then match ops[k]? with
      | some o => o.after.foldl (fun m e => if Region.binds md e then m.setIfInBounds e.on true else m) m
      | none => m else m)
theorem none_markedK {n k : Nat} (h : (Array.replicate n false).getD k false = true) : False := by
  rw [Array.getD_eq_getD_getElem?, Array.getElem?_replicate] at h
  split at h <;> simp at h
theorem fold_marksK {listed : Array Bool} (l : List Edge) (hl : ∀ e ∈ l, Region.binds md e = true → listed.getD e.on false = true) : ∀ (m : Array Bool), (∀ k, m.getD k false = true → listed.getD k false = true) →
    ∀ k, (l.foldl (fun m e => if Region.binds md e then m.setIfInBounds e.on true else m) m).getD k false = true → listed.getD k false = true := by
  induction l with
  | nil => exact fun m hm => hm
  | cons e l ih =>
    intro m hm
    refine ih (fun e' he' => hl e' (List.mem_cons_of_mem _ he')) _ ?_
    intro k hk
    dsimp only at hk
    split at hk
    · rename_i hb
      rcases getD_set_casesK hk with rfl | hk
      · exact hl e (List.mem_cons_self ..) hb
      · exact hm k hk
    · exact hm k hk
theorem marks_soundK {listed : Array Bool} (hc : ClosedK md ops listed) : ∀ (ks : List Nat) (m : Array Bool), (∀ k, m.getD k false = true → listed.getD k false = true) → ∀ k, (marksOfK md ops ks m).getD k false = true → listed.getD k false = true
  | [], _, hm => hm
  | k :: r, m, hm => by
    refine marks_soundK hc r _ ?_
    intro x hx
    split at hx
    · rename_i hk
      cases ho : ops[k]? with
      | none => rw [ho] at hx; exact hm x hx
      | some o =>
        rw [ho] at hx
        simp only [← Array.foldl_toList] at hx
        exact fold_marksK o.after.toList (fun e he hb => hc k o ho (hm k hk) e (by simpa using he) hb) m hm x hx
    · exact hm x hx
/-- Each of the tail waits for all that is not of it. -/
def tailBK (md : Region.Mode) (ops : Array Oper) (tail : List Nat) : Bool :=
  tail.all fun c => match ops[c]? with
    | none => false
    | some o => (List.range ops.size).all fun i => tail.contains i || (marksOfK md ops (List.range ops.size).reverse (o.after.foldl (fun m e => if Region.binds md e then m.setIfInBounds e.on true else m) (Array.replicate ops.size false))).getD i false
theorem tail_lateK {tail : List Nat} (hB : tailBK md ops tail = true) {listed : Array Bool} (hc : ClosedK md ops listed) {j : Nat} (hj : j ∈ tail) (hr : j ∈ Region.ready md ops listed) {i : Nat} (hi : i < ops.size) (hn : i ∉ tail) : listed.getD i false = true := by
  unfold tailBK at hB
  rw [List.all_eq_true] at hB
  have h1 := hB j hj
  obtain ⟨_, o, ho, hall⟩ := mem_ready.1 hr
  rw [ho] at h1
  simp only at h1
  rw [List.all_eq_true] at h1
  have h2 := h1 i (List.mem_range.2 hi)
  rw [Bool.or_eq_true] at h2
  rcases h2 with h2 | h2
  · exact absurd (by simpa using h2) hn
  · refine marks_soundK hc _ _ ?_ i h2
    intro k hk
    simp only [← Array.foldl_toList] at hk
    exact fold_marksK o.after.toList (fun e he hb => hall e (by simpa using he) hb) _ (fun k hk => absurd (none_markedK hk) (fun x => x)) k hk

theorem wp_of_gwpK {o : Oper} {a : Act} {w : World} {K K' : Act → World → Prop} {Q' : Exit → Act → World → Prop} (h : ∀ a w', K a w' → K' a w') (hh : gwpK P B o a w K) : o.wp P a w K' Q' := by
  unfold gwpK Oper.wp at *
  generalize (execOp a.eval o).run P w = r at *
  cases r with
  | ok n w' =>
    cases n <;> simp only [Oper.upon] at hh ⊢
    case value u => exact h _ _ hh.2
    case skip => exact h _ _ hh.2
    case defer d => exact h _ _ hh.2
    case enter f args =>
      refine hh.mono fun e w'' he => ?_
      cases e with
      | returned v => exact h _ _ he.2
      | panicked c => exact absurd he (fun x => x)
      | outgrown => obtain ⟨_, _, x⟩ := he; exact absurd x (fun x => x)
    case row row args => exact hh.mono fun v w'' he => h _ _ he.2
  | halt x w' => cases x <;> simp only [Oper.upon] at hh ⊢; exact absurd hh (fun x => x)

theorem wpAny_of_anyGK {tail : List Nat} {Q : Exit → Act → World → Prop} : ∀ (fuel : Nat) (listed : Array Bool) (a : Act) (w : World),
    anyGK P B md ops tail Q fuel listed a w → wpAny P md ops Q fuel listed a w
  | 0, _, _, _, h => h.2
  | fuel + 1, _, _, _, h => by
    rcases h with h | h
    · exact h.2
    refine ⟨fun h0 => absurd h0 h.1, fun i hi => ?_⟩
    have h1 := h.2 i hi
    unfold gOpK at h1
    unfold wpOp
    split
    · rename_i ho; simp only [ho] at h1; exact wpAny_of_anyGK fuel _ _ _ h1
    · rename_i o ho
      simp only [ho] at h1
      split
      · rename_i hw; simp only [hw, if_true] at h1; exact .inl (wp_of_gwpK (fun a w' => wpAny_of_anyGK fuel _ a w') h1)
      · rename_i hw; simp only [hw] at h1; exact wpAny_of_anyGK fuel _ _ _ h1

/-- In state 'a', in every world that goes on from 'w0', the plain operation 'o' yields 'v' and leaves the world. -/
def YEK (P : Program) (B : Nat → Prop) (ops : Array Oper) (w0 : World) (o : Oper) (v : Value) (a : Act) : Prop :=
  (Region.wanted o (yielded ops a.tmps) = true ∧ ∀ w, Kept B w0 w → (execOp a.eval o).run P w = .ok (.value v) w) ∨
  (Region.wanted o (yielded ops a.tmps) = false ∧ v = undef)
theorem YEK.of_same {w0 : World} {o : Oper} {v : Value} {a a' : Act} (hy : YEK P B ops w0 o v a) (he : execOp a'.eval o = execOp a.eval o)
    (hw : Region.wanted o (yielded ops a'.tmps) = Region.wanted o (yielded ops a.tmps)) : YEK P B ops w0 o v a' := by
  unfold YEK at *
  rw [he, hw]
  exact hy
theorem YEK.gOp {w0 w : World} {i : Nat} {o : Oper} {v : Value} {a : Act} (hi : ops[i]? = some o) (hy : YEK P B ops w0 o v a) (hb : Kept B w0 w) {K : Act → World → Prop} (h : K (a.put o.dst v) w) : gOpK P B ops i K a w := by
  unfold Go.Proofs.Ytjbdofjheeljkaa.gOpK
  simp only [hi]
  rcases hy with ⟨hw, hv⟩ | ⟨hw, rfl⟩
  · simp only [hw, if_true]
    unfold gwpK Oper.wp
    rw [hv w hb]
    exact ⟨Kept.refl _ _, h⟩
  · simp only [hw, Bool.false_eq_true, if_false]; exact h

theorem gOp_putK {w0 w : World} {j : Nat} {oi oj : Oper} {v : Value} (hj : ops[j]? = some oj) (hap : oi.apart ops oj = true)
    (hsi : ∀ cs b, oi.op ≠ .select cs b) (hsj : ∀ cs b, oj.op ≠ .select cs b) {K : Act → World → Prop} {a : Act}
    (hy : YEK P B ops w0 oi v a) (hb : Kept B w0 w) (h : gOpK P B ops j K (a.put oi.dst v) w) :
    gOpK P B ops j (fun a' w' => (YEK P B ops w0 oi v a' ∧ Kept B w0 w') ∧ K (a'.put oi.dst v) w') a w := by
  obtain ⟨h1, h2, h3⟩ := Oper.apart_spec hap
  have keep : ∀ (a : Act), YEK P B ops w0 oi v a → ∀ u, YEK P B ops w0 oi v (a.put oj.dst u) := fun a hy u =>
    hy.of_same (execOp_put oi hsi a oj.dst u h3) (wanted_put oi a oj.dst u h3)
  unfold gOpK at *
  simp only [hj] at *
  rw [wanted_put oj a oi.dst v h1] at h
  split
  · rename_i hw
    simp only [hw, if_true] at h
    unfold gwpK Oper.wp at *
    rw [execOp_put oj hsj a oi.dst v h1] at h
    generalize (execOp a.eval oj).run P w = r at *
    cases r with
    | ok n w' =>
      cases n <;> simp only [Oper.upon] at h ⊢
      case value u => exact ⟨h.1, ⟨keep a hy u, hb.trans h.1⟩, by rw [← Act.put_comm a v u h2]; exact h.2⟩
      case skip => exact ⟨h.1, ⟨keep a hy undef, hb.trans h.1⟩, by rw [← Act.put_comm a v undef h2]; exact h.2⟩
      case defer d =>
        have e : ({ (a.put oi.dst v) with defers := d :: (a.put oi.dst v).defers } : Act) = ({ a with defers := d :: a.defers } : Act).put oi.dst v := by
          unfold Act.put; cases oi.dst <;> rfl
        have hk : YEK P B ops w0 oi v { a with defers := d :: a.defers } := hy.of_same (execOp_congr oi hsi fun x _ => rfl) rfl
        refine ⟨h.1, ⟨keep _ hk undef, hb.trans h.1⟩, ?_⟩
        rw [← Act.put_comm _ v undef h2, ← e]
        exact h.2
      case enter f args =>
        refine h.mono fun e w'' he => ?_
        cases e with
        | returned u => exact ⟨he.1, ⟨keep a hy u, hb.trans he.1⟩, by rw [← Act.put_comm a v u h2]; exact he.2⟩
        | panicked c => exact absurd he (fun x => x)
        | outgrown => obtain ⟨_, _, x⟩ := he; exact absurd x (fun x => x)
      case row row args => exact h.mono fun u w'' he => ⟨he.1, ⟨keep a hy u, hb.trans he.1⟩, by rw [← Act.put_comm a v u h2]; exact he.2⟩
    | halt x w' => cases x <;> simp only [Oper.upon] at h ⊢; exact absurd h (fun x => x)
  · rename_i hw
    simp only [hw] at h
    exact ⟨⟨keep a hy _, hb⟩, by rw [← Act.put_comm a v undef h2]; exact h⟩

theorem gOp_monoK {i : Nat} {a : Act} {w : World} {K K' : Act → World → Prop} (h : ∀ a w', K a w' → K' a w') (hh : gOpK P B ops i K a w) : gOpK P B ops i K' a w := by
  unfold gOpK at *
  split
  · rename_i ho; simp only [ho] at hh; exact h _ _ hh
  · rename_i o ho
    simp only [ho] at hh
    split
    · rename_i hw; simp only [hw, if_true] at hh; exact Oper.wp_mono (fun a w' hx => ⟨hx.1, h _ _ hx.2⟩) hh
    · rename_i hw; simp only [hw] at hh; exact h _ _ hh

theorem anyG_firstK {tail : List Nat} (hB : tailBK md ops tail = true) {Q : Exit → Act → World → Prop} {w0 : World} {i : Nat} {oi : Oper} {v : Value} (hi : ops[i]? = some oi) (hit : i ∉ tail) (hsel : ∀ (j : Nat) (o : Oper) cs b, ops[j]? = some o → o.op ≠ .select cs b) :
    ∀ (fuel : Nat) (listed : Array Bool) (a : Act) (w : World), ClosedK md ops listed → Kept B w0 w →
      (∀ j oj, ops[j]? = some oj → j ≠ i → listed.getD j true = false → (∀ e ∈ oj.after, Region.binds md e = true → e.on ≠ i) → oi.apart ops oj = true) →
      i ∈ Region.ready md ops listed → YEK P B ops w0 oi v a →
      anyGK P B md ops tail Q fuel (listed.setIfInBounds i true) (a.put oi.dst v) w → anyGK P B md ops tail Q (fuel + 1) listed a w := by
  -- where only the tail is left behind number i, nothing else could have come up
  have late : ∀ (listed : Array Bool), ClosedK md ops listed → i ∈ Region.ready md ops listed → (∀ k, k < ops.size → k ∉ tail → (listed.setIfInBounds i true).getD k false = true) → ∀ j, j ∈ Region.ready md ops listed → j ≠ i → False := by
    intro listed hcl hr hall j hj hji
    obtain ⟨hjun, oj, hoj, _⟩ := mem_ready.1 hj
    have hjs : j < ops.size := (Array.getElem?_eq_some_iff.1 hoj).1
    have his : i < ops.size := (Array.getElem?_eq_some_iff.1 hi).1
    by_cases hjt : j ∈ tail
    · have h1 := tail_lateK hB hcl hjt hj his hit
      have h0 := (mem_ready.1 hr).1
      rcases Nat.lt_or_ge i listed.size with h' | h'
      · simp [h'] at h0 h1; rw [h0] at h1; cases h1
      · simp [Array.getElem?_eq_none h'] at h1
    · have h1 := hall j hjs hjt
      rw [getD_set_ne false (Ne.symm hji)] at h1
      rcases Nat.lt_or_ge j listed.size with h' | h'
      · simp [h'] at hjun h1; rw [hjun] at h1; cases h1
      · simp [Array.getElem?_eq_none h'] at h1
  intro fuel
  induction fuel with
  | zero =>
    intro listed a w hcl hb _ hr hy H
    refine .inr ⟨fun h => (by rw [h] at hr; cases hr), fun j hj => ?_⟩
    by_cases hji : j = i
    · subst hji; exact hy.gOp hi hb H
    · exact absurd (late listed hcl hr H.1 j hj hji) (fun x => x)
  | succ fuel ih =>
    intro listed a w hcl hb hfree hr hy H
    refine .inr ⟨fun h => (by rw [h] at hr; cases hr), fun j hj => ?_⟩
    by_cases hji : j = i
    · subst hji; exact hy.gOp hi hb H
    · rcases H with H | H
      · exact absurd (late listed hcl hr H.1 j hj hji) (fun x => x)
      have h1 := H.2 j (ready_mono hj hji)
      obtain ⟨hjun, oj, hoj, hall⟩ := mem_ready.1 hj
      have hnot : ∀ e ∈ oj.after, Region.binds md e = true → e.on ≠ i := fun e he hb heq => by
        have h1 := hall e he hb
        have h0 := (mem_ready.1 hr).1
        rw [heq] at h1
        rcases Nat.lt_or_ge i listed.size with h' | h'
        · simp [h'] at h0 h1; rw [h0] at h1; cases h1
        · simp [Array.getElem?_eq_none h'] at h1
      have h2 := gOp_putK hoj (hfree j oj hoj hji hjun hnot) (fun cs b => hsel i oi cs b hi) (fun cs b => hsel j oj cs b hoj) hy hb h1
      have hfree' : ∀ k ok, ops[k]? = some ok → k ≠ i → (listed.setIfInBounds j true).getD k true = false →
          (∀ e ∈ ok.after, Region.binds md e = true → e.on ≠ i) → oi.apart ops ok = true := fun k ok hk hki hun hno => by
        refine hfree k ok hk hki ?_ hno
        by_cases hjk : j = k
        · subst hjk; exact hjun
        · rw [getD_set_ne true hjk] at hun; exact hun
      refine gOp_monoK (fun a' w' h3 => ih (listed.setIfInBounds j true) a' w' (hcl.set hj) h3.1.2 hfree' (ready_mono hr (Ne.symm hji)) h3.1.1 ?_) h2
      rw [Array.setIfInBounds_comm _ _ hji]
      exact h3.2

/-- Operations that enter no function. -/
def plainOpK : Op → Bool
  | .nilCheck _ | .move _ | .assign _ | .pick .. | .load .. | .binOp .. | .unOp .. | .fieldAddr .. | .field .. | .indexAddr .. | .index .. | .extract .. | .build .. | .convert .. | .slice .. | .lookup .. => true
  | .call c => match c.callee with
    | .builtin .len => true
    | .builtin .cap => true
    | _ => false
  | _ => false
theorem then_valueK {α : Type} {r : Result α} {g : α → Value} {n : Next} {w' : World} (h : (r.andThen fun x w => Result.ok (Next.value (g x)) w) = .ok n w') : ∃ v, n = .value v := by
  cases r with
  | ok x w => simp only [Result.andThen_ok, Result.ok.injEq] at h; exact ⟨_, h.1.symm⟩
  | halt x w => simp at h
theorem then_anyK {α : Type} {r : Result α} {k : α → World → Result Next} {n : Next} {w' : World} (h : r.andThen k = .ok n w') : ∃ x w1, k x w1 = .ok n w' := by
  cases r with
  | ok x w => exact ⟨x, w, h⟩
  | halt x w => simp at h
theorem plain_valueK {o : Oper} (hp : plainOpK o.op = true) {a : Act} {w w' : World} {n : Next} (h : (execOp a.eval o).run P w = .ok n w') : ∃ v, n = .value v := by
  unfold execOp at h
  cases ho : o.op <;> rw [ho] at hp h <;> simp only [plainOpK] at hp <;> first | (exact absurd hp Bool.false_ne_true) | skip
  case move x => simp only [Sem.run_pure, Result.ok.injEq] at h; exact ⟨_, h.1.symm⟩
  case assign x => simp only [Sem.run_pure, Result.ok.injEq] at h; exact ⟨_, h.1.symm⟩
  case call c =>
    unfold resolve at h
    cases hc : c.callee with
    | builtin b =>
      rw [hc] at hp
      simp only [hc, Sem.run_bind, Sem.run_pure, Result.andThen_ok] at h
      unfold invoke builtin at h
      cases b <;> simp only at hp h <;> first | (exact absurd hp Bool.false_ne_true) | (simp only [Sem.run_bind, Sem.run_pure] at h; exact then_valueK h)
    | invoke r n => rw [hc] at hp; exact absurd hp Bool.false_ne_true
    | value f => rw [hc] at hp; exact absurd hp Bool.false_ne_true
  case nilCheck x =>
    dsimp only at h
    split at h
    · simp [runtimePanic, go_sem] at h
    · simp [runtimePanic, go_sem] at h
    · simp [runtimePanic, go_sem] at h
    · split at h
      · simp [runtimePanic, go_sem] at h
      · simp only [Sem.run_bind] at h
        obtain ⟨x1, w1, h⟩ := then_anyK h
        obtain ⟨x2, w2, h⟩ := then_anyK h
        split at h
        · simp only [Sem.run_bind] at h
          obtain ⟨x3, w3, h⟩ := then_anyK h
          simp only [Sem.run_pure, Result.ok.injEq] at h; exact ⟨_, h.1.symm⟩
        · simp only [Sem.run_pure, Result.ok.injEq] at h; exact ⟨_, h.1.symm⟩
      · simp only [Sem.run_pure, Result.ok.injEq] at h; exact ⟨_, h.1.symm⟩
    · simp only [Sem.run_pure, Result.ok.injEq] at h; exact ⟨_, h.1.symm⟩
  all_goals (simp only [Sem.run_bind, Sem.run_pure] at h; exact then_valueK h)

def getLK : List Oper → Nat → Option Oper
  | [], _ => none
  | x :: _, 0 => some x
  | _ :: r, n + 1 => getLK r n
theorem getL_eqK : ∀ (l : List Oper) (i : Nat), getLK l i = l[i]?
  | [], _ => rfl
  | _ :: _, 0 => rfl
  | _ :: r, n + 1 => by rw [getLK, getL_eqK r n]; rfl

/-- A world that goes on from w: what lies below B is as it was. -/
def GrK (B : Nat → Prop) (w : World) : Type := {wx : World // Kept B w wx}
def GrK.w {B : Nat → Prop} {w : World} (x : GrK B w) : World := x.val
theorem GrK.below {B : Nat → Prop} {w : World} (x : GrK B w) : Kept B w x.w := x.property
theorem GrK.cell {B : Nat → Prop} {w : World} (x : GrK B w) {a : Addr} {v : Value} (hb : B a.block) (h : w.cell? a = some v) : x.w.cell? a = some v := (x.below.cell hb).trans h
theorem GrK.mk_of {B : Nat → Prop} {w wx : World} (h : Kept B w wx) : ∃ x : GrK B w, wx = x.w := ⟨⟨wx, h⟩, rfl⟩
theorem GrK.some (B : Nat → Prop) (w : World) : Nonempty (GrK B w) := ⟨⟨w, Kept.refl _ _⟩⟩
abbrev GrCK (B : Nat → Prop) (w : World) : World → Prop := fun w' => ∃ x : GrK B w, w' = x.w
/-- Behind the one operation of a stage. -/
def OnToK (B : Nat → Prop) (w : World) (K : Act → World → Prop) : Exit → Act → World → Prop := fun ex a' w' => ex = .normal ∧ Kept B w w' ∧ K a' w'
theorem gOp_of_listK {i : Nat} {o : Oper} {a : Act} {w : World} {K : Act → World → Prop} (hi : ops[i]? = some o) (h : wpList P ops (OnToK B w K) [o] a w) : gOpK P B ops i K a w := by
  unfold gOpK
  simp only [hi]
  unfold wpList at h
  split at h
  · rename_i hw
    rw [if_pos hw]
    rcases h with h | ⟨_, _, _, h⟩
    · unfold gwpK Oper.wp at *
      generalize (execOp a.eval o).run P w = r at *
      cases r with
      | ok n w' =>
        cases n <;> simp only [Oper.upon] at h ⊢
        case value u => exact h.2
        case skip => exact h.2
        case defer d => exact h.2
        case enter f args =>
          refine h.mono fun e w'' he => ?_
          cases e with
          | returned v => exact he.2
          | panicked c => exact absurd he.1 (by intro x; cases x)
          | outgrown => obtain ⟨_, _, x, _⟩ := he; cases x
        case row row args => exact h.mono fun v w'' he => he.2
      | halt x w' => cases x <;> simp only [Oper.upon] at h ⊢; exact absurd h.1 (by intro x; cases x)
    · cases h.1
  · rename_i hw
    rw [if_neg hw]
    exact h.2.2

/-- A stage: plain operations, then one that goes on as it likes; at the end plain operations, and the tail. -/
def wpGK (P : Program) (ops : Array Oper) (Q : Exit → Act → World → Prop) : List (List Oper × Oper) → List Oper → List Oper → (Nat → Prop) → Act → World → Prop
  | [], last, tail, B, a, w => wpQuiet P ops (GrCK B w) (fun a' => wpList P ops Q tail a' w) last a
  | (l, o) :: rest, last, tail, B, a, w => wpQuiet P ops (GrCK B w) (fun a' => wpList P ops (OnToK B w (fun a'' w'' => ∃ B', Sub B B' ∧ wpGK P ops Q rest last tail B' a'' w'')) [o] a' w) l a
theorem OnToK.mk {w w' : World} {B B' : Nat → Prop} {Q : Exit → Act → World → Prop} {rest : List (List Oper × Oper)} {last tail : List Oper} {a : Act} (hb : Kept B w w') (hB : Sub B B') (h : wpGK P ops Q rest last tail B' a w') :
    OnToK B w (fun a'' w'' => ∃ B', Sub B B' ∧ wpGK P ops Q rest last tail B' a'' w'') .normal a w' := ⟨rfl, hb, B', hB, h⟩
theorem gOp_lessK {B B' : Nat → Prop} (hB : Sub B B') {i : Nat} {a : Act} {w : World} {K K' : Act → World → Prop} (h : ∀ a w', K a w' → K' a w') (hh : gOpK P B' ops i K a w) : gOpK P B ops i K' a w := by
  unfold gOpK at *
  split
  · rename_i ho; simp only [ho] at hh; exact h _ _ hh
  · rename_i o ho
    simp only [ho] at hh
    split
    · rename_i hw; simp only [hw, if_true] at hh; exact Oper.wp_mono (fun a w' hx => ⟨hx.1.mono hB, h _ _ hx.2⟩) hh
    · rename_i hw; simp only [hw] at hh; exact h _ _ hh
theorem anyG_lessK {B B' : Nat → Prop} (hB : Sub B B') {tail : List Nat} {Q : Exit → Act → World → Prop} : ∀ (fuel : Nat) (listed : Array Bool) (a : Act) (w : World), anyGK P B' md ops tail Q fuel listed a w → anyGK P B md ops tail Q fuel listed a w
  | 0, _, _, _, h => h
  | fuel + 1, _, _, _, h => by
    rcases h with h | h
    · exact .inl h
    · exact .inr ⟨h.1, fun i hi => gOp_lessK hB (fun a w' hx => anyG_lessK hB fuel _ a w' hx) (h.2 i hi)⟩

def pickLK (l : List Oper) : List Nat → List Oper
  | [] => []
  | i :: r => match getLK l i with
    | some o => o :: pickLK l r
    | none => []
def growNsK (md : Region.Mode) (ops : Array Oper) : List Nat → List Oper → Array Bool → Option (Array Bool)
  | [], [], listed => some listed
  | i :: r, o :: l, listed => if (Region.ready md ops listed).contains i && Region.free md ops listed i && plainOpK o.op then growNsK md ops r l (listed.setIfInBounds i true) else none
  | _, _, _ => none
def tailRunK (md : Region.Mode) (ops : Array Oper) : List Nat → List Oper → Array Bool → Bool
  | [], [], listed => (Region.ready md ops listed).isEmpty
  | c :: r, _ :: l, listed => Region.ready md ops listed == [c] && tailRunK md ops r l (listed.setIfInBounds c true)
  | _, _, _ => false
def growBK (md : Region.Mode) (ops : Array Oper) (tail : List Nat) : List (List Nat × Nat) → List Nat → Array Bool → Nat → Bool
  | [], last, listed, fuel => last.length + tail.length == fuel && last.all (fun i => !tail.contains i) && match growNsK md ops last (pickLK ops.toList last) listed with
    | some li => tailRunK md ops tail (pickLK ops.toList tail) li && (List.range ops.size).all fun i => tail.contains i || li.getD i false
    | none => false
  | (ns, c) :: rest, last, listed, fuel => match growNsK md ops ns (pickLK ops.toList ns) listed with
    | some li => decide (ns.length + 1 ≤ fuel) && ns.all (fun i => !tail.contains i) && Region.ready md ops li == [c] && growBK md ops tail rest last (li.setIfInBounds c true) (fuel - ns.length - 1)
    | none => false
def stagesOfK (l : List Oper) : List (List Nat × Nat) → List (List Oper × Oper)
  | [] => []
  | (ns, c) :: r => match getLK l c with
    | some o => (pickLK l ns, o) :: stagesOfK l r
    | none => []

theorem quiet_YEK {w0 : World} {o : Oper} {rest : List Oper} {Q : Act → Prop} {a : Act} (hp : plainOpK o.op = true) (h : wpQuiet P ops (GrCK B w0) Q (o :: rest) a) : ∃ v, YEK P B ops w0 o v a ∧ wpQuiet P ops (GrCK B w0) Q rest (a.put o.dst v) := by
  unfold wpQuiet at h
  split at h
  · rename_i hw
    obtain ⟨v, h1, h2⟩ := h
    refine ⟨v, .inl ⟨hw, fun w hb => ?_⟩, h2⟩
    have h3 := h1 w (GrK.mk_of hb)
    unfold Oper.quietAt at h3
    cases e : (execOp a.eval o).run P w with
    | ok n w' =>
      obtain ⟨u, rfl⟩ := plain_valueK hp e
      rw [e] at h3
      obtain ⟨e1, e2⟩ := h3
      rw [e1, e2]
    | halt x w' => rw [e] at h3; exact absurd h3 (fun x => x)
  · rename_i hw
    exact ⟨undef, .inr ⟨by simpa using hw, rfl⟩, h⟩

theorem anyG_plainK {tail : List Nat} (hB : tailBK md ops tail = true) {Q : Exit → Act → World → Prop} {w : World} (hs : Region.noSelect ops = true) {K : Act → Prop} : ∀ (ns : List Nat) (l : List Oper) (listed li : Array Bool) (a : Act) (fuel : Nat), (∀ k i : Nat, ns[k]? = some i → l[k]? = ops[i]?) → (∀ i ∈ ns, i ∉ tail) → ClosedK md ops listed →
    growNsK md ops ns l listed = some li → wpQuiet P ops (GrCK B w) K l a → (∀ a', ClosedK md ops li → K a' → anyGK P B md ops tail Q fuel li a' w) → anyGK P B md ops tail Q (fuel + ns.length) listed a w
  | [], [], listed, li, a, fuel, _, _, hcl, hg, h, hK => by
    simp only [growNsK, Option.some.injEq] at hg
    subst hg
    exact hK a hcl h
  | [], _ :: _, _, _, _, _, _, _, _, hg, _, _ => by simp [growNsK] at hg
  | _ :: _, [], _, _, _, _, _, _, _, hg, _, _ => by simp [growNsK] at hg
  | i :: ns, o :: l, listed, li, a, fuel, hl, hnt, hcl, hg, h, hK => by
    have h0 : ops[i]? = some o := by have := hl 0 i rfl; simpa using this.symm
    unfold growNsK at hg
    split at hg
    · rename_i hc
      simp only [Bool.and_eq_true] at hc
      obtain ⟨⟨hr, hf⟩, hp⟩ := hc
      have hr : i ∈ Region.ready md ops listed := by simpa using hr
      obtain ⟨v, hy, hn⟩ := quiet_YEK hp h
      have := anyG_plainK hB hs ns l (listed.setIfInBounds i true) li (a.put o.dst v) fuel (fun k j hk => by have := hl (k + 1) j (by simpa using hk); simpa using this) (fun j hj => hnt j (List.mem_cons_of_mem _ hj)) (hcl.set hr) hg hn hK
      exact anyG_firstK hB h0 (hnt i (List.mem_cons_self ..)) (Region.noSelect_spec hs) _ listed a w hcl (Kept.refl _ _) (Region.free_spec h0 hf) hr hy this
    · cases hg
theorem wpAny_tailK {Q : Exit → Act → World → Prop} : ∀ (tail : List Nat) (l : List Oper) (listed : Array Bool) (a : Act) (w : World), (∀ k i : Nat, tail[k]? = some i → l[k]? = ops[i]?) → tailRunK md ops tail l listed = true → wpList P ops Q l a w → wpAny P md ops Q tail.length listed a w
  | [], [], listed, a, w, _, hB, h => ⟨by simpa [tailRunK] using hB, h⟩
  | [], _ :: _, _, _, _, _, hB, _ => by simp [tailRunK] at hB
  | _ :: _, [], _, _, _, _, hB, _ => by simp [tailRunK] at hB
  | c :: r, o :: l, listed, a, w, hl, hB, h => by
    have h0 : ops[c]? = some o := by have := hl 0 c rfl; simpa using this.symm
    simp only [tailRunK, Bool.and_eq_true, beq_iff_eq] at hB
    refine ⟨fun h0 => (by rw [h0] at hB; cases hB.1), fun i hi => ?_⟩
    rw [hB.1] at hi
    obtain rfl := List.mem_singleton.1 hi
    unfold wpOp
    rw [h0]
    have ih := fun a' w' => wpAny_tailK (Q := Q) r l (listed.setIfInBounds i true) a' w' (fun k j hk => by have := hl (k + 1) j (by simpa using hk); simpa using this) hB.2
    unfold wpList at h
    simp only
    split at h
    · rename_i hw
      rw [if_pos hw]
      rcases h with h | h
      · exact .inl (Oper.wp_mono ih h)
      · exact .inr h
    · rename_i hw
      rw [if_neg hw]
      exact ih _ _ h
theorem pickL_atK : ∀ (l : List Oper) (ns : List Nat) (k i : Nat), (pickLK l ns).length = ns.length → ns[k]? = some i → (pickLK l ns)[k]? = l[i]?
  | l, [], k, i, _, h => by simp at h
  | l, j :: r, k, i, hl, h => by
    unfold pickLK at hl ⊢
    rw [getL_eqK] at hl ⊢
    cases e : l[j]? with
    | none => rw [e] at hl; simp at hl
    | some o =>
      rw [e] at hl
      simp only at hl ⊢
      cases k with
      | zero => simp only [List.getElem?_cons_zero, Option.some.injEq] at h ⊢; subst h; exact e.symm
      | succ k => simp only [List.getElem?_cons_succ] at h ⊢; exact pickL_atK l r k i (by simpa using hl) h
theorem growNs_lenK : ∀ (ns : List Nat) (l : List Oper) (listed li : Array Bool), growNsK md ops ns l listed = some li → l.length = ns.length
  | [], [], _, _, _ => rfl
  | [], _ :: _, _, _, h => by simp [growNsK] at h
  | _ :: _, [], _, _, h => by simp [growNsK] at h
  | _ :: ns, _ :: l, listed, li, h => by
    unfold growNsK at h
    split at h
    · simp [growNs_lenK ns l _ li h]
    · cases h

theorem pick_lenK : ∀ (tail : List Nat) (l : List Oper) (listed : Array Bool), tailRunK md ops tail l listed = true → l.length = tail.length
  | [], [], _, _ => rfl
  | [], _ :: _, _, h => by simp [tailRunK] at h
  | _ :: _, [], _, h => by simp [tailRunK] at h
  | _ :: r, _ :: l, listed, h => by
    simp only [tailRunK, Bool.and_eq_true] at h
    simp [pick_lenK r l _ h.2]
theorem anyG_hereK {tail : List Nat} {Q : Exit → Act → World → Prop} {fuel : Nat} {listed : Array Bool} {a : Act} {w : World} (h1 : ∀ i, i < ops.size → i ∉ tail → listed.getD i false = true) (h2 : wpAny P md ops Q fuel listed a w) : anyGK P B md ops tail Q fuel listed a w := by
  cases fuel with
  | zero => exact ⟨h1, h2⟩
  | succ n => exact .inl ⟨h1, h2⟩

theorem anyG_stagesK {tail : List Nat} (hT : tailBK md ops tail = true) {Q : Exit → Act → World → Prop} (hs : Region.noSelect ops = true) (last : List Nat) : ∀ (st : List (List Nat × Nat)) (listed : Array Bool) (a : Act) (w : World) (fuel : Nat), ClosedK md ops listed →
    growBK md ops tail st last listed fuel = true → ∀ B, wpGK P ops Q (stagesOfK ops.toList st) (pickLK ops.toList last) (pickLK ops.toList tail) B a w → anyGK P B md ops tail Q fuel listed a w
  | [], listed, a, w, fuel, hcl, hB, B, h => by
    unfold growBK at hB
    simp only [Bool.and_eq_true, beq_iff_eq] at hB
    obtain ⟨⟨hf, hnt⟩, hB⟩ := hB
    cases e : growNsK md ops last (pickLK ops.toList last) listed with
    | none => rw [e] at hB; cases hB
    | some li =>
      rw [e] at hB
      simp only [Bool.and_eq_true] at hB
      obtain ⟨hrun, hall⟩ := hB
      have key := anyG_plainK (Q := Q) hT hs last _ listed li a tail.length (fun k i hk => by rw [pickL_atK _ _ _ _ (growNs_lenK _ _ _ _ e) hk]; simp) (fun i hi => by rw [List.all_eq_true] at hnt; have := hnt i hi; simpa using this) hcl e h (fun a' _ hK =>
        anyG_hereK (fun i hi hn => by
          rw [List.all_eq_true] at hall
          have := hall i (List.mem_range.2 hi)
          rw [Bool.or_eq_true] at this
          rcases this with h1 | h1
          · exact absurd (by simpa using h1) hn
          · exact h1) (wpAny_tailK tail _ li a' w (fun k i hk => by rw [pickL_atK _ _ _ _ (pick_lenK _ _ _ hrun) hk]; simp) hrun hK))
      have : tail.length + last.length = fuel := by omega
      rwa [this] at key
  | (ns, c) :: rest, listed, a, w, fuel, hcl, hB, B, h => by
    unfold growBK at hB
    cases e : growNsK md ops ns (pickLK ops.toList ns) listed with
    | none => rw [e] at hB; cases hB
    | some li =>
      rw [e] at hB
      simp only [Bool.and_eq_true, beq_iff_eq, decide_eq_true_eq] at hB
      obtain ⟨⟨⟨hf, hnt⟩, hr⟩, hB⟩ := hB
      have hc : c ∈ Region.ready md ops li := by rw [hr]; exact List.mem_singleton.2 rfl
      obtain ⟨_, o, ho, _⟩ := mem_ready.1 hc
      have hget : getLK ops.toList c = some o := by rw [getL_eqK]; simpa using ho
      unfold stagesOfK at h
      rw [hget] at h
      have key := anyG_plainK (Q := Q) hT hs ns _ listed li a (fuel - ns.length - 1 + 1) (fun k i hk => by rw [pickL_atK _ _ _ _ (growNs_lenK _ _ _ _ e) hk]; simp) (fun i hi => by rw [List.all_eq_true] at hnt; have := hnt i hi; simpa using this) hcl e h (fun a' hcl' hK => by
        refine .inr ⟨fun h0 => (by rw [h0] at hr; cases hr), fun i hi => ?_⟩
        have hi' := hi
        rw [hr] at hi
        obtain rfl := List.mem_singleton.1 hi
        exact gOp_monoK (fun a'' w'' ⟨B', hBB, hx⟩ => anyG_lessK hBB _ _ _ _ (anyG_stagesK hT hs last rest _ a'' w'' _ (hcl'.set hi') hB B' hx)) (gOp_of_listK ho hK))
      have : fuel - ns.length - 1 + 1 + ns.length = fuel := by omega
      rwa [this] at key

/-- The whole. 'st': plain operations and the call behind them, by their numbers; 'last': the plain ones at the end; 'tail': those that come then, one behind the other. -/
theorem wp_region_growK {id : Nat} {Q : Exit → Act → World → Prop} {a : Act} {w : World} {l : List Oper} (B : Nat → Prop) (st : List (List Nat × Nat)) (last tail : List Nat) (hm : P.follows .mixedOrders = true) (hs : Region.noSelect l.toArray = true) (hT : tailBK .any l.toArray tail = true) (hB : growBK .any l.toArray tail st last (Array.replicate l.length false) l.length = true)
    (h : ∀ w1, Below w.heap.size w w1 → wpGK P l.toArray Q (stagesOfK l st) (pickLK l last) (pickLK l tail) B a w1) : (Code.region id l.toArray true).wp P Q a w := by
  refine wp_region_any hm (wpAny_of_anyGK (B := B) (tail := tail) _ _ _ _ ?_)
  have := anyG_stagesK (P := P) (ops := l.toArray) (md := .any) (Q := Q) hT hs last st (Array.replicate l.length false) a _ l.length (fun k ok _ hk => absurd (none_markedK hk) (fun x => x)) hB B (h _ (Below.refl _ _).drew)
  simpa using this
theorem wpG_lastK {Q : Exit → Act → World → Prop} {last tail : List Oper} {a : Act} {w : World} (h : wpQuiet P ops (GrCK B w) (fun a' => wpList P ops Q tail a' w) last a) : wpGK P ops Q [] last tail B a w := h
theorem wpG_stageK {Q : Exit → Act → World → Prop} {l : List Oper} {o : Oper} {rest : List (List Oper × Oper)} {last tail : List Oper} {a : Act} {w : World}
    (h : wpQuiet P ops (GrCK B w) (fun a' => wpList P ops (OnToK B w (fun a'' w'' => ∃ B', Sub B B' ∧ wpGK P ops Q rest last tail B' a'' w'')) [o] a' w) l a) : wpGK P ops Q ((l, o) :: rest) last tail B a w := h

end
end Go.Proofs.Ytjbdofjheeljkaa
