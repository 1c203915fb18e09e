/-
  A loop over a function whose k-th round's element is known: the body is walked at that element alone (it need not be safe at others).
-/
import Derived.Test.YtleomppgkikhnaaGreatBase
import Derived.RangeFuncNested
namespace Go.Proofs.YtleomppgkikhnaaGreat
open Go.RowKit

/-- How the k-th round may be left. -/
def roundEnd (B : Nat) (Kp : World → World → Prop) (I : Nat → World → Prop) (Ix : Nat → World → Prop) (k : Nat) (W : World) : Exit → Act → World → Prop
  | .normal, _, V => KeepsFrom B W V ∧ Kp W V ∧ I (k + 1) V
  | .exit id, _, V => KeepsFrom B W V ∧ Ix id V
  | _, _, _ => False

/-- What an iterator of m rounds keeps to. -/
def Rounds (F : Fence) (n : Nat) (P : Program) (gf : Nat) (lb : Array Value) (m : Nat) (enc : Nat → Array Value) (Kp : World → World → Prop) (w : World) : Prop :=
  ∀ (l : Nat) (J : Nat → World → Prop) (Jx : World → Prop) (W : World), Below w.heap.size w W →
    (∀ k, k < m → ∀ V, J k V → YieldAt F (n - 1) P l (enc k) V fun e V' => (e = .returned (.bool true) ∧ J (k + 1) V' ∧ Kp V V') ∨ (e = .returned (.bool false) ∧ Jx V')) →
    J 0 W → CallsIn F n P gf (#[.func (.yield l) #[] #[]] ++ lb) W fun e V => (∃ v, e = .returned v) ∧ (J m V ∨ Jx V)

/-- The loop's record. -/
def loopRec (fn : FuncId) (tmps : Array Value) (ps : Array Tmp) (assign body : Code) (d : Nat) (s : LoopState) (p : Option Code) : Loop := { state := s, pending := p, fn := fn, tmps := tmps, params := ps, assign := assign, body := body, defers := d }

/-- A round, from its assign code and its body. -/
theorem round_idx {F : Fence} {n : Nat} {P : Program} {fn : FuncId} (hfn : F.fn fn) {tmps : Array Value} {ps : Array Tmp} {assign body : Code} {B : Nat} {Kp : World → World → Prop} {I : Nat → World → Prop} {Ix : Nat → World → Prop} {k : Nat} {x : Array Value} {Ax : Act → World → Prop}
    (hKt : ∀ {A B C : World}, Kp A B → Kp B C → Kp A C) (hKb : ∀ (W : World) (l : Nat) (o o' : Obj), B ≤ l → W.heap[l]? = some o → o.isCells = false → o.isWalk = false → Kp W (W.putObj l o'))
    (hI : OwnFrom B I) (hIx : OwnFrom B Ix) (hAx : ∀ a, OwnFrom B (fun (_ : Unit) W => Ax a W)) (hps : x.size = ps.size) {W : World}
    (hl : W.heap[B + 1]? = some (.loop (loopRec fn tmps ps assign body B .ready none))) (hd : W.heap[B]? = some (.deferred (some [])))
    (hassign : ∀ (K : Act → World → Prop), (∀ a V, KeepsFrom B W V → Kp W V → I k V → Ax a V → K a V) →
      assign.wpIn (F.inRound (B + 1)) n P (Exit.then K (fun _ _ _ => False)) { tmps := (ps.zip x).foldl (fun t (p, v) => t.setIfInBounds p v) tmps, defers := [] } W)
    (hbody : ∀ (a : Act) (V : World), (∃ r, V.heap[B + 1]? = some (.loop r)) → I k V → Ax a V → body.wpIn (F.inRound (B + 1)) n P (roundEnd B Kp I Ix k V) a V) :
    YieldAt F n P (B + 1) x W fun e V =>
      (e = .returned (.bool true) ∧ (I (k + 1) V ∧ V.heap[B + 1]? = some (.loop (loopRec fn tmps ps assign body B .ready none)) ∧ V.heap[B]? = some (.deferred (some []))) ∧ Kp W V) ∨
      (e = .returned (.bool false) ∧ ∃ id, Ix id V ∧ V.heap[B + 1]? = some (.loop (loopRec fn tmps ps assign body B .done (some (.exit id)))) ∧ V.heap[B]? = some (.deferred (some []))) := by
  refine ⟨fn, _, assign, body, run_yield hl hps, roundIn_of_wpIn hfn (hassign _ fun a V hf hkp hiV hax => ?_)⟩
  have hlV := hf.same (B + 1) _ (by omega) hl rfl
  have hdV := hf.same B _ (Nat.le_refl _) hd rfl
  have hlt := (Array.getElem?_eq_some_iff.1 hlV).1
  refine ⟨_, run_beginRound hlV rfl, ?_⟩
  obtain ⟨U, hU⟩ : ∃ U, V.putObj (B + 1) (.loop { loopRec fn tmps ps assign body B .ready none with state := .busy }) = U := ⟨_, rfl⟩
  have hlU : U.heap[B + 1]? = some (.loop { loopRec fn tmps ps assign body B .ready none with state := .busy }) := by rw [← hU]; exact World.putObj_heap_same hlt
  have hdU : U.heap[B]? = some (.deferred (some [])) := by rw [← hU]; exact (World.putObj_heap_other (by omega)).trans hdV
  have hkU : Kp W U := hKt hkp (by rw [← hU]; exact hKb _ _ _ _ (by omega) hlV rfl rfl)
  have hiU : I k U := by rw [← hU]; exact hI.putObj _ hiV (by omega) hlV rfl
  have haU : Ax a U := by rw [← hU]; exact (hAx a).putObj (s := ()) _ hax (by omega) hlV rfl
  rw [hU]
  refine wpIn_mono (hbody a U ⟨_, hlU⟩ hiU haU) ?_
  intro e a3 Z hp
  cases e with
  | normal =>
    obtain ⟨h1, h2, h3⟩ := hp
    have hlZ := h1.same (B + 1) _ (by omega) hlU rfl
    refine ⟨_, _, run_endRound none hlZ, .inl ⟨rfl, ⟨hI.putObj _ h3 (by omega) hlZ rfl, ?_, ?_⟩, hKt hkU (hKt h2 (hKb _ _ _ _ (by omega) hlZ rfl rfl))⟩⟩
    · exact World.putObj_heap_same (Array.getElem?_eq_some_iff.1 hlZ).1
    · exact (World.putObj_heap_other (by omega)).trans (h1.same B _ (Nat.le_refl _) hdU rfl)
  | exit id =>
    obtain ⟨h1, h3⟩ := hp
    have hlZ := h1.same (B + 1) _ (by omega) hlU rfl
    refine ⟨_, _, run_endRound (some (.exit id)) hlZ, .inr ⟨rfl, id, hIx.putObj _ h3 (by omega) hlZ rfl, ?_, ?_⟩⟩
    · exact World.putObj_heap_same (Array.getElem?_eq_some_iff.1 hlZ).1
    · exact (World.putObj_heap_other (by omega)).trans (h1.same B _ (Nat.le_refl _) hdU rfl)
  | ret => exact hp.elim
  | goto t => exact hp.elim
  | panic c => exact hp.elim
  | outgrown => exact hp.elim

/-- The loop. -/
theorem range_idx {F : Fence} {n : Nat} {P : Program} {g : Operand} {ps : Array Tmp} {assign body : Code} {Q : Exit → Act → World → Prop} {a : Act} {w : World}
    (hro : F.round = none) (h1 : 1 ≤ n) {gf : Nat} {lb : Array Value} (hg : a.eval g = .func (.func gf) #[] lb) (hFg : F.fn gf) (eg : ∀ args w, (callFunc gf args).run P w = .ok (.enter gf args) w)
    {m : Nat} {enc : Nat → Array Value} {Kp : World → World → Prop} (hit : Rounds F (n - 1) P gf lb m enc Kp w)
    (hKt : ∀ {A B C : World}, Kp A B → Kp B C → Kp A C) (hKb : ∀ (W : World) (l : Nat) (o o' : Obj), w.heap.size ≤ l → W.heap[l]? = some o → o.isCells = false → o.isWalk = false → Kp W (W.putObj l o')) (hps : ∀ k, k < m → (enc k).size = ps.size)
    (I : Nat → World → Prop) (Ix : Nat → World → Prop) (hI : OwnFrom w.heap.size I) (hIx : OwnFrom w.heap.size Ix) (h0 : I 0 w) (Ax : Nat → Act → World → Prop) (hAx : ∀ k a', OwnFrom w.heap.size (fun (_ : Unit) W => Ax k a' W))
    (hassign : ∀ (l k : Nat) (W : World) (K : Act → World → Prop), k < m → I k W → (∀ a' V, KeepsFrom w.heap.size W V → Kp W V → I k V → Ax k a' V → K a' V) →
      assign.wpIn (F.inRound l) (n - 1 - 1) P (Exit.then K (fun _ _ _ => False)) { tmps := (ps.zip (enc k)).foldl (fun t (p, v) => t.setIfInBounds p v) a.tmps, defers := [] } W)
    (hbody : ∀ (l k : Nat) (a' : Act) (W : World), k < m → (∃ r, W.heap[l]? = some (.loop r)) → I k W → Ax k a' W → body.wpIn (F.inRound l) (n - 1 - 1) P (roundEnd w.heap.size Kp I Ix k W) a' W)
    (hdone : ∀ (D : Nat) (W : World), w.heap.size ≤ D → I m W → W.heap[D]? = some (.deferred (some [])) → Q .normal { a with defers := { target := .collected D, args := #[] } :: a.defers } W)
    (hstop : ∀ (D id : Nat) (W : World), w.heap.size ≤ D → Ix id W → W.heap[D]? = some (.deferred (some [])) → (Code.exit id).wpIn F n P Q { a with defers := { target := .collected D, args := #[] } :: a.defers } W) :
    (Code.rangeFunc g ps assign body).wpIn F n P Q a w := by
  refine wpIn_rangeFunc fun fn hfn => ?_
  obtain ⟨W1, hW1⟩ : ∃ W1, (w.alloc (.deferred (some []))).alloc (.loop (loopRec fn a.tmps ps assign body w.heap.size .ready none)) = W1 := ⟨_, rfl⟩
  have hL : W1.heap[w.heap.size + 1]? = some (.loop (loopRec fn a.tmps ps assign body w.heap.size .ready none)) := by
    have := World.alloc_heap_new (w.alloc (.deferred (some []))) (.loop (loopRec fn a.tmps ps assign body w.heap.size .ready none))
    rw [World.size_alloc] at this
    rw [← hW1]
    exact this
  have hD : W1.heap[w.heap.size]? = some (.deferred (some [])) := by
    rw [← hW1, Below.heap_alloc _ _ _ (by simp)]
    exact World.alloc_heap_new w _
  have hI1 : I 0 W1 := by rw [← hW1]; exact hI.alloc _ (hI.alloc _ h0)
  have hB : Below w.heap.size w W1 := by rw [← hW1]; exact ((Below.refl _ w).alloc (Nat.le_refl _) _).alloc (by simp) _
  refine ⟨w.heap.size + 1, [{ target := .collected w.heap.size, args := #[] }], W1, { target := .fn (.func gf) lb, args := #[.func (.yield (w.heap.size + 1)) #[] #[]] }, W1, gf, #[.func (.yield (w.heap.size + 1)) #[] #[]] ++ lb, W1, ?_, ?_, ?_, ?_, fun _ => h1, ?_⟩
  · rw [← hW1, hro]
    exact run_enterLoop_outer _ _ _ _ _
  · simp only [resolve, hg]
    simp [go_sem]
  · intro f' hf'
    simp [Target.leads] at hf'
    subst hf'
    exact hFg
  · simp [invoke, go_sem, eg]
  refine (hit (w.heap.size + 1) (fun k W => I k W ∧ W.heap[w.heap.size + 1]? = some (.loop (loopRec fn a.tmps ps assign body w.heap.size .ready none)) ∧ W.heap[w.heap.size]? = some (.deferred (some [])))
    (fun W => ∃ id, Ix id W ∧ W.heap[w.heap.size + 1]? = some (.loop (loopRec fn a.tmps ps assign body w.heap.size .done (some (.exit id)))) ∧ W.heap[w.heap.size]? = some (.deferred (some []))) W1 hB ?_ ⟨hI1, hL, hD⟩).mono ?_
  · rintro k hk V ⟨hi, hl, hd⟩
    exact round_idx (Kp := Kp) hfn (fun h k => hKt h k) hKb hI hIx (hAx k) (hps k hk) hl hd (fun K hK => hassign _ k V K hk hi hK) (fun a' U hr hiU haU => hbody _ k a' U hk hr hiU haU)
  · rintro e W2 ⟨⟨v, rfl⟩, (⟨hi, hl, hd⟩ | ⟨id, hi, hl, hd⟩)⟩
    · exact ⟨none, _, run_endLoop hl (by simp [loopRec]), hdone _ _ (Nat.le_refl _) (hI.putObj _ hi (by omega) hl rfl) ((World.putObj_heap_other (by omega)).trans hd)⟩
    · exact ⟨some (.exit id), _, run_endLoop hl (by simp [loopRec]), hstop _ id _ (Nat.le_refl _) (hIx.putObj _ hi (by omega) hl rfl) ((World.putObj_heap_other (by omega)).trans hd)⟩

end Go.Proofs.YtleomppgkikhnaaGreat
