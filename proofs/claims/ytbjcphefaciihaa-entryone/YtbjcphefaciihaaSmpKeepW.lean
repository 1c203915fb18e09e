/-
  What is ahead, kept by a closure: two variables in blocks of their own.
-/
import Derived.Test.YtbjcphefaciihaaSmpCheckW
import Derived.OneCell
import Derived.Test.YtbjcphefaciihaaCalm
import Derived.Test.YtbjcphefaciihaaPutW
namespace Go.Proofs.Ytbjcphefaciihaa
open Go.RowKit
open Smp (Sm)

/-- The sample ahead lies in block A, its step in block A'. -/
def Keep (w : World) (A A' : Nat) (a : Sm) (st : Int) : Prop :=
  A ≠ A' ∧ w.heap[A]? = some (.cells #[.int .u64 a.1, .int .i64 a.2] 67 (0, 0)) ∧ w.heap[A']? = some (.cells #[.int .u64 st] 38 (0, 0))
theorem Keep.lt {w : World} {A A' : Nat} {a : Sm} {st : Int} (h : Keep w A A' a st) : A < w.heap.size ∧ A' < w.heap.size :=
  ⟨(Array.getElem?_eq_some_iff.1 h.2.1).1, (Array.getElem?_eq_some_iff.1 h.2.2).1⟩
theorem Keep.cells {w : World} {A A' : Nat} {a : Sm} {st : Int} (h : Keep w A A' a st) :
    w.cell? ⟨A, 0, none⟩ = some (.int .u64 a.1) ∧ w.cell? ⟨A, 1, none⟩ = some (.int .i64 a.2) ∧ w.cell? ⟨A', 0, none⟩ = some (.int .u64 st) ∧ (∀ o, w.frozen? ⟨A, o, none⟩ = false) ∧ (∀ o, w.frozen? ⟨A', o, none⟩ = false) := by
  obtain ⟨h0, h1, h2⟩ := h
  refine ⟨?_, ?_, ?_, fun o => ?_, fun o => ?_⟩
  · simp [World.cell?, h1]
  · simp [World.cell?, h1]
  · simp [World.cell?, h2]
  · simp [World.frozen?, h1]
  · simp [World.frozen?, h2]
theorem Keep.below {w w' : World} {A A' : Nat} {a : Sm} {st : Int} (h : Keep w A A' a st) (hb : Below w.heap.size w w') : Keep w' A A' a st :=
  ⟨h.1, (hb.block A h.lt.1).trans h.2.1, (hb.block A' h.lt.2).trans h.2.2⟩

/-- Another sample is ahead; nothing else has changed. -/
def Upd (w w' : World) (A A' : Nat) (x : Sm) (st : Int) : Prop :=
  Keep w' A A' x st ∧ (∀ b, b < w.heap.size → b ≠ A → b ≠ A' → w'.heap[b]? = w.heap[b]?) ∧ w'.os = w.os ∧ w'.tape = w.tape ∧ w'.output = w.output ∧ w.heap.size ≤ w'.heap.size
theorem Upd.later {w w1 w2 : World} {A A' : Nat} {x : Sm} {st : Int} (h : Upd w w1 A A' x st) (hb : Below w1.heap.size w1 w2) : Upd w w2 A A' x st := by
  obtain ⟨h1, h2, h3, h4, h5, h6⟩ := h
  exact ⟨h1.below hb, fun b hl n1 n2 => (hb.block b (by omega)).trans (h2 b hl n1 n2), hb.os.trans h3, hb.tape.trans h4, hb.output.trans h5, Nat.le_trans h6 hb.size⟩
theorem Upd.first {w w1 w2 : World} {A A' : Nat} {x : Sm} {st : Int} (hb : Below w.heap.size w w1) (h : Upd w1 w2 A A' x st) : Upd w w2 A A' x st := by
  obtain ⟨h1, h2, h3, h4, h5, h6⟩ := h
  have := hb.size
  exact ⟨h1, fun b hl n1 n2 => (h2 b (by omega) n1 n2).trans (hb.block b hl), h3.trans hb.os, h4.trans hb.tape, h5.trans hb.output, by omega⟩
theorem Upd.below {w w' : World} {A A' B : Nat} {x : Sm} {st : Int} (h : Upd w w' A A' x st) (hB : B ≤ w.heap.size) (h1 : B ≤ A) (h2 : B ≤ A') : Below B w w' :=
  ⟨h.2.2.1, h.2.2.2.1, h.2.2.2.2.1, h.2.2.2.2.2, fun k hk => h.2.1 k (by omega) (by omega) (by omega)⟩
theorem Upd.own {w w' : World} {A A' B : Nat} {x : Sm} {st : Int} (h : Upd w w' A A' x st) {v : Value} {ss : List Sm} (ho : OwnS w B v ss) (n1 : v.ownBlock ≠ some A) (n2 : v.ownBlock ≠ some A') : OwnS w' B v ss := by
  refine ⟨ho.1, ?_⟩
  rcases ho.2 with h0 | ⟨g, cap, cur, hv, hB, hg, hr⟩
  · exact .inl h0
  · subst hv
    refine .inr ⟨g, cap, cur, rfl, hB, (h.2.1 g (Array.getElem?_eq_some_iff.1 hg).1 (fun e => n1 ?_) (fun e => n2 ?_)).trans hg, hr⟩
    · rw [e]; rfl
    · rw [e]; rfl
/-- A row of two and more lies in neither. -/
theorem own_apart {w : World} {A A' B : Nat} {x : Sm} {st : Int} (h : Keep w A A' x st) {v : Value} {ss : List Sm} (ho : OwnS w B v ss) (h2 : 2 ≤ ss.length) : v.ownBlock ≠ some A ∧ v.ownBlock ≠ some A' := by
  rcases ho.2 with ⟨_, h0⟩ | ⟨g, cap, cur, rfl, hB, hg, hnc, _, hcs, _⟩
  · omega
  · have key : ∀ C (cs : Array Value) t, w.heap[C]? = some (.cells cs t (0, 0)) → cs.size ≤ 2 → (Value.slice (some ⟨g, 0, none⟩) ss.length cap).ownBlock ≠ some C := by
      intro C cs t hC hs e
      simp only [Value.ownBlock, Option.some.injEq] at e
      subst e
      rw [hg] at hC
      simp only [Option.some.injEq, Obj.cells.injEq] at hC
      rw [hC.1] at hcs
      omega
    exact ⟨key A _ _ h.2.1 (Nat.le_refl _), key A' _ _ h.2.2 (by show 1 ≤ 2; omega)⟩

theorem set_block {w : World} {g j : Nat} {cs : Array Value} {t : TypeId} (v : Value) (h : w.heap[g]? = some (.cells cs t (0, 0))) : (w.setCell ⟨g, j, none⟩ v).heap[g]? = some (.cells (cs.setIfInBounds j v) t (0, 0)) := heap_setCell_same w g j cs t v h
theorem upd_set {w : World} {A A' : Nat} {a : Sm} {st : Int} (h : Keep w A A' a st) (x : Sm) (st' : Int) :
    Upd w (((w.setCell ⟨A, 0, none⟩ (.int .u64 x.1)).setCell ⟨A, 1, none⟩ (.int .i64 x.2)).setCell ⟨A', 0, none⟩ (.int .u64 st')) A A' x st' := by
  obtain ⟨h0, h1, h2⟩ := h
  refine ⟨⟨h0, ?_, ?_⟩, fun b _ n1 n2 => ?_, rfl, rfl, rfl, by simp⟩
  · rw [heap_setCell_other _ _ _ _ h0, set_block _ (set_block _ h1)]; rfl
  · rw [set_block (cs := #[.int .u64 st]) (t := 38)]
    · rfl
    · rw [heap_setCell_other _ _ _ _ (Ne.symm h0), heap_setCell_other _ _ _ _ (Ne.symm h0)]; exact h2
  · rw [heap_setCell_other _ _ _ _ n2, heap_setCell_other _ _ _ _ n1, heap_setCell_other _ _ _ _ n1]
theorem upd_set' {w : World} {A A' : Nat} {a : Sm} {st : Int} (h : Keep w A A' a st) (x : Sm) (st' : Int) :
    Upd w (((w.setCell ⟨A', 0, none⟩ (.int .u64 st')).setCell ⟨A, 0, none⟩ (.int .u64 x.1)).setCell ⟨A, 1, none⟩ (.int .i64 x.2)) A A' x st' := by
  obtain ⟨h0, h1, h2⟩ := h
  refine ⟨⟨h0, ?_, ?_⟩, fun b _ n1 n2 => ?_, rfl, rfl, rfl, by simp⟩
  · rw [set_block (cs := #[.int .u64 x.1, .int .i64 a.2]) (t := 67)]
    · rfl
    · rw [set_block (cs := #[.int .u64 a.1, .int .i64 a.2]) (t := 67)]
      · rfl
      · rw [heap_setCell_other _ _ _ _ h0]; exact h1
  · rw [heap_setCell_other _ _ _ _ (Ne.symm h0), heap_setCell_other _ _ _ _ (Ne.symm h0), set_block _ h2]; rfl
  · rw [heap_setCell_other _ _ _ _ n1, heap_setCell_other _ _ _ _ n1, heap_setCell_other _ _ _ _ n2]

theorem bs_two (a b : List UInt8) : Num.bs a ++ Num.bs b = Num.bs (a ++ b) := by rw [bs_append, Num.bs_toList]
theorem sret_s {a b : ByteArray} (h : a = b) : Ending.returned (.string a) = .returned (.string b) := by rw [h]
theorem w64 (x : Int) : wrap64 x = Smp.i x := by unfold wrap64 Smp.i; omega
theorem i_u (x : Int) : Smp.i (Smp.u x) = Smp.i x := by unfold Smp.i Smp.u; omega
theorem u_i (x y : Int) : Smp.u (x + Smp.u y) = Smp.u (x + y) := by unfold Smp.u; omega
theorem keep_new (w : World) (o : Obj) (t v : Int) : Keep (((w.alloc o).alloc (.cells #[.int .u64 t, .int .i64 v] 67)).alloc (.cells #[.int .u64 0] 38)) (w.heap.size + 1) (w.heap.size + 1 + 1) (t, v) 0 := by
  refine ⟨by omega, ?_, ?_⟩
  · show (((w.heap.push _).push _).push _)[w.heap.size + 1]? = _
    rw [Array.getElem?_push, if_neg (by simp), Array.getElem?_push, if_pos (by simp)]
  · show (((w.heap.push _).push _).push _)[w.heap.size + 1 + 1]? = _
    rw [Array.getElem?_push, if_pos (by simp)]
theorem bel2 (w : World) (o1 o2 : Obj) : Below w.heap.size w ((w.alloc o1).alloc o2) :=
  ((Below.refl _ _).alloc (Nat.le_refl _) o1).alloc (by simp) o2
theorem bel3 (w : World) (o1 o2 o3 : Obj) : Below w.heap.size w (((w.alloc o1).alloc o2).alloc o3) :=
  (((Below.refl _ _).alloc (Nat.le_refl _) o1).alloc (by simp) o2).alloc (by simp; omega) o3

set_option maxRecDepth 100000 in
set_option maxHeartbeats 800000 in
theorem changesFrom_any (t v : Int) (w : World) :
    Calls Try.prog 53 #[.agg #[.int .u64 t, .int .i64 v]] w fun e w' => ∃ A A', e = .returned (.func (.func 73) #[] #[.pointer (some ⟨A, 0, none⟩), .pointer (some ⟨A', 0, none⟩)]) ∧ w.heap.size ≤ A ∧ w.heap.size ≤ A' ∧ Keep w' A A' (t, v) 0 ∧ Below w.heap.size w w' := by
  go_enter Try.func53, Try.ntmps53
  go_wp2
  go_ret
  exact ⟨_, _, rfl, by omega, by omega, keep_new _ _ _ _, bel3 _ _ _ _⟩
set_option maxRecDepth 100000 in
set_option maxHeartbeats 800000 in
theorem change_any (A A' : Nat) (a : Sm) (st : Int) (x : Sm) (w : World) (hk : Keep w A A' a st) :
    Calls Try.prog 73 #[.agg #[.int .u64 x.1, .int .i64 x.2], .pointer (some ⟨A, 0, none⟩), .pointer (some ⟨A', 0, none⟩)] w fun e w' =>
      e = .returned (.agg #[.int .i64 (Smp.i (Smp.stp a x - st)), .int .i64 (Smp.i (x.2 - a.2))]) ∧ Upd w w' A A' x (Smp.stp a x) := by
  obtain ⟨c1, c2, c3, f1, f2⟩ := hk.cells
  obtain ⟨l1, l2⟩ := hk.lt
  have l3 : A < w.heap.size + 1 := by omega
  have l4 : A < w.heap.size + 1 + 1 := by omega
  have l5 : A' < w.heap.size + 1 := by omega
  have l6 : A' < w.heap.size + 1 + 1 := by omega
  have n1 : ¬ A = A' := hk.1
  have n2 : ¬ A' = A := fun e => hk.1 e.symm
  have HK := hide hk
  clear hk
  go_enter Try.func73, Try.ntmps73
  go_wp2
  refine bodyPost_ret (v := .agg #[.int .i64 (wrap64 (IntKind.u64.wrap (IntKind.u64.wrap (x.1 - a.1) - st))), .int .i64 (wrap64 (x.2 - a.2))]) (by simp [results, Try.results73, go_sem]) rfl ?_
  refine ⟨?_, ?_⟩
  · rw [wu, wu, w64, w64, i_u]; rfl
  · have hU := upd_set HK.out x (Smp.stp a x)
    rw [wu]
    exact hU.later (bel3 _ _ _ _)
set_option maxRecDepth 100000 in
set_option maxHeartbeats 800000 in
theorem samplesFrom_any (t v : Int) (w : World) :
    Calls Try.prog 58 #[.agg #[.int .u64 t, .int .i64 v]] w fun e w' => ∃ A A', e = .returned (.func (.func 76) #[] #[.pointer (some ⟨A', 0, none⟩), .pointer (some ⟨A, 0, none⟩)]) ∧ w.heap.size ≤ A ∧ w.heap.size ≤ A' ∧ Keep w' A A' (t, v) 0 ∧ Below w.heap.size w w' := by
  go_enter Try.func58, Try.ntmps58
  go_wp2
  go_ret
  exact ⟨_, _, rfl, by omega, by omega, keep_new _ _ _ _, bel3 _ _ _ _⟩
set_option maxRecDepth 100000 in
set_option maxHeartbeats 800000 in
theorem sample_any (A A' : Nat) (a : Sm) (st d e : Int) (w : World) (hk : Keep w A A' a st) :
    Calls Try.prog 76 #[.agg #[.int .i64 d, .int .i64 e], .pointer (some ⟨A', 0, none⟩), .pointer (some ⟨A, 0, none⟩)] w fun r w' =>
      r = .returned (.agg #[.int .u64 (Smp.nxt a st d e).1, .int .i64 (Smp.nxt a st d e).2]) ∧ Upd w w' A A' (Smp.nxt a st d e) (Smp.u (st + d)) := by
  obtain ⟨c1, c2, c3, f1, f2⟩ := hk.cells
  obtain ⟨l1, l2⟩ := hk.lt
  have l3 : A < w.heap.size + 1 := by omega
  have l4 : A < w.heap.size + 1 + 1 := by omega
  have l5 : A' < w.heap.size + 1 := by omega
  have l6 : A' < w.heap.size + 1 + 1 := by omega
  have n1 : ¬ A = A' := hk.1
  have n2 : ¬ A' = A := fun e => hk.1 e.symm
  have HK := hide hk
  clear hk
  go_enter Try.func76, Try.ntmps76
  go_wp2
  refine bodyPost_ret (v := .agg #[.int .u64 (IntKind.u64.wrap (a.1 + IntKind.u64.wrap (st + IntKind.u64.wrap d))), .int .i64 (wrap64 (a.2 + e))]) (by simp [results, Try.results76, go_sem]) rfl ?_
  have e1 : IntKind.u64.wrap (st + IntKind.u64.wrap d) = Smp.u (st + d) := by rw [wu, wu, u_i]
  have e2 : IntKind.u64.wrap (a.1 + IntKind.u64.wrap (st + IntKind.u64.wrap d)) = (Smp.nxt a st d e).1 := by rw [e1, wu]; rfl
  have e3 : wrap64 (a.2 + e) = (Smp.nxt a st d e).2 := by rw [w64]; rfl
  rw [e2, e3, e1]
  exact ⟨rfl, (upd_set' HK.out (Smp.nxt a st d e) (Smp.u (st + d))).later (bel2 _ _ _)⟩
set_option maxRecDepth 100000 in
set_option maxHeartbeats 800000 in
theorem putChange_any (d e : Int) (w : World) (d0 : -9223372036854775808 ≤ d) (d1 : d ≤ 9223372036854775807) (e0 : -9223372036854775808 ≤ e) (e1 : e ≤ 9223372036854775807) :
    Calls Try.prog 54 #[.agg #[.int .i64 d, .int .i64 e]] w fun r w' => r = .returned (.string (Num.bs (Num.put (Num.zig d) ++ Num.put (Num.zig e)))) ∧ Below w.heap.size w w' := by
  have h1 : (Num.bs (Num.put (Num.zig d))).size ≤ 10 := by rw [Num.bs_size]; exact Num.put_len10 (Num.zig_lt d0 d1)
  have h2 : (Num.bs (Num.put (Num.zig e))).size ≤ 10 := by rw [Num.bs_size]; exact Num.put_len10 (Num.zig_lt e0 e1)
  go_enter Try.func54, Try.ntmps54
  have hal := (Below.refl w.heap.size w).alloc (Nat.le_refl _) (Obj.cells #[.int .i64 d, .int .i64 e] 83)
  go_wp2_with fail
  obtain ⟨wr, hwr⟩ : ∃ wr, wr = w.alloc (Obj.cells #[.int .i64 d, .int .i64 e] 83) := ⟨_, rfl⟩
  have x1 : wr.cell? ⟨w.heap.size, 0, none⟩ = some (.int .i64 d) := by rw [hwr]; simp
  have x2 : wr.cell? ⟨w.heap.size, 1, none⟩ = some (.int .i64 e) := by rw [hwr]; simp
  rw [← hwr] at hal ⊢
  clear hwr
  have inh : Nonempty (Ext wr) := Ext.some wr
  have y1 : ∀ x : Ext wr, x.w.cell? ⟨w.heap.size, 0, none⟩ = some (.int .i64 d) := fun x => x.cell x1
  have y2 : ∀ x : Ext wr, x.w.cell? ⟨w.heap.size, 1, none⟩ = some (.int .i64 e) := fun x => x.cell x2
  refine wp_region_calm (by kernel_rfl) (by kernel_rfl) ?_
  repeat (go_big_quiet_step ((go_at_call 52; exact calm_of (putInt_any _ _ (by assumption) (by assumption)))))
  refine wpQuiet_nil ?_
  intro _ hw'
  obtain ⟨xq, rfl⟩ := hw'
  have hbx := bl hal xq.below
  generalize xq.w = wc at *
  go_wp2
  go_ret
  exact ⟨sret_s (bs_two _ _), hbx⟩

end Go.Proofs.Ytbjcphefaciihaa
