/-
  What a file had behind so many of its moments.
-/
import Derived.Test.YtleomppgkikhnaaGreatDskMomW
import Derived.Test.YtleomppgkikhnaaGreatDskRelW
import Derived.Test.YtleomppgkikhnaaGreatGrowR
import Derived.Deep.RegionHeld3
namespace Go.Proofs.YtleomppgkikhnaaGreat
open Go.RowKit Go.Shelf
open Dsk (Nm Hold Fl Ct By Dk FRel NRel)

/-- An 'append' whose run is known, in a fence. -/
theorem wpListIn_app_run {F : Fence} {n : Nat} {P : Program} {w w' : World} {ops : Array Oper} {rest : List Oper} {o : Oper} {a : Act} {Q : Exit → Act → World → Prop} (hgd : o.guard = none) (s x : Operand) (t u : TypeId)
    (ho : o.op = .call { callee := .builtin .append, args := #[s, x], argTypes := #[t, u] }) {v y v' : Value} (hs : a.eval s = v) (hx : a.eval x = y) (hr : (Builtin.append_ #[t, u] o.type #[v, y]).run P w = .ok v' w')
    (h : wpListIn F n P ops Q rest (a.put o.dst v') w') : wpListIn F n P ops Q (o :: rest) a w := by
  refine wpListIn_plain hgd fun K hK => ?_
  unfold Oper.wpIn
  refine ⟨?_, ?_⟩
  · simp [Oper.about, ho, resolve, Target.leads, Sem.run_pure]
  · rw [Oper.semAt_plain F _ _ (by rw [ho]; intro c hc'; cases hc')]
    simp [execOp, ho, resolve, invoke, builtin, hs, hx, hr, Result.andThen]
    exact hK _ _ h

theorem cloneB_at {w : World} {v : Value} {t : By} (h : TextAt w v t) (hl : t.length ≤ 1000000000) :
    Calls Tryz.prog 77 #[v] w fun e w' => ∃ v', e = .returned v' ∧ TextAt w' v' t ∧ (∀ g, rowB v' = some g → w.heap.size ≤ g ∧ g < w'.heap.size) ∧ Below w.heap.size w w' := by
  obtain ⟨i, hi, hz, hs1, hby⟩ := u8_info
  have key : ∀ (b off n c : Nat) (hn : n = t.length) (hc : ∀ j u, (bytesV t)[j]? = some u → w.cell? ⟨b, off + j, none⟩ = some u), Calls Tryz.prog 77 #[.slice (some ⟨b, off, none⟩) n c] w fun e w' => ∃ v', e = .returned v' ∧ TextAt w' v' t ∧ (∀ g, rowB v' = some g → w.heap.size ≤ g ∧ g < w'.heap.size) ∧ Below w.heap.size w w' := fun b off n c hn hc => by
    subst hn
    refine (AnyE.slices_Clone Tryz.cloneBL i (.int .u8 0) 1 1 hi hz hs1 hby rfl (by omega) (fun W => size_u8 W) b off t.length c (bytesV t) w (by simp [bytesV]) (by unfold maxLen; omega) (by omega) hc (fun u hu => by
      simp only [bytesV, List.mem_map] at hu
      obtain ⟨x, _, rfl⟩ := hu
      rfl)).mono ?_
    rintro e w' ⟨v', rfl, ho, _, hb⟩
    refine ⟨v', rfl, TextAt.of_own ho rfl rfl, fun g e => ?_, hb⟩
    have : v'.ownBlock = some g := by
      rcases ho.2 with ⟨rfl, _⟩ | ⟨g', cap, cur, rfl, _⟩
      · cases e
      · cases cap with
        | zero => cases e
        | succ c => exact e
    exact ho.lt g this
  rcases h with ⟨rfl, a, rfl, hsp⟩ | ⟨g, cap, cur, rfl, h, h1, h2, h3, h4⟩
  · rcases a with _ | ⟨b, off, sp⟩
    · refine (AnyE.slices_Clone_nil Tryz.cloneBL 0 0 w).mono ?_
      rintro e w' ⟨rfl, rfl⟩
      exact ⟨_, rfl, .inl ⟨rfl, none, rfl, fun x e => by cases e⟩, fun g e => (by cases e), Below.refl _ _⟩
    · obtain rfl : sp = none := hsp _ rfl
      exact key b off 0 0 rfl (fun j u hu => by simp [bytesV] at hu)
  · refine key g 0 _ _ rfl (fun j u hu => ?_)
    have hj : j < t.length := by
      have := (List.getElem?_eq_some_iff.1 hu).1
      simpa [bytesV] using this
    rw [Nat.zero_add]
    refine cell_of h j ?_
    rw [← h4, List.getElem?_take_of_lt hj] at hu
    simpa using hu

/-- The k-th round's cut is the k-th one from the end. -/
theorem bcut_rounds (n : Nat) (hn : 1 ≤ n) (Bs g cap : Nat) (l : List Ct) (a : Option Addr) (ha : 0 < l.length → a = some ⟨g, 0, none⟩) (Kp : World → World → Prop) (hK1 : 0 < l.length → ∀ A B, Kp A B → B.heap[Bs]? = A.heap[Bs]? ∧ B.heap[g]? = A.heap[g]?) (hm : l.length ≤ 1000000000)
    (w : World) (hBs : w.heap[Bs]? = some (.cells #[.slice a l.length cap] 72 (0, 0))) (hg : 0 < l.length → g < w.heap.size) (hel : ∀ j (hj : j < l.length), w.cell? ⟨g, j * 2, none⟩ = some (.int .i64 (l[j].1 : Int)) ∧ w.cell? ⟨g, j * 2 + 1, none⟩ = some (.string (Num.bs l[j].2))) :
    Rounds Fence.wide n Tryz.prog 95 #[.pointer (some ⟨Bs, 0, none⟩)] l.length (fun k => #[.int .i64 ((l.length - 1 - k : Nat) : Int), .agg #[.int .i64 ((l.reverse.getD k (0, [])).1 : Int), .string (Num.bs (l.reverse.getD k (0, [])).2)]]) Kp w := fun lp J Jx W hW hY h0 => by
  have hr : ∀ j, j < l.length → l.reverse.getD (l.length - 1 - j) (0, []) = l.getD j (0, []) := fun j hj => by
    rw [List.getD_eq_getElem?_getD, List.getD_eq_getElem?_getD, List.getElem?_reverse (by omega), show l.length - 1 - (l.length - 1 - j) = j by omega]
  refine (bcut1_in (α := Nat) n hn lp Bs g 0 cap l.length a ha (fun j => .int .i64 ((l.getD j (0, [])).1 : Int)) (fun j => .string (Num.bs (l.getD j (0, [])).2)) (fun j => j) (fun j => #[.int .i64 (j : Int), .agg #[.int .i64 ((l.getD j (0, [])).1 : Int), .string (Num.bs (l.getD j (0, [])).2)]]) (fun j hj => rfl) Kp hK1 hm
    (fun ys V => J ys.length V) (fun _ V => Jx V) W (fun k hk V hV => ?_) (cell_of ((hW.block Bs (Array.getElem?_eq_some_iff.1 hBs).1).trans hBs) 0 rfl) (fun j hj => ?_) h0).mono ?_
  · have hl : ((((List.range l.length).drop (k + 1)).reverse.map (fun j => j))).length = l.length - 1 - k := by simp; omega
    simp only [List.length_append, hl, List.length_singleton] at hV ⊢
    have := hY (l.length - 1 - k) (by omega) V hV
    simp only [show l.length - 1 - (l.length - 1 - k) = k by omega, hr k hk] at this
    exact this
  · rw [Nat.zero_add]
    obtain ⟨e1, e2⟩ := hel j hj
    have e : l.getD j (0, []) = l[j] := by rw [List.getD_eq_getElem?_getD, List.getElem?_eq_getElem hj]; rfl
    rw [e]
    exact ⟨(hW.cell (p := ⟨g, j * 2, none⟩) (hg (by omega))).trans e1, (hW.cell (p := ⟨g, j * 2 + 1, none⟩) (hg (by omega))).trans e2⟩
  · rintro e V ⟨h1, (⟨ys, hy, h2⟩ | ⟨_, _, h2⟩)⟩
    · have : ys.length = l.length := by rw [show ys = _ from hy]; simp
      rw [this] at h2
      exact ⟨h1, .inl h2⟩
    · exact ⟨h1, .inr h2⟩

theorem box1 {w wc : World} {z : Value} {t : TypeId} (h : Below (w.drew.alloc (.cells #[z] t)).heap.size (w.drew.alloc (.cells #[z] t)) wc) : wc.heap[w.heap.size]? = some (.cells #[z] t (0, 0)) :=
  (h.block _ (by simp)).trans (World.alloc_heap_new w.drew _)
theorem box_alloc {wc : World} {k : Nat} {z : Value} {t : TypeId} (h : wc.heap[k]? = some (.cells #[z] t (0, 0))) (o : Obj) : (wc.alloc o).cell? ⟨k, 0, none⟩ = some z ∧ (wc.alloc o).frozen? ⟨k, 0, none⟩ = false := by
  have := (Below.heap_alloc wc o k (Array.getElem?_eq_some_iff.1 h).1).trans h
  exact ⟨cell_of this 0 rfl, frozen_of this 0⟩
theorem box2 {w wc : World} {z y : Value} {t u : TypeId} (h : Below ((w.drew.alloc (.cells #[z] t)).alloc (.cells #[y] u)).heap.size ((w.drew.alloc (.cells #[z] t)).alloc (.cells #[y] u)) wc) : wc.heap[w.heap.size]? = some (.cells #[z] t (0, 0)) ∧ wc.heap[w.heap.size + 1]? = some (.cells #[y] u (0, 0)) := by
  refine ⟨(h.block _ (by simp; omega)).trans ((Below.heap_alloc _ _ _ (by simp)).trans (World.alloc_heap_new w.drew _)), (h.block _ (by simp)).trans ?_⟩
  have := World.alloc_heap_new (w.drew.alloc (.cells #[z] t)) (.cells #[y] u)
  rw [World.size_alloc] at this
  exact this
/-- What lies there when the loop begins: the bytes in a row of the call's own, boxed at x; how many were appended, boxed at y. -/
structure Start (w w' : World) (v : Value) (t : By) (gr x y : Nat) : Prop where
  text : TextAt w' v t
  row : ∀ g, rowB v = some g → w.heap.size ≤ g ∧ g < w'.heap.size
  bx : w'.heap[x]? = some (.cells #[v] 69 (0, 0))
  bg : w'.heap[y]? = some (.cells #[.int .i64 (gr : Int)] 3 (0, 0))
  hx : w.heap.size ≤ x
  hy : w.heap.size ≤ y
  below : Below w.heap.size w w'
theorem Start.of {w wc w' : World} {v : Value} {t : By} {gr x y : Nat} (HB : Below w.heap.size w wc) (h1 : TextAt wc v t) (hr : ∀ g, rowB v = some g → w.heap.size ≤ g ∧ g < wc.heap.size ∧ g ≠ x ∧ g ≠ y) (hs : Only (fun k => k = x ∨ k = y) wc w')
    (bx : w'.heap[x]? = some (.cells #[v] 69 (0, 0))) (bg : w'.heap[y]? = some (.cells #[.int .i64 (gr : Int)] 3 (0, 0))) (hx : w.heap.size ≤ x) (hy : w.heap.size ≤ y) : Start w w' v t gr x y :=
  ⟨h1.keep (fun g e => hs.block g (hr g e).2.1 (fun k => by have := (hr g e).2.2; rcases k with k | k <;> omega)), fun g e => ⟨(hr g e).1, Nat.lt_of_lt_of_le (hr g e).2.1 hs.size⟩, bx, bg, hx, hy,
    HB.trans ⟨hs.os, hs.tape, hs.output, hs.size, fun k hk => hs.block k (Nat.lt_of_lt_of_le hk HB.size) (fun e => by rcases e with e | e <;> omega)⟩⟩
theorem FileAt.below {S : Nat → Prop} {w w' : World} {b i : Nat} {F : Fl} {tv kv : Value} (h : FileAt S w b i F tv kv) (hb : Below w.heap.size w w') : FileAt S w' b i F tv kv :=
  h.keep' (hb.block b (Array.getElem?_eq_some_iff.1 h.blk).1) (fun g e => hb.block g (by obtain ⟨cur, hc⟩ := h.text.kind e; exact (Array.getElem?_eq_some_iff.1 hc).1)) (fun g e => hb.block g (by obtain ⟨cur, hc⟩ := own_kind h.cuts e; exact (Array.getElem?_eq_some_iff.1 hc).1))
theorem Only.alloc {S : Nat → Prop} {a w : World} (h : Only S a w) (o : Obj) : Only S a (w.alloc o) := h.then_below ((Below.refl _ w).alloc (Nat.le_refl _) o)
theorem cuts_moms (F : Fl) : F.cuts.length ≤ Dsk.moms F := by
  have : F.cuts.length ≤ (F.cuts.map (fun c => c.1 + 1)).sum := by
    generalize F.cuts = cs
    induction cs with
    | nil => simp
    | cons c r ih => simp only [List.length_cons, List.map_cons, List.sum_cons]; omega
  unfold Dsk.moms
  omega
/-- The state of the loop: t, of which gr were appended behind the cut ahead, bk moments to go back. -/
structure Loop1 (w W : World) (x y z Bs : Nat) (bo : Obj) (Y : By) (r : List Ct) (t : By) (gr bk : Nat) (v : Value) : Prop where
  eq : Dsk.behindR r t gr bk = Y
  wf : Dsk.wfR r t gr
  back : bk ≤ Dsk.momR r gr
  small : ∀ u ∈ Dsk.histR r t gr, u.length ≤ 1000000000
  mom : Dsk.momR r gr ≤ 1000000000
  text : TextAt W v t
  row : ∀ g, rowB v = some g → w.heap.size ≤ g
  bx : W.heap[x]? = some (.cells #[v] 69 (0, 0))
  bg : W.heap[y]? = some (.cells #[.int .i64 (gr : Int)] 3 (0, 0))
  bb : W.heap[z]? = some (.cells #[.int .i64 (bk : Int)] 3 (0, 0))
  bs : W.heap[Bs]? = some bo
  below : Below w.heap.size w W
theorem Loop1.same {w W W' : World} {x y z Bs : Nat} {bo : Obj} {Y : By} {r : List Ct} {t : By} {gr bk : Nat} {v : Value} (h : Loop1 w W x y z Bs bo Y r t gr bk v) (hb : Below w.heap.size W W') (k : ∀ g, g < W.heap.size → (g = x ∨ g = y ∨ g = z ∨ g = Bs ∨ rowB v = some g) → W'.heap[g]? = W.heap[g]?) : Loop1 w W' x y z Bs bo Y r t gr bk v :=
  have lt : ∀ {g : Nat} {o : Obj}, W.heap[g]? = some o → g < W.heap.size := fun e => (Array.getElem?_eq_some_iff.1 e).1
  ⟨h.eq, h.wf, h.back, h.small, h.mom, h.text.keep (fun g e => k g (by obtain ⟨cur, hc⟩ := h.text.kind e; exact lt hc) (.inr (.inr (.inr (.inr e))))), h.row, (k x (lt h.bx) (.inl rfl)).trans h.bx, (k y (lt h.bg) (.inr (.inl rfl))).trans h.bg, (k z (lt h.bb) (.inr (.inr (.inl rfl)))).trans h.bb, (k Bs (lt h.bs) (.inr (.inr (.inr (.inl rfl))))).trans h.bs, h.below.trans hb⟩
def LoopI (w : World) (x y z Bs : Nat) (bo : Obj) (Y : By) (r : List Ct) (W : World) : Prop := ∃ t gr bk v, Loop1 w W x y z Bs bo Y r t gr bk v
/-- Nothing is to be taken any more but the last bytes. -/
def LoopX (w : World) (x y z Bs : Nat) (bo : Obj) (Y : By) (W : World) : Prop := ∃ t gr bk v, Loop1 w W x y z Bs bo Y [] t gr bk v
theorem LoopI.own {w : World} {x y z Bs : Nat} {bo : Obj} (hbo : bo.isCells = true) {Y : By} {n : Nat} (hn : w.heap.size ≤ n) {β : Type} (r : β → List Ct) : OwnFrom n (fun k W => LoopI w x y z Bs bo Y (r k) W) := fun k W W' row ⟨t, gr, bk, v, h⟩ hg hr => by
  refine ⟨t, gr, bk, v, h.same ⟨hg.os, hg.tape, hg.output, hg.size, fun i hi => hg.block i (by have := h.below.size; omega) (fun e => by have := (hr i e.symm).1; omega)⟩ (fun g hgl hk => hg.block g hgl (fun e => ?_))⟩
  obtain ⟨_, o, ho, hc⟩ := hr g e.symm
  rcases hk with rfl | rfl | rfl | rfl | hk
  · rw [h.bx] at ho; cases ho; cases hc
  · rw [h.bg] at ho; cases ho; cases hc
  · rw [h.bb] at ho; cases ho; cases hc
  · rw [h.bs] at ho; cases ho; rw [hbo] at hc; cases hc
  · obtain ⟨cur, hcc⟩ := h.text.kind hk
    rw [hcc] at ho; cases ho; cases hc
theorem Loop1.ends {w X : World} {x y z Bs D : Nat} {bo o' : Obj} {Y : By} {t : By} {gr bk q uC : Nat} {uA : Option Addr} (h : Loop1 w X x y z Bs bo Y [] t gr bk (.slice uA t.length uC)) (hq : t.length - bk = q) (hD : w.heap.size ≤ D) (hd : X.heap[D]? = some (.deferred (some []))) :
    TextAt (X.putObj D o') (.slice uA q uC) Y ∧ (∀ g, rowB (.slice uA q uC) = some g → w.heap.size ≤ g ∧ g < (X.putObj D o').heap.size) ∧ Below w.heap.size w (X.putObj D o') := by
  have hb : bk ≤ gr := h.back
  have hg : gr ≤ t.length := h.wf
  obtain ⟨h1, h2⟩ := h.text.take (n := q) (by omega)
  have hY : t.take q = Y := by rw [← h.eq, ← hq]; rfl
  rw [hY] at h1
  have hk : ∀ g, rowB (.slice uA q uC) = some g → g ≠ D ∧ g < X.heap.size := fun g e => by
    obtain ⟨cur, hc⟩ := h1.kind e
    refine ⟨fun k => ?_, (Array.getElem?_eq_some_iff.1 hc).1⟩
    subst k
    rw [hd] at hc
    cases hc
  refine ⟨h1.keep (fun g e => World.putObj_heap_other (hk g e).1), fun g e => ⟨h.row g (h2 ▸ e), by simp [World.putObj]; exact (hk g e).2⟩, h.below.trans ⟨rfl, rfl, rfl, by simp [World.putObj], fun i hi => World.putObj_heap_other (by omega)⟩⟩
structure KpB (n Bs : Nat) (A B : World) : Prop where
  below : Below n A B
  bs : B.heap[Bs]? = A.heap[Bs]?
theorem KpB.trans {n Bs : Nat} {A B C : World} (h : KpB n Bs A B) (k : KpB n Bs B C) : KpB n Bs A C := ⟨h.below.trans k.below, k.bs.trans h.bs⟩
theorem KpB.refl (n Bs : Nat) (A : World) : KpB n Bs A A := ⟨Below.refl _ _, rfl⟩
theorem KpB.put {n Bs m : Nat} (h1 : n ≤ m) (h2 : Bs < m) (W : World) (l : Nat) (o o' : Obj) (hl : m ≤ l) (_ : W.heap[l]? = some o) (_ : o.isCells = false) (_ : o.isWalk = false) : KpB n Bs W (W.putObj l o') :=
  ⟨⟨rfl, rfl, rfl, by simp [World.putObj], fun i hi => World.putObj_heap_other (by omega)⟩, World.putObj_heap_other (by omega)⟩
set_option maxRecDepth 100000 in
set_option maxHeartbeats 1000000 in
theorem behind_at {S : Nat → Prop} {w : World} {b i : Nat} {F : Fl} {tv kv : Value} (H : FileAt S w b i F tv kv) (hwf : Dsk.wfR F.cuts.reverse F.text F.grown) (hm : Dsk.moms F ≤ 1000000000) (hts : ∀ x ∈ Dsk.histR F.cuts.reverse F.text F.grown, x.length ≤ 1000000000) (n : Int) (kt : Nat) (hkt : (kt : Int) = min (max n 0) (Dsk.moms F : Int)) :
    Calls Tryz.prog 36 #[.pointer (some ⟨b, 0, none⟩), .int .i64 n] w fun e w' => ∃ v, e = .returned v ∧ TextAt w' v (Dsk.behind F kt) ∧ (∀ g, rowB v = some g → w.heap.size ≤ g ∧ g < w'.heap.size) ∧ Below w.heap.size w w' := by
  obtain ⟨a, c, g, rfl, hlc, hga, hgc⟩ := H.cuts.view
  have c1 : w.cell? ⟨b, 1, none⟩ = some tv := cell_of H.blk 1 rfl
  have c2 : w.cell? ⟨b, 2, none⟩ = some (.slice a F.cuts.length c) := cell_of H.blk 2 rfl
  have c3 : w.cell? ⟨b, 3, none⟩ = some (.int .i64 (F.grown : Int)) := cell_of H.blk 3 rfl
  have hb : b < w.heap.size := (Array.getElem?_eq_some_iff.1 H.blk).1
  have HH := hide H
  clear H
  refine (callsIn_wide (n := 10)).1 ?_
  refine callsIn_of_wp_marks Tryz.func36 rfl trivial ?_ rfl
  simp only [Tryz.ntmps36, List.size_toArray, List.length_cons, List.length_nil, Nat.reduceAdd, Nat.reduceSub, Array.replicate_succ, Array.replicate_zero, List.push_toArray, List.append_toArray, List.nil_append, List.cons_append]
  obtain ⟨tA, tC, htv, htl⟩ := HH.out.text.len
  rw [htv] at c1
  have HT : ∀ W, Below w.heap.size w W → TextAt W (.slice tA F.text.length tC) F.text := fun W hW => htv ▸ HH.out.text.keep (fun g e => hW.block g (by obtain ⟨cur, hc⟩ := HH.out.text.kind e; exact (Array.getElem?_eq_some_iff.1 hc).1))
  have hHT := hide HT
  have htl2 : F.text.length ≤ 1000000000 := hts _ (Dsk.histR_mem _ _ _)
  gi_wp2
  refine wpIn_wide.2 (Code.wp_mono (Q := fun e a' w' => e = .normal ∧ ∃ vA vC x y, a' = { tmps := #[.pointer (some ⟨b, 0, none⟩), .int .i64 n, undef, undef, .slice none 0 0, .pointer (some ⟨x, 0, none⟩), .pointer (some ⟨y, 0, none⟩), undef, undef, undef, undef, .pointer (some ⟨b, 0, none⟩), .pointer (some ⟨b, 0, none⟩), .pointer (some ⟨b, 1, none⟩), .slice tA F.text.length tC, .slice vA F.text.length vC, .pointer (some ⟨b, 0, none⟩), .pointer (some ⟨b, 0, none⟩), .pointer (some ⟨b, 3, none⟩), .int .i64 (F.grown : Int), undef, undef, undef, undef, undef, undef, undef, undef, undef, undef, undef, undef, undef, undef, undef, undef, undef, undef, undef, undef, undef, undef, undef, undef, undef, undef, undef, undef, undef, undef, undef, undef, undef, undef, undef, undef, undef, undef], defers := [] } ∧ Hid (Start w w' (.slice vA F.text.length vC) F.text F.grown x y)) ?post ?walk)
  case post =>
    rintro e a' w2 ⟨rfl, vA, vC, x, y, rfl, HS⟩
    have HF2 : FileAt S w2 b i F tv (.slice a F.cuts.length c) := HH.out.below HS.out.below
    gi_wp2
    refine ⟨trivial, ?_⟩
    refine (callsIn_wide.2 (moments_at HF2 (by omega))).mono ?_
    rintro e w3 ⟨rfl, hb3⟩
    clear HF2
    have hb3w : Below w.heap.size w w3 := HS.out.below.trans (hb3.mono HS.out.below.size)
    have k2 : ∀ o, (w3.alloc o).cell? ⟨b, 2, none⟩ = some (.slice a F.cuts.length c) := fun o => (World.cell?_of_block (w := w3) (a := ⟨b, 2, none⟩) (Below.heap_alloc w3 o b (Nat.lt_of_lt_of_le hb hb3w.size))).trans ((hb3w.cell (p := ⟨b, 2, none⟩) hb).trans c2)
    have hktm : kt ≤ Dsk.moms F := by omega
    obtain ⟨bk, hbk⟩ : ∃ bk : Nat, Dsk.moms F - kt = bk := ⟨_, rfl⟩
    have hbi : (Dsk.moms F : Int) - (kt : Int) = (bk : Int) := by omega
    clear c1 c2 c3 HT
    gi_wp2
    refine ⟨trivial, ?_⟩
    refine (callsIn_wide.2 (within_any _ _ _)).mono ?_
    rw [← hkt]
    rintro e w4 ⟨rfl, hw⟩
    rw [hw]
    clear hw hkt
    gi_wp2
    refine ⟨trivial, ?_⟩
    refine (callsIn_wide.2 (bcut_any _ _ _ _)).mono ?_
    rintro e w5 ⟨rfl, rfl⟩
    gi_wp2
    have hz3 := hb3w.size
    obtain ⟨W0, hW0⟩ : ∃ W0, (w3.alloc (.cells #[.int .i64 (bk : Int)] 3)).alloc (.cells #[.slice a F.cuts.length c] 72) = W0 := ⟨_, rfl⟩
    have hsz : W0.heap.size = w3.heap.size + 2 := by rw [← hW0]; simp
    have hold : ∀ k, k < w3.heap.size → W0.heap[k]? = w3.heap[k]? := fun k hk => by rw [← hW0, Below.heap_alloc _ _ _ (by simp; omega), Below.heap_alloc _ _ _ hk]
    have hbz : W0.heap[w3.heap.size]? = some (.cells #[.int .i64 (bk : Int)] 3 (0, 0)) := by rw [← hW0, Below.heap_alloc _ _ _ (by simp)]; exact World.alloc_heap_new _ _
    have hbs : W0.heap[w3.heap.size + 1]? = some (.cells #[.slice a F.cuts.length c] 72 (0, 0)) := by
      rw [← hW0]
      have := World.alloc_heap_new (w3.alloc (.cells #[.int .i64 (bk : Int)] 3)) (.cells #[.slice a F.cuts.length c] 72)
      rw [World.size_alloc] at this
      exact this
    have hB0 : Below w.heap.size w W0 := by rw [← hW0]; exact (hb3w.alloc hz3 _).alloc (by simp; omega) _
    have lt2 : ∀ {g : Nat} {o : Obj}, w2.heap[g]? = some o → g < w2.heap.size := fun e => (Array.getElem?_eq_some_iff.1 e).1
    have hz23 := hb3.size
    have hold2 : ∀ g, g < w2.heap.size → W0.heap[g]? = w2.heap[g]? := fun g hg => (hold g (by omega)).trans (hb3.block g hg)
    have hyz : y < w3.heap.size := Nat.lt_of_lt_of_le (lt2 HS.out.bg) hz23
    have hxz : x < w3.heap.size := Nat.lt_of_lt_of_le (lt2 HS.out.bx) hz23
    have hL0 : Loop1 w W0 x y w3.heap.size (w3.heap.size + 1) (.cells #[.slice a F.cuts.length c] 72 (0, 0)) (Dsk.behind F kt) (F.cuts.reverse.drop 0) F.text F.grown bk (.slice vA F.text.length vC) :=
      ⟨by rw [← hbk]; rfl, hwf, by show bk ≤ Dsk.momR F.cuts.reverse F.grown; rw [Dsk.moms_eq]; omega, hts, by show Dsk.momR F.cuts.reverse F.grown ≤ _; rw [Dsk.moms_eq]; exact hm, HS.out.text.keep (fun g e => hold2 g (HS.out.row g e).2), fun g e => (HS.out.row g e).1, (hold2 x (lt2 HS.out.bx)).trans HS.out.bx, (hold2 y (lt2 HS.out.bg)).trans HS.out.bg, hbz, hbs, hB0⟩
    rw [hW0]
    have HGA := hide hga
    have HGC := hide hgc
    have HL0 := hide hL0
    have hx0 := HS.out.hx
    have hy0 := HS.out.hy
    clear hW0 hga hgc hL0 hold hold2 k2 hbz
    refine range_idx rfl (by omega) (gf := 95) (lb := #[.pointer (some ⟨w3.heap.size + 1, 0, none⟩)]) rfl trivial (enters_of Tryz.func95 (by kernel_rfl) rfl)
      (bcut_rounds 9 (by omega) (w3.heap.size + 1) g c F.cuts a (fun h0 => (HGA.out h0).1) (KpB w.heap.size (w3.heap.size + 1)) (fun h0 A B hk => ⟨hk.bs, hk.below.block g (HGA.out h0).2⟩) (by have := cuts_moms F; omega) W0 hbs (fun h0 => Nat.lt_of_lt_of_le (HGA.out h0).2 hB0.size) (fun j hj => ⟨(hB0.cell (p := ⟨g, j * 2, none⟩) (HGA.out (by omega)).2).trans (HGC.out j hj).1, (hB0.cell (p := ⟨g, j * 2 + 1, none⟩) (HGA.out (by omega)).2).trans (HGC.out j hj).2⟩))
      KpB.trans (KpB.put (by omega) (by omega)) (fun _ _ => rfl)
      (fun k W => LoopI w x y w3.heap.size (w3.heap.size + 1) (.cells #[.slice a F.cuts.length c] 72 (0, 0)) (Dsk.behind F kt) (F.cuts.reverse.drop k) W)
      (fun id W => id = 0 ∧ LoopX w x y w3.heap.size (w3.heap.size + 1) (.cells #[.slice a F.cuts.length c] 72 (0, 0)) (Dsk.behind F kt) W)
      (LoopI.own rfl (by omega) (fun k => F.cuts.reverse.drop k))
      (OwnFrom.and (ownFrom_pure _ _) (LoopI.own rfl (by omega) (fun _ => [])))
      ⟨_, _, _, _, HL0.out⟩
      (fun k a' X => ∃ Bx, X.heap[Bx]? = some (Obj.cells #[.int .i64 ((F.cuts.reverse.getD k (0, [])).1 : Int), .string (Num.bs (F.cuts.reverse.getD k (0, [])).2)] 115 (0, 0)) ∧ w3.heap.size + 2 ≤ Bx ∧ a' = { tmps := #[.pointer (some ⟨b, 0, none⟩), .int .i64 n, undef, undef, .slice none 0 0, .pointer (some ⟨x, 0, none⟩), .pointer (some ⟨y, 0, none⟩), .int .i64 (Dsk.moms F : Int), .pointer (some ⟨w3.heap.size, 0, none⟩), undef, .pointer (some ⟨Bx, 0, none⟩), .pointer (some ⟨b, 0, none⟩), .pointer (some ⟨b, 0, none⟩), .pointer (some ⟨b, 1, none⟩), .slice tA F.text.length tC, .slice vA F.text.length vC, .pointer (some ⟨b, 0, none⟩), .pointer (some ⟨b, 0, none⟩), .pointer (some ⟨b, 3, none⟩), .int .i64 (F.grown : Int), .pointer (some ⟨b, 0, none⟩), .int .i64 (Dsk.moms F : Int), .int .i64 (Dsk.moms F : Int), .int .i64 n, .int .i64 (Dsk.moms F : Int), .int .i64 (kt : Int), .int .i64 (bk : Int), .pointer (some ⟨b, 0, none⟩), .pointer (some ⟨b, 0, none⟩), .pointer (some ⟨b, 2, none⟩), .slice a F.cuts.length c, .func (.func 95) #[] #[.pointer (some ⟨w3.heap.size + 1, 0, none⟩)], .int .i64 ((F.cuts.length - 1 - k : Nat) : Int), .agg #[.int .i64 ((F.cuts.reverse.getD k (0, [])).1 : Int), .string (Num.bs (F.cuts.reverse.getD k (0, [])).2)], undef, undef, undef, undef, undef, undef, undef, undef, undef, undef, undef, undef, undef, undef, undef, undef, undef, undef, undef, undef, undef, undef, undef, undef], defers := [] })
      (fun k a' _ X Y row hs hg hr => by
        obtain ⟨Bx, h1, h2⟩ := hs
        refine ⟨Bx, (hg.block Bx (Array.getElem?_eq_some_iff.1 h1).1 (fun e => ?_)).trans h1, h2⟩
        obtain ⟨_, o, ho, hc⟩ := hr Bx e.symm
        rw [h1] at ho; cases ho; cases hc)
      ?assign ?body ?done ?stop
    case assign =>
      rintro l k X K hk hi hK
      obtain ⟨ck, hck⟩ : ∃ ck, F.cuts.reverse.getD k (0, []) = ck := ⟨_, rfl⟩
      simp only [hck] at hK ⊢
      have hsem := @Oper.semAt_some
      gi_wp2
      obtain ⟨t, gr, bq, v, hl⟩ := hi
      have hsX := (Array.getElem?_eq_some_iff.1 hl.bs).1
      exact hK _ _ ((KeepsOthers.alloc _ _).from _) ⟨(Below.refl _ X).alloc hl.below.size _, Below.heap_alloc _ _ _ (Array.getElem?_eq_some_iff.1 hl.bs).1⟩ ⟨t, gr, bq, v, hl.same ((Below.refl _ X).alloc hl.below.size _) (fun g hg _ => Below.heap_alloc _ _ _ hg)⟩ ⟨X.heap.size, World.alloc_heap_new X _, by omega, rfl⟩
    case body =>
      rintro l k a' X hk hr ⟨t, gr, bq, v, hl⟩ ⟨Bx, hBx, hBx2, rfl⟩
      obtain ⟨uA, uC, rfl, huc⟩ := hl.text.len
      obtain ⟨ck, hck⟩ : ∃ ck, F.cuts.reverse.getD k (0, []) = ck := ⟨_, rfl⟩
      have hdrop : F.cuts.reverse.drop k = ck :: F.cuts.reverse.drop (k + 1) := by
        rw [List.drop_eq_getElem_cons (by simpa using hk), ← hck, List.getD_eq_getElem?_getD, List.getElem?_eq_getElem (by simpa using hk)]
        rfl
      rw [hdrop] at hl
      obtain ⟨cg, cl⟩ := ck
      simp only [hck] at hBx ⊢
      have hsem := @Oper.semAt_some
      have e1 : X.cell? ⟨w3.heap.size, 0, none⟩ = some (.int .i64 (bq : Int)) := cell_of hl.bb 0 rfl
      have e2 : X.cell? ⟨y, 0, none⟩ = some (.int .i64 (gr : Int)) := cell_of hl.bg 0 rfl
      have e3 : X.cell? ⟨x, 0, none⟩ = some (.slice uA t.length uC) := cell_of hl.bx 0 rfl
      have e4 : X.cell? ⟨Bx, 0, none⟩ = some (.int .i64 (cg : Int)) := cell_of hBx 0 rfl
      have e5 : X.cell? ⟨Bx, 1, none⟩ = some (.string (Num.bs cl)) := cell_of hBx 1 rfl
      have hgt : gr ≤ t.length := hl.wf.1
      have htl3 : t.length ≤ 1000000000 := hl.small _ (Dsk.histR_mem _ _ _)
      have hmm := hl.mom
      have hbb := hl.back
      simp only [Dsk.momR] at hmm hbb
      by_cases hle : bq ≤ gr
      · have hle2 : (bq : Int) ≤ (gr : Int) := by omega
        have HL := hide hl
        clear hl
        gi_wp2
        have h := HL.out
        refine ⟨KeepsFrom.refl _ _, rfl, t, gr, bq, _, ⟨?_, hgt, hle, fun u hu => h.small u ?_, by show gr ≤ _; omega, h.text, h.row, h.bx, h.bg, h.bb, h.bs, h.below⟩⟩
        · rw [← h.eq]; simp [Dsk.behindR, hle]
        · simp only [Dsk.histR] at hu ⊢; exact List.mem_append_right _ hu
      · have hle2 : ¬ (bq : Int) ≤ (gr : Int) := by omega
        have HL := hide hl
        clear hl
        obtain ⟨q, hq⟩ : ∃ q : Nat, t.length - gr = q := ⟨_, rfl⟩
        have hqi : (t.length : Int) - (gr : Int) = (q : Int) := by omega
        have hsl := slice_upto uA t.length uC q (by omega)
        have hnx : (t.take q ++ cl).length ≤ 1000000000 := by
          refine HL.out.small _ ?_
          simp only [Dsk.histR]
          rw [← hq]
          exact List.mem_append_left _ (Dsk.histR_mem _ _ _)
        have HNX := hide hnx
        clear hnx
        gi_wp2
        refine wpIn_region_growR (fun b' => b' = x ∨ b' = y ∨ b' = w3.heap.size ∨ b' = Bx) [([0, 1, 2, 3, 4, 5, 6, 7], 8)] [] [9] (by kernel_rfl) (by kernel_rfl) (by kernel_rfl) (by kernel_rfl) (by kernel_rfl) (fun _ _ h => h) ?_
        intro w6 hb6
        simp only [stagesOfK, getLK, pickLK]
        have lt : ∀ {g : Nat} {o : Obj}, X.heap[g]? = some o → g < X.heap.size := fun e => (Array.getElem?_eq_some_iff.1 e).1
        have hxX := lt HL.out.bx
        have hyX := lt HL.out.bg
        have hzX := lt HL.out.bb
        have hsX := lt HL.out.bs
        have hBX := lt hBx
        have inh : Nonempty (GrK (fun b' => b' = x ∨ b' = y ∨ b' = w3.heap.size ∨ b' = Bx) w6) := GrK.some _ w6
        have x0 : ∀ p : GrK (fun b' => b' = x ∨ b' = y ∨ b' = w3.heap.size ∨ b' = Bx) w6, p.w.cell? _ = _ := fun p => p.cell (a := ⟨x, 0, none⟩) (.inl rfl) ((hb6.cell (p := ⟨x, 0, none⟩) hxX).trans e3)
        have x1 : ∀ p : GrK (fun b' => b' = x ∨ b' = y ∨ b' = w3.heap.size ∨ b' = Bx) w6, p.w.cell? _ = _ := fun p => p.cell (a := ⟨y, 0, none⟩) (.inr (.inl rfl)) ((hb6.cell (p := ⟨y, 0, none⟩) hyX).trans e2)
        have x2 : ∀ p : GrK (fun b' => b' = x ∨ b' = y ∨ b' = w3.heap.size ∨ b' = Bx) w6, p.w.cell? _ = _ := fun p => p.cell (a := ⟨Bx, 1, none⟩) (.inr (.inr (.inr rfl))) ((hb6.cell (p := ⟨Bx, 1, none⟩) hBX).trans e5)
        have xs := fun p : GrK (fun b' => b' = x ∨ b' = y ∨ b' = w3.heap.size ∨ b' = Bx) w6 => hsl p.w
        refine wpG_stageK ?_
        repeat (go_big_quiet_step (fail))
        refine wpQuiet_nil ?_
        clear x0 x1 x2 xs inh hsl e1 e2 e3 e4 e5
        obtain ⟨hT5, hr5⟩ := HL.out.text.take (n := q) (by omega)
        have hT6 : TextAt w6 (.slice uA q uC) (t.take q) := hT5.keep (fun g e => hb6.block g (by obtain ⟨cur, hc⟩ := hT5.kind e; exact lt hc))
        have hbsl : (Num.bs cl).data.toList = cl := by simp [Num.bs]
        have hbsz : (Num.bs cl).size = cl.length := by have := congrArg List.length hbsl; simpa using this
        obtain ⟨v', w7, hrun, hT7, hgr, hrow⟩ := hT6.app (Num.bs cl) (by have := HNX.out; rw [hbsz]; rw [List.length_append] at this; omega) 69
        rw [hbsl] at hT7
        obtain ⟨nA, nC, hv', _⟩ := hT7.len
        obtain ⟨nL, hnL⟩ : ∃ nL, (t.take q ++ cl).length = nL := ⟨_, rfl⟩
        rw [hnL] at hv'
        subst hv'
        have HR := hide hrun
        clear hrun hnL
        go_wp2_with (at_builtin; refine wpList_app_run rfl _ _ _ _ rfl rfl rfl HR.out ?_)
        have hkr : ∀ g, rowB (.slice uA q uC) = some g → ∃ cur, X.heap[g]? = some (.cells cur 5 (0, 0)) := fun g e => hT5.kind e
        have hkeep : ∀ g, g < X.heap.size → (∀ cur, X.heap[g]? ≠ some (.cells cur 5 (0, 0))) → w7.heap[g]? = X.heap[g]? := fun g hg hn => by
          rw [hgr.block g (by have := hb6.size; omega) (fun e => by obtain ⟨cur, hc⟩ := hkr g e.symm; exact hn cur hc)]
          exact hb6.block g hg
        have k1 := (hkeep x hxX (fun cur e => by rw [HL.out.bx] at e; cases e)).trans HL.out.bx
        have k2 := (hkeep y hyX (fun cur e => by rw [HL.out.bg] at e; cases e)).trans HL.out.bg
        have k3 := (hkeep _ hzX (fun cur e => by rw [HL.out.bb] at e; cases e)).trans HL.out.bb
        have k4 := (hkeep Bx hBX (fun cur e => by rw [hBx] at e; cases e)).trans hBx
        have k5 := (hkeep _ hsX (fun cur e => by rw [HL.out.bs] at e; cases e)).trans HL.out.bs
        refine OnToK.mk ⟨hgr.os, hgr.tape, hgr.output, hgr.size, fun b' e => ?_⟩ (Sub.refl _) ?_
        · rcases e with rfl | rfl | rfl | rfl
          · exact k1.trans ((hb6.block _ hxX).trans HL.out.bx).symm
          · exact k2.trans ((hb6.block _ hyX).trans HL.out.bg).symm
          · exact k3.trans ((hb6.block _ hzX).trans HL.out.bb).symm
          · exact k4.trans ((hb6.block _ hBX).trans hBx).symm
        refine wpG_lastK (wpQuiet_nil ?_)
        have nxy : x ≠ y := kind_ne HL.out.bx HL.out.bg (by decide)
        have nxz : x ≠ w3.heap.size := by omega
        have nyz : y ≠ w3.heap.size := by omega
        have nxb : x ≠ Bx := by omega
        have nyb : y ≠ Bx := by omega
        have nzb : w3.heap.size ≠ Bx := by omega
        obtain ⟨b2, hb2⟩ : ∃ b2 : Nat, bq - (gr + 1) = b2 := ⟨_, rfl⟩
        have hb2i : (bq : Int) - ((gr : Int) + 1) = (b2 : Int) := by omega
        have d1 : w7.cell? ⟨x, 0, none⟩ = some (.slice uA t.length uC) := cell_of k1 0 rfl
        have d1f := frozen_of k1
        obtain ⟨V1, hV1⟩ : ∃ V1, w7.setCell ⟨x, 0, none⟩ (.slice nA nL nC) = V1 := ⟨_, rfl⟩
        have j1 : V1.heap[x]? = some (.cells #[.slice nA nL nC] 69 (0, 0)) := by rw [← hV1, heap_setCell_same _ _ _ _ _ _ k1]; rfl
        have hV1k : ∀ g, g ≠ x → V1.heap[g]? = w7.heap[g]? := fun g hg => by rw [← hV1]; exact Below.heap_setCell _ _ _ _ hg
        have hV1o : V1.os = w7.os ∧ V1.tape = w7.tape ∧ V1.output = w7.output ∧ V1.heap.size = w7.heap.size := by rw [← hV1]; simp [World.setCell]
        have j2 := (hV1k y nxy.symm).trans k2
        have j3 := (hV1k _ nxz.symm).trans k3
        have j4 := (hV1k Bx nxb.symm).trans k4
        have j5 := (hV1k (w3.heap.size + 1) (by omega)).trans k5
        go_wp2
        clear hV1 d1 d1f
        have d2 : V1.cell? ⟨y, 0, none⟩ = some (.int .i64 (gr : Int)) := cell_of j2 0 rfl
        have d3 : V1.cell? ⟨w3.heap.size, 0, none⟩ = some (.int .i64 (bq : Int)) := cell_of j3 0 rfl
        have d4 : V1.cell? ⟨Bx, 0, none⟩ = some (.int .i64 (cg : Int)) := cell_of j4 0 rfl
        have d2f := frozen_of j2
        have d3f := frozen_of j3
        have nyz2 := nyz.symm
        have nzb2 := nzb.symm
        have nyb2 := nyb.symm
        have HK1 := hide k1
        have HK2 := hide hkeep
        have HG := hide hgr
        have HT7 := hide hT7
        have HROW := hide hrow
        have HVK := hide hV1k
        have HVO := hide hV1o
        have HKR := hide hkr
        have HB6 := hide hb6
        have HR5 := hide hr5
        have HBX := hide hBx
        clear k1 k2 k3 k4 k5 hkeep hgr hT7 hrow hV1k hV1o hkr hb6 hr5 hBx hT5 hT6
        gi_wp2
        obtain ⟨W9, hW9⟩ : ∃ W9, (V1.setCell ⟨w3.heap.size, 0, none⟩ (.int .i64 (b2 : Int))).setCell ⟨y, 0, none⟩ (.int .i64 (cg : Int)) = W9 := ⟨_, rfl⟩
        have m2 : W9.heap[y]? = some (.cells #[.int .i64 (cg : Int)] 3 (0, 0)) := by rw [← hW9, heap_setCell_same _ _ _ _ _ _ ((Below.heap_setCell _ _ _ _ nyz).trans j2)]; rfl
        have m3 : W9.heap[w3.heap.size]? = some (.cells #[.int .i64 (b2 : Int)] 3 (0, 0)) := by rw [← hW9, Below.heap_setCell _ _ _ _ nyz2, heap_setCell_same _ _ _ _ _ _ j3]; rfl
        have mk : ∀ g, g ≠ y → g ≠ w3.heap.size → W9.heap[g]? = V1.heap[g]? := fun g h1 h2 => by rw [← hW9, Below.heap_setCell _ _ _ _ h1, Below.heap_setCell _ _ _ _ h2]
        have mo : W9.os = V1.os ∧ W9.tape = V1.tape ∧ W9.output = V1.output ∧ W9.heap.size = V1.heap.size := by rw [← hW9]; simp [World.setCell]
        rw [hW9]
        clear hW9
        obtain ⟨o1, o2, o3, o4⟩ := HVO.out
        obtain ⟨q1, q2, q3, q4⟩ := mo
        have z6 := HB6.out.size
        have z7 := HG.out.size
        have hk9 : ∀ g, g ≠ x → g ≠ y → g ≠ w3.heap.size → W9.heap[g]? = w7.heap[g]? := fun g h1 h2 h3 => (mk g h2 h3).trans (HVK.out g h1)
        have hk7 : ∀ g, g < X.heap.size → rowB (.slice uA q uC) ≠ some g → w7.heap[g]? = X.heap[g]? := fun g hg hn => (HG.out.block g (by omega) (fun e => hn e.symm)).trans (HB6.out.block g hg)
        have hB9 : Below w.heap.size X W9 := ⟨q1.trans (o1.trans (HG.out.os.trans HB6.out.os)), q2.trans (o2.trans (HG.out.tape.trans HB6.out.tape)), q3.trans (o3.trans (HG.out.output.trans HB6.out.output)), by omega, fun g hg => (hk9 g (by omega) (by omega) (by omega)).trans (hk7 g (by have := HL.out.below.size; omega) (fun e => by have := HL.out.row g (HR5.out ▸ e); omega))⟩
        have hBs9 : W9.heap[w3.heap.size + 1]? = X.heap[w3.heap.size + 1]? := (hk9 _ (by omega) (by omega) (by omega)).trans (HK2.out _ hsX (fun cur e => by rw [HL.out.bs] at e; cases e))
        refine ⟨⟨by omega, fun g o hB hg ho => ?_⟩, ⟨hB9, hBs9⟩, t.take q ++ cl, cg, b2, .slice nA nL nC, ?_⟩
        · have h1 : g ≠ x := fun e => by subst e; rw [HL.out.bx] at hg; cases hg; cases ho
          have h2 : g ≠ y := fun e => by subst e; rw [HL.out.bg] at hg; cases hg; cases ho
          have h3 : g ≠ w3.heap.size := by omega
          refine ((hk9 g h1 h2 h3).trans (hk7 g (lt hg) (fun e => ?_))).trans hg
          obtain ⟨cur, hc⟩ := HKR.out g e
          rw [hc] at hg; cases hg; cases ho
        · have hV := HL.out
          have heq := hV.eq
          simp only [Dsk.behindR, hle, if_false, hq, hb2] at heq
          have hwf2 := hV.wf.2
          simp only [hq] at hwf2
          have hsm := hV.small
          simp only [Dsk.histR, hq] at hsm
          refine ⟨heq, hwf2, by omega, fun u hu => hsm u (List.mem_append_left _ hu), by omega, HT7.out.keep (fun g e => ?_), fun g e => ?_, (mk x nxy nxz).trans j1, m2, m3, (hBs9).trans hV.bs, hV.below.trans hB9⟩
          · have hk : ∃ cur, w7.heap[g]? = some (.cells cur 5 (0, 0)) := HT7.out.kind e
            obtain ⟨cur, hc⟩ := hk
            refine hk9 g (fun e => ?_) (fun e => ?_) (fun e => ?_)
            · subst e; rw [HK1.out] at hc; cases hc
            · subst e; rw [← HVK.out _ nxy.symm, j2] at hc; cases hc
            · subst e; rw [← HVK.out _ nxz.symm, j3] at hc; cases hc
          · rcases HROW.out g e with e | e
            · exact hV.row g (HR5.out ▸ e)
            · have := hV.below.size; omega
    case done =>
      rintro D X hD ⟨t, gr, bq, v, hl⟩ hDd
      obtain ⟨uA, uC, rfl, huc⟩ := hl.text.len
      rw [List.drop_of_length_le (by simp)] at hl
      have e1 : X.cell? ⟨w3.heap.size, 0, none⟩ = some (.int .i64 (bq : Int)) := cell_of hl.bb 0 rfl
      have e3 : X.cell? ⟨x, 0, none⟩ = some (.slice uA t.length uC) := cell_of hl.bx 0 rfl
      have hgt : gr ≤ t.length := hl.wf
      have hbb : bq ≤ gr := hl.back
      have htl3 : t.length ≤ 1000000000 := hl.small _ (Dsk.histR_mem _ _ _)
      obtain ⟨q, hq⟩ : ∃ q : Nat, t.length - bq = q := ⟨_, rfl⟩
      have hqi : (t.length : Int) - (bq : Int) = (q : Int) := by omega
      have hsl := slice_upto uA t.length uC q (by omega)
      have HL := hide hl
      clear hl
      gi_wp2
      refine ⟨by simp, .inl ⟨_, _, rfl, run_takeDeferred hDd, ?_⟩⟩
      obtain ⟨f1, f2, f3⟩ := HL.out.ends (o' := .deferred none) hq (by omega) hDd
      exact ⟨_, results_tmp (t := 4) rfl _ _ _, .slice uA q uC, rfl, f1, f2, f3⟩
    case stop =>
      rintro D id X hD ⟨rfl, t, gr, bq, v, hl⟩ hDd
      obtain ⟨uA, uC, rfl, huc⟩ := hl.text.len
      have e1 : X.cell? ⟨w3.heap.size, 0, none⟩ = some (.int .i64 (bq : Int)) := cell_of hl.bb 0 rfl
      have e3 : X.cell? ⟨x, 0, none⟩ = some (.slice uA t.length uC) := cell_of hl.bx 0 rfl
      have hgt : gr ≤ t.length := hl.wf
      have hbb : bq ≤ gr := hl.back
      have htl3 : t.length ≤ 1000000000 := hl.small _ (Dsk.histR_mem _ _ _)
      obtain ⟨q, hq⟩ : ∃ q : Nat, t.length - bq = q := ⟨_, rfl⟩
      have hqi : (t.length : Int) - (bq : Int) = (q : Int) := by omega
      have hsl := slice_upto uA t.length uC q (by omega)
      have HL := hide hl
      clear hl
      gi_wp2
      refine ⟨by simp, .inl ⟨_, _, rfl, run_takeDeferred hDd, ?_⟩⟩
      obtain ⟨f1, f2, f3⟩ := HL.out.ends (o' := .deferred none) hq (by omega) hDd
      exact ⟨_, results_tmp (t := 4) rfl _ _ _, .slice uA q uC, rfl, f1, f2, f3⟩
  case walk =>
    have n1 := World.new_ne w ⟨b, 1, none⟩ c1
    have n3 := World.new_ne w ⟨b, 3, none⟩ c3
    clear HT c2
    have e1 : b ≠ w.heap.size + 1 := by omega
    have e2 := e1.symm
    have B0 : Below w.heap.size w w.drew := (Below.refl _ w).drew
    have B1 : ∀ o, Below w.heap.size w (w.drew.alloc o) := fun o => B0.alloc (by simp) o
    have B2 : ∀ o o', Below w.heap.size w ((w.drew.alloc o).alloc o') := fun o o' => (B1 o).alloc (by simp) o'
    have HB0 := hide B0
    have HB1 := hide B1
    have HB2 := hide B2
    clear B0 B1 B2
    go_region_held3 (fun w' => w'.cell? ⟨b, 1, none⟩ = some (.slice tA F.text.length tC) ∧ w'.cell? ⟨b, 3, none⟩ = some (.int .i64 (F.grown : Int))) (go_keep)
      (first
        | (go_at_call 77; refine (cloneB_at (hHT.out _ (HB0.out)) htl2).mono ?_; rintro e wc ⟨v, rfl, h1, h2, h3⟩; obtain ⟨vA, vC, rfl, hvl⟩ := h1.len; clear hvl; have hB := (HB0.out).trans (h3.mono (HB0.out).size); have k1 := (hB.cell (p := ⟨b, 1, none⟩) hb).trans c1; have k3 := (hB.cell (p := ⟨b, 3, none⟩) hb).trans c3; have m1 := World.new_ne wc ⟨b, 1, none⟩ k1; have m3 := World.new_ne wc ⟨b, 3, none⟩ k3; have H1 := hide h1; have H2 := hide h2; have HBB := hide hB; have hwz := hB.size; clear h1 h2 h3 hB)
        | (go_at_call 77; refine (cloneB_at (hHT.out _ (HB1.out _)) htl2).mono ?_; rintro e wc ⟨v, rfl, h1, h2, h3⟩; have x1 := box1 h3; have x1c := cell_of x1 0 rfl; have x1f := frozen_of x1; have y1 := fun o => (box_alloc x1 o).1; have z1 := fun o => (box_alloc x1 o).2; have d1 := Nat.ne_of_lt (Array.getElem?_eq_some_iff.1 x1).1; have d2 := d1.symm; obtain ⟨vA, vC, rfl, hvl⟩ := h1.len; clear hvl; have hB := (HB1.out _).trans (h3.mono (HB1.out _).size); have k1 := (hB.cell (p := ⟨b, 1, none⟩) hb).trans c1; have k3 := (hB.cell (p := ⟨b, 3, none⟩) hb).trans c3; have m1 := World.new_ne wc ⟨b, 1, none⟩ k1; have m3 := World.new_ne wc ⟨b, 3, none⟩ k3; have H1 := hide h1; have H2 := hide h2; have HBB := hide hB; have hwz := hB.size; clear h1 h2 h3 hB)
        | (go_at_call 77; refine (cloneB_at (hHT.out _ (HB2.out _ _)) htl2).mono ?_; rintro e wc ⟨v, rfl, h1, h2, h3⟩; obtain ⟨x1, x2⟩ := box2 h3; have x1c := cell_of x1 0 rfl; have x1f := frozen_of x1; have y1 := fun o => (box_alloc x1 o).1; have z1 := fun o => (box_alloc x1 o).2; have d1 := Nat.ne_of_lt (Array.getElem?_eq_some_iff.1 x1).1; have d2 := d1.symm; have x2c := cell_of x2 0 rfl; have x2f := frozen_of x2;  obtain ⟨vA, vC, rfl, hvl⟩ := h1.len; clear hvl; have hB := (HB2.out _ _).trans (h3.mono (HB2.out _ _).size); have k1 := (hB.cell (p := ⟨b, 1, none⟩) hb).trans c1; have k3 := (hB.cell (p := ⟨b, 3, none⟩) hb).trans c3; have m1 := World.new_ne wc ⟨b, 1, none⟩ k1; have m3 := World.new_ne wc ⟨b, 3, none⟩ k3; have H1 := hide h1; have H2 := hide h2; have HBB := hide hB; have hwz := hB.size; clear h1 h2 h3 hB))
    · refine ⟨rfl, _, _, _, _, rfl, hide (Start.of HBB.out H1.out (fun g e => ?_) (((Only.refl _ wc).alloc _).alloc _) ?_ ?_ ?_ ?_)⟩
      · have := H2.out g e; simp at this; omega
      · rw [Below.heap_alloc _ _ _ (by simp)]; exact World.alloc_heap_new _ _
      · rw [← World.size_alloc wc (.cells #[.slice vA F.text.length vC] 69)]; exact World.alloc_heap_new _ _
      · omega
      · omega
    · refine ⟨rfl, _, _, _, _, rfl, hide (Start.of HBB.out H1.out (fun g e => ?_) (((Only.refl _ wc).alloc _).alloc _) ?_ ?_ ?_ ?_)⟩
      · have := H2.out g e; simp at this; omega
      · rw [← World.size_alloc wc (.cells #[.int .i64 (F.grown : Int)] 3)]; exact World.alloc_heap_new _ _
      · rw [Below.heap_alloc _ _ _ (by simp)]; exact World.alloc_heap_new _ _
      · omega
      · omega
    · refine ⟨rfl, _, _, _, _, rfl, hide (Start.of HBB.out H1.out (fun g e => ?_) ((((Only.refl _ wc).alloc _).setCell (.inl rfl) _).setCell (.inr rfl) _) ?_ ?_ ?_ ?_)⟩
      · have := H2.out g e; simp at this; omega
      · rw [Below.heap_setCell _ _ _ _ d1, heap_setCell_same _ _ _ _ _ _ ((Below.heap_alloc _ _ _ (Array.getElem?_eq_some_iff.1 x1).1).trans x1)]; rfl
      · rw [heap_setCell_same _ _ _ _ _ _ ((Below.heap_setCell _ _ _ _ d2).trans (World.alloc_heap_new _ _))]; rfl
      · omega
      · omega
    · refine ⟨rfl, _, _, _, _, rfl, hide (Start.of HBB.out H1.out (fun g e => ?_) (((Only.refl _ wc).setCell (.inl rfl) _).setCell (.inr rfl) _) ?_ ?_ ?_ ?_)⟩
      · have := H2.out g e; simp at this; omega
      · rw [Below.heap_setCell _ _ _ _ (by simp), heap_setCell_same _ _ _ _ _ _ x1]; rfl
      · rw [heap_setCell_same _ _ _ _ _ _ ((Below.heap_setCell _ _ _ _ (by simp)).trans x2)]; rfl
      · omega
      · omega
    · refine ⟨rfl, _, _, _, _, rfl, hide (Start.of HBB.out H1.out (fun g e => ?_) (((Only.refl _ wc).alloc _).setCell (.inr rfl) _) ?_ ?_ ?_ ?_)⟩
      · have := H2.out g e; simp at this; omega
      · rw [Below.heap_setCell _ _ _ _ d2]; exact World.alloc_heap_new _ _
      · rw [heap_setCell_same _ _ _ _ _ _ ((Below.heap_alloc _ _ _ (Array.getElem?_eq_some_iff.1 x1).1).trans x1)]; rfl
      · omega
      · omega
    · refine ⟨rfl, _, _, _, _, rfl, hide (Start.of HBB.out H1.out (fun g e => ?_) (((Only.refl _ wc).setCell (.inl rfl) _).setCell (.inr rfl) _) ?_ ?_ ?_ ?_)⟩
      · have := H2.out g e; simp at this; omega
      · rw [Below.heap_setCell _ _ _ _ (by simp), heap_setCell_same _ _ _ _ _ _ x2]; rfl
      · rw [heap_setCell_same _ _ _ _ _ _ ((Below.heap_setCell _ _ _ _ (by simp)).trans x1)]; rfl
      · omega
      · omega
end Go.Proofs.YtleomppgkikhnaaGreat
