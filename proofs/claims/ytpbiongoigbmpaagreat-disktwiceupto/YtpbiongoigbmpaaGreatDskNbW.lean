/-
  The names behind so many changes.
-/
import Derived.Test.YtpbiongoigbmpaaGreatDskBackW
import Derived.Test.YtpbiongoigbmpaaGreatShelfD
namespace Go.Proofs.YtpbiongoigbmpaaGreat
open Go.RowKit Go.Shelf
open Dsk (Nm Hold Fl Ct By Dk FRel NRel)

theorem clone_at {w : World} {b c : Nat} {f : Nm} (h : MapIs w b c f) :
    Calls Tryz.prog 70 #[.map (some b)] w fun e w' => e = .returned (.map (some w.heap.size)) ∧ MapIs w' w.heap.size c f ∧ Below w.heap.size w w' := by
  obtain ⟨D, ho, h1, h2⟩ := h
  exact (AnyW.maps_Clone_owns Tryz.cloneML 9 ptrR b c D w ho).mono fun e w' ⟨a, o1, _, bl⟩ => ⟨a, ⟨D, o1, h1, h2⟩, bl⟩

/-- Nothing below n has changed but block b. -/
structure Mild (b n : Nat) (A B : World) : Prop where
  os : B.os = A.os
  tape : B.tape = A.tape
  output : B.output = A.output
  size : A.heap.size ≤ B.heap.size
  block : ∀ k, k < n → k ≠ b → B.heap[k]? = A.heap[k]?
theorem Mild.refl (b n : Nat) (A : World) : Mild b n A A := ⟨rfl, rfl, rfl, Nat.le_refl _, fun _ _ _ => rfl⟩
theorem Mild.trans {b n : Nat} {A B C : World} (h : Mild b n A B) (k : Mild b n B C) : Mild b n A C := ⟨k.os.trans h.os, k.tape.trans h.tape, k.output.trans h.output, Nat.le_trans h.size k.size, fun i h1 h2 => (k.block i h1 h2).trans (h.block i h1 h2)⟩
theorem Mild.mono {b n m : Nat} {A B : World} (h : Mild b n A B) (k : m ≤ n) : Mild b m A B := ⟨h.os, h.tape, h.output, h.size, fun i h1 h2 => h.block i (by omega) h2⟩
theorem Mild.alloc {b n : Nat} {A B : World} (h : Mild b n A B) (hn : n ≤ B.heap.size) (o : Obj) : Mild b n A (B.alloc o) := ⟨h.os, h.tape, h.output, by have := h.size; simp; omega, fun i h1 h2 => (Below.heap_alloc _ _ _ (by omega)).trans (h.block i h1 h2)⟩
theorem Mild.put {b n : Nat} {w : World} (hn : n ≤ w.heap.size) (W : World) (l : Nat) (o o' : Obj) (hl : w.heap.size ≤ l) (_h : W.heap[l]? = some o) (_h1 : o.isCells = false) (_h2 : o.isWalk = false) : Mild b n W (W.putObj l o') :=
  ⟨rfl, rfl, rfl, by simp [World.putObj], fun i h1 _ => World.putObj_heap_other (by omega)⟩
theorem Mild.only {b n : Nat} {A B : World} (h : Only (one b) A B) (hn : n ≤ A.heap.size) : Mild b n A B := ⟨h.os, h.tape, h.output, h.size, fun i h1 h2 => h.block i (by omega) h2⟩
theorem Mild.own {β : Type} (b : Nat) {n m : Nat} (A : World) (hA : n ≤ A.heap.size) (hn : n ≤ m) : OwnFrom m (fun (_ : β) W => Mild b n A W) := fun _ X Y row hs hg hr =>
  ⟨hg.os.trans hs.os, hg.tape.trans hs.tape, hg.output.trans hs.output, Nat.le_trans hs.size hg.size, fun i h1 h2 => by
    rw [hg.block i (by have := hs.size; omega) (fun e => by have := (hr i e.symm).1; omega)]
    exact hs.block i h1 h2⟩
theorem map_own {β : Type} {b m : Nat} (hb : b < m) (c : β → Nat) (f : β → Nm) : OwnFrom m (fun s W => MapIs W b (c s) (f s)) := fun s X Y row hs hg hr =>
  hs.keep (hg.block b hs.lt (fun e => by have := (hr b e.symm).1; omega))

/-- What a change is, in memory and plainly. -/
structure Chg1 (S : Nat → Prop) (w : World) (bl : Nat → Nat) (mk : Nat) (x : Nat × Value × List Hold) : Prop where
  at_ : HoldAt S w bl x.2.1 x.2.2
  len : x.2.2.length ≤ 2
  ok : ∀ y ∈ x.2.2, y.1.size ≤ maxLen ∧ ∀ i, y.2 = some i → i < mk
abbrev ChgT (S : Nat → Prop) (w : World) (bl : Nat → Nat) (mk : Nat) := { x : Nat × Value × List Hold // Chg1 S w bl mk x }
def encC {S : Nat → Prop} {w : World} {bl : Nat → Nat} {mk : Nat} (x : ChgT S w bl mk) : Array Value := #[.int .i64 (x.1.1 : Int), x.1.2.1]
abbrev HolT (mk : Nat) := { y : Nat × Hold // y.2.1.size ≤ maxLen ∧ ∀ i, y.2.2 = some i → i < mk }
def encH (bl : Nat → Nat) {mk : Nat} (y : HolT mk) : Array Value := #[.int .i64 (y.1.1 : Int), .agg #[.string y.1.2.1, .pointer (adr (y.1.2.2.map bl))]]
def unC {S : Nat → Prop} {w : World} {bl : Nat → Nat} {mk : Nat} (f : Nm) (pre : List (ChgT S w bl mk)) : Nm := pre.foldl (fun f x => Dsk.undo x.1.2.2 f) f
def unH {mk : Nat} (f : Nm) (pre : List (HolT mk)) : Nm := pre.foldl (fun f y => Dsk.putN y.1.2 f) f
theorem slice_chg (a : Option Addr) (l c n : Nat) (h : n ≤ l) (w : World) : (Instr.slice 55 (.slice a l c) (some (.int .i64 (n : Int))) none none).run Tryz.prog w = .ok (.slice (if c = n then a else a.map (fun x : Addr => x.add n)) (l - n) (c - n)) w := by
  have hE : Tryz.prog.underlying 55 = some (.slice (Tryz.prog.elem 55)) := by kernel_rfl
  have hel : Tryz.prog.elem 55 = 99 := by kernel_rfl
  obtain ⟨i, hi, _, hs, _⟩ := chg_info
  rw [run_slice_l (P := Tryz.prog) w 55 a l c hE .i64 (n : Int) (by omega) (by omega), hel]
  simp [Result.andThen, sliced, sizeOf, typeInfo, hi, hs]

theorem holdV_at (bl : Nat → Nat) : ∀ {l : List Hold} {j : Nat} (hj : j < l.length), (holdV bl l)[j * 2]? = some (.string l[j].1) ∧ (holdV bl l)[j * 2 + 1]? = some (.pointer (adr (l[j].2.map bl)))
  | x :: r, 0, _ => by simp [holdV, ptrV_adr]
  | x :: r, j + 1, hj => by
    have ih := holdV_at bl (l := r) (j := j) (by simpa using hj)
    have e : holdV bl (x :: r) = .string x.1 :: .pointer (adr (x.2.map bl)) :: holdV bl r := by simp [holdV, ptrV_adr]
    rw [e]
    rw [show (j + 1) * 2 = j * 2 + 1 + 1 by omega]
    simpa using ih
theorem foldr_range {α β : Type} (g : α → β → β) (b : β) (l : List α) (e : Nat → α) (he : ∀ j (hj : j < l.length), e j = l[j]) : (List.range l.length).foldr (fun j b => g (e j) b) b = l.foldr g b := by
  have h : l = (List.range l.length).map e := List.ext_getElem (by simp) (fun j h1 h2 => by simp [he j h1])
  conv => rhs; rw [h, List.foldr_map]
set_option maxRecDepth 100000 in
set_option maxHeartbeats 1000000 in
theorem nb_at {S : Nat → Prop} {w : World} {p : Nat} {h : Hd} (H : HeapDisk S w p h) (n : Int) (hcs : h.cs.length ≤ 1000000000) (hmc : h.mc ≤ 10000000000) (kt : Nat) (hkt : (kt : Int) = min (max n 0) (h.cs.length : Int)) :
    Calls Tryz.prog 45 #[.pointer (some ⟨p, 0, none⟩), .int .i64 n] w fun e w' => ∃ bn c, e = .returned (.map (some bn)) ∧ w.heap.size ≤ bn ∧ c ≤ h.mc + 2 * h.cs.length ∧ MapIs w' bn c (fun m => (Dsk.undoAll (h.cs.drop kt) h.f m).map h.bl) ∧ Below w.heap.size w w' := by
  obtain ⟨_, _, _, _, _, _, c6, c7, _⟩ := H.look
  obtain ⟨vs, hvs, hvh⟩ := H.chgs.row
  obtain ⟨ca, cc, hcv⟩ := own_slice hvs
  rw [hcv] at c7
  have hp : p < w.heap.size := H.lt p H.sp
  have HH := hide H
  have HVS := hide hvs
  have HVH := hide hvh
  have HCV := hide hcv
  clear H hvs hvh hcv
  refine (callsIn_wide (n := 10)).1 ?_
  refine callsIn_of_wp_marks Tryz.func45 rfl trivial ?_ rfl
  simp only [Tryz.ntmps45, List.size_toArray, List.length_cons, List.length_nil, Nat.reduceAdd, Nat.reduceSub, Array.replicate_succ, Array.replicate_zero, List.push_toArray, List.append_toArray, List.nil_append, List.cons_append]
  gi_wp2
  refine ⟨trivial, ?_⟩
  refine (callsIn_wide.2 (clone_at HH.out.map)).mono ?_
  rintro e w1 ⟨rfl, hm1, hb1⟩
  have d7 : ∀ o, (w1.alloc o).cell? ⟨p, 7, none⟩ = some (.slice ca h.cs.length cc) := fun o => (World.cell?_of_block (w := w1) (a := ⟨p, 7, none⟩) (Below.heap_alloc w1 o p (Nat.lt_of_lt_of_le hp hb1.size))).trans ((hb1.cell (p := ⟨p, 7, none⟩) hp).trans c7)
  have hkl : kt ≤ h.cs.length := by omega
  obtain ⟨g, hg⟩ : ∃ g, (0 < h.cs.length → ca = some ⟨g, 0, none⟩ ∧ g < w.heap.size) ∧ h.cs.length ≤ cc ∧ ∀ j, j < h.cs.length → ∃ v, w.cell? ⟨g, j, none⟩ = some v ∧ vs[j]? = some v := by
    rcases HVS.out.2 with ⟨e, h0⟩ | ⟨g, cap, cur, e, _, hh, hnc, hcm, hcz, htk⟩
    · rw [HCV.out] at e
      simp only [Value.slice.injEq] at e
      exact ⟨0, fun h => by omega, by omega, fun j hj => by omega⟩
    · rw [HCV.out] at e
      simp only [Value.slice.injEq] at e
      obtain ⟨e1, _, e3⟩ := e
      refine ⟨g, fun _ => ⟨e1, (Array.getElem?_eq_some_iff.1 hh).1⟩, by omega, fun j hj => ?_⟩
      have hvl : vs.length = h.cs.length := by have := HVS.out.1; simpa using this
      refine ⟨vs[j]'(by omega), ?_, List.getElem?_eq_getElem (by omega)⟩
      refine cell_of hh j ?_
      have h1 : (cur.toList.take (h.cs.length * 1))[j]? = some (vs[j]'(by omega)) := by rw [htk]; exact List.getElem?_eq_getElem (by omega)
      rw [List.getElem?_take_of_lt (by omega)] at h1
      simpa using h1
  obtain ⟨hg1, hg2, hg3⟩ := hg
  obtain ⟨m, hm⟩ : ∃ m, h.cs.length - kt = m := ⟨_, rfl⟩
  obtain ⟨aU, cU, hsl, haU⟩ : ∃ (aU : Option Addr) (cU : Nat), (∀ W, (Instr.slice 55 (.slice ca h.cs.length cc) (some (.int .i64 (kt : Int))) none none).run Tryz.prog W = .ok (.slice aU m cU) W) ∧ (0 < m → aU = some ⟨g, kt, none⟩) := by
    refine ⟨_, _, fun W => by rw [slice_chg ca h.cs.length cc kt hkl, hm], fun h0 => ?_⟩
    rw [if_neg (by omega), (hg1 (by omega)).1]
    simp only [Option.map_some, Option.some.injEq]
    rw [Addr.add_lit, Nat.zero_add]
  clear c6
  gi_wp2
  refine ⟨trivial, ?_⟩
  refine (callsIn_wide.2 (within_any _ _ _)).mono ?_
  rw [← hkt]
  rintro e w2 ⟨rfl, hw⟩
  rw [hw]
  clear hw hkt
  gi_wp2
  refine ⟨trivial, ?_⟩
  refine (callsIn_wide.2 (bchg_any _ _ _ _)).mono ?_
  rintro e w3 ⟨rfl, rfl⟩
  gi_wp2
  have hz1 := hb1.size
  have hbnlt : w.heap.size < w1.heap.size := hm1.lt
  obtain ⟨W0, hW0⟩ : ∃ W0, (w1.alloc (.cells #[.map (some w.heap.size)] 54)).alloc (.cells #[.slice aU m cU] 55) = W0 := ⟨_, rfl⟩
  have hsz : W0.heap.size = w1.heap.size + 2 := by rw [← hW0]; simp
  have hbx : W0.heap[w1.heap.size]? = some (.cells #[.map (some w.heap.size)] 54 (0, 0)) := by rw [← hW0, Below.heap_alloc _ _ _ (by simp)]; exact World.alloc_heap_new _ _
  have hbs : W0.heap[w1.heap.size + 1]? = some (.cells #[.slice aU m cU] 55 (0, 0)) := by
    rw [← hW0]
    have := World.alloc_heap_new (w1.alloc (.cells #[.map (some w.heap.size)] 54)) (.cells #[.slice aU m cU] 55)
    rw [World.size_alloc] at this
    exact this
  have hB0 : Below w.heap.size w W0 := by rw [← hW0]; exact (hb1.alloc hz1 _).alloc (by simp; omega) _
  have hM0 : MapIs W0 w.heap.size h.mc (fun n => (h.f n).map h.bl) := by
    refine hm1.keep ?_
    rw [← hW0, Below.heap_alloc _ _ _ (by simp; omega), Below.heap_alloc _ _ _ hbnlt]
  rw [hW0]
  clear hW0
  have hvl : vs.length = h.cs.length := by have := HVS.out.1; simpa using this
  obtain ⟨el, hel⟩ : ∃ el : Nat → ChgT S w h.bl h.made, ∀ j, j < m → (el j).1 = (j, vs.getD (kt + j) undef, h.cs.getD (kt + j) []) := by
    refine ⟨fun j => if hj : kt + j < h.cs.length then ⟨(j, vs.getD (kt + j) undef, h.cs.getD (kt + j) []), ?_⟩ else ⟨(j, .slice none 0 0, []), ⟨⟨World.ownsRow_nil _ _ _ _, fun g e => by cases e⟩, by simp, fun y hy => by simp at hy⟩⟩, fun j hj => ?_⟩
    · obtain ⟨v, hv, hh⟩ := HVH.out (kt + j) hj
      have e1 : vs.getD (kt + j) undef = v := by rw [List.getD_eq_getElem?_getD, hv]; rfl
      have e2 : h.cs.getD (kt + j) [] = h.cs[kt + j] := by rw [List.getD_eq_getElem?_getD, List.getElem?_eq_getElem hj]; rfl
      have := HH.out.holds _ (List.getElem_mem hj)
      rw [e1, e2]
      exact ⟨hh, this.1, this.2⟩
    · simp only
      rw [dif_pos (by omega)]
  have hcell : ∀ j, j < m → W0.cell? ⟨g, kt + j, none⟩ = some (vs.getD (kt + j) undef) := fun j hj => by
    obtain ⟨v, hv, hv2⟩ := hg3 (kt + j) (by omega)
    rw [hB0.cell (p := ⟨g, kt + j, none⟩) (hg1 (by omega)).2, hv, List.getD_eq_getElem?_getD, hv2]
    rfl
  have hgW : 0 < m → g < w.heap.size := fun h0 => (hg1 (by omega)).2
  have HEL := hide hel
  refine wpIn_rangeFunc_ownH rfl (by omega) (gf := 85) (lb := #[.pointer (some ⟨w1.heap.size + 1, 0, none⟩)]) rfl trivial (enters_of Tryz.func85 (by kernel_rfl) rfl)
    (bchg_stops 9 (by omega) (w1.heap.size + 1) g kt cU m aU haU (fun j => vs.getD (kt + j) undef) el encC (fun j hj => by unfold encC; rw [hel j hj]) (Mild w.heap.size W0.heap.size) (fun h0 A B hk => ⟨hk.block _ (by omega) (by omega), hk.block g (by have := hgW h0; omega) (by have := hgW h0; omega)⟩) (by omega) W0 hbs (fun h0 => by have := hgW h0; omega) hcell)
    Mild.trans (Mild.put (Nat.le_refl _)) (Below.refl _ _) (fun _ => rfl)
    (fun pre W => Mild w.heap.size W0.heap.size W0 W ∧ MapIs W w.heap.size (h.mc + 2 * pre.length) (fun n => (unC h.f pre n).map h.bl))
    (fun _ _ _ => False)
    (OwnFrom.and (Mild.own w.heap.size W0 (Nat.le_refl _) (Nat.le_refl _)) (map_own (by omega) _ _))
    (fun _ _ _ _ _ hs _ _ => hs)
    ⟨Mild.refl _ _ _, hM0⟩
    (fun x a' _ => a' = { tmps := #[.pointer (some ⟨p, 0, none⟩), .int .i64 n, undef, undef, .map none, .pointer (some ⟨w1.heap.size, 0, none⟩), .int .i64 (kt : Int), undef, x.1.2.1, undef, undef, .pointer (some ⟨p, 0, none⟩), .pointer (some ⟨p, 0, none⟩), .pointer (some ⟨p, 6, none⟩), .map (some h.bm), .map (some w.heap.size), .int .i64 n, .pointer (some ⟨p, 0, none⟩), .pointer (some ⟨p, 0, none⟩), .pointer (some ⟨p, 7, none⟩), .slice ca h.cs.length cc, .int .i64 (h.cs.length : Int), .int .i64 (kt : Int), .pointer (some ⟨p, 0, none⟩), .pointer (some ⟨p, 0, none⟩), .pointer (some ⟨p, 7, none⟩), .slice ca h.cs.length cc, .int .i64 (kt : Int), .slice aU m cU, .func (.func 85) #[] #[.pointer (some ⟨w1.heap.size + 1, 0, none⟩)], .int .i64 (x.1.1 : Int), x.1.2.1, undef, undef, undef, undef, undef, undef, undef, undef], defers := [] })
    (fun x a' _ X Y row hs hg hr => hs)
    ?assign ?body ?done ?stop
  case assign =>
    rintro l pre ⟨⟨ix, v, cl⟩, hx⟩ W K hi hK
    obtain ⟨xa, xc, hv⟩ := own_slice hx.at_.1
    simp only at hv
    subst hv
    dsimp only [encC]
    have hsem := @Oper.semAt_some
    gi_wp2
    exact hK _ _ (KeepsFrom.refl _ _) (Mild.refl _ _ _) hi rfl
  case body =>
    rintro l pre ⟨⟨ix, v, cl⟩, hx⟩ a' W hl ⟨r, hr⟩ ⟨hMi, hMp⟩ rfl hlt
    have hlen0 : pre.length < m := hlt
    obtain ⟨xa, xc, hv⟩ := own_slice hx.at_.1
    simp only at hv
    subst hv
    dsimp only
    have hsem := @Oper.semAt_some
    gi_wp2
    refine ⟨trivial, ?_⟩
    refine (CallsIn.inRound l (callsIn_wide.2 (bhold_any _ _ _ _))).mono ?_
    rintro e w5 ⟨rfl, rfl⟩
    gi_wp2
    have hsW := hMi.size
    obtain ⟨Wi, hWi⟩ : ∃ Wi, W.alloc (.cells #[.slice xa cl.length xc] 99) = Wi := ⟨_, rfl⟩
    have hsi : Wi.heap.size = W.heap.size + 1 := by rw [← hWi]; simp
    have hbi : Wi.heap[W.heap.size]? = some (.cells #[.slice xa cl.length xc] 99 (0, 0)) := by rw [← hWi]; exact World.alloc_heap_new _ _
    have hri : Wi.heap[l]? = some (.loop r) := by rw [← hWi, Below.heap_alloc _ _ _ (Array.getElem?_eq_some_iff.1 hr).1]; exact hr
    have hMi2 : Mild w.heap.size W0.heap.size W0 Wi := by rw [← hWi]; exact hMi.alloc hsW _
    have hMp2 := hMp.keep (show Wi.heap[w.heap.size]? = W.heap[w.heap.size]? by rw [← hWi]; exact Below.heap_alloc _ _ _ (by omega))
    have hKf : KeepsFrom W0.heap.size W Wi := by rw [← hWi]; exact (KeepsOthers.alloc _ _).from _
    rw [hWi]
    clear hWi
    obtain ⟨g2, hg2a, hg2c⟩ : ∃ g2, (0 < cl.length → xa = some ⟨g2, 0, none⟩ ∧ g2 < w.heap.size) ∧ ∀ j (hj : j < cl.length), Wi.cell? ⟨g2, 0 + j * 2, none⟩ = some (.string cl[j].1) ∧ Wi.cell? ⟨g2, 0 + j * 2 + 1, none⟩ = some (.pointer (adr (cl[j].2.map h.bl))) := by
      have hrow := hx.at_.1
      simp only at hrow
      rcases hrow.2 with ⟨e, h0⟩ | ⟨g2, cap, cur, e, _, hh, _⟩
      · exact ⟨0, fun h => by omega, fun j hj => by omega⟩
      · simp only [Value.slice.injEq] at e
        obtain ⟨rfl, _, rfl⟩ := e
        have hg2 := (Array.getElem?_eq_some_iff.1 hh).1
        refine ⟨g2, fun _ => ⟨rfl, hg2⟩, fun j hj => ?_⟩
        have hk : Wi.heap[g2]? = w.heap[g2]? := (hMi2.block g2 (by omega) (by omega)).trans (hB0.block g2 hg2)
        obtain ⟨v1, v2⟩ := holdV_at h.bl hj
        rw [Nat.zero_add]
        refine ⟨(World.cell?_of_block (w := w) (a := ⟨g2, j * 2, none⟩) hk).trans ?_, (World.cell?_of_block (w := w) (a := ⟨g2, j * 2 + 1, none⟩) hk).trans ?_⟩
        · rw [hrow.cellAt (j * 2) (by omega)]; exact v1
        · rw [hrow.cellAt (j * 2 + 1) (by omega)]; exact v2
    obtain ⟨el2, hel2⟩ : ∃ el2 : Nat → HolT h.made, ∀ j (hj : j < cl.length), (el2 j).1 = (j, cl[j]) :=
      ⟨fun j => if hj : j < cl.length then ⟨(j, cl[j]), hx.ok _ (List.getElem_mem hj)⟩ else ⟨(j, (ByteArray.empty, none)), ⟨by show 0 ≤ _; omega, fun i e => by cases e⟩⟩, fun j hj => by simp only; rw [dif_pos hj]⟩
    have hlen2 := hx.len
    simp only at hlen2
    have HEL2 := hide hel2
    refine wpIn_rangeFunc_ownN (l₀ := l) (r₀ := r) rfl hri (by omega) (gf := 86) (lb := #[.pointer (some ⟨W.heap.size, 0, none⟩)]) rfl trivial (enters_of Tryz.func86 (by kernel_rfl) rfl)
      ((bhold_stops 7 (by omega) W.heap.size g2 0 xc cl.length xa (fun h0 => (hg2a h0).1) (fun j => .string (cl.getD j (ByteArray.empty, none)).1) (fun j => .pointer (adr ((cl.getD j (ByteArray.empty, none)).2.map h.bl))) el2 (encH h.bl) (fun j hj => by
          unfold encH; rw [hel2 j hj, List.getD_eq_getElem?_getD, List.getElem?_eq_getElem hj]; rfl) (Mild w.heap.size Wi.heap.size) (fun h0 A B hk => ⟨hk.block _ (by omega) (by omega), hk.block g2 (by have := (hg2a h0).2; omega) (by have := (hg2a h0).2; omega)⟩) (by omega) Wi hbi (fun h0 => by have := (hg2a h0).2; omega) (fun j hj => by
          rw [List.getD_eq_getElem?_getD, List.getElem?_eq_getElem hj]; exact hg2c j hj)).inRound l)
      Mild.trans (Mild.put (Nat.le_refl _)) (Below.refl _ _) (fun _ => rfl)
      (fun pre2 X => (Mild w.heap.size W0.heap.size W0 X ∧ MapIs X w.heap.size (h.mc + 2 * pre.length + pre2.length) (fun n => (unH (unC h.f pre) pre2 n).map h.bl)) ∧ KeepsFrom W0.heap.size Wi X)
      (fun _ _ _ => False)
      (OwnFrom.and (OwnFrom.and (Mild.own w.heap.size W0 (Nat.le_refl _) (by omega)) (map_own (by omega) _ _)) (ownFrom_keepsFrom (by omega)))
      (fun _ _ _ _ _ hs _ _ => hs)
      ⟨⟨hMi2, hMp2⟩, KeepsFrom.refl _ _⟩
      (fun y a' X => ∃ Bx, X.heap[Bx]? = some (Obj.cells #[.string y.1.2.1, .pointer (adr (y.1.2.2.map h.bl))] 70 (0, 0)) ∧ a' = { tmps := #[.pointer (some ⟨p, 0, none⟩), .int .i64 n, undef, undef, .map none, .pointer (some ⟨w1.heap.size, 0, none⟩), .int .i64 (kt : Int), undef, .slice xa cl.length xc, undef, .pointer (some ⟨Bx, 0, none⟩), .pointer (some ⟨p, 0, none⟩), .pointer (some ⟨p, 0, none⟩), .pointer (some ⟨p, 6, none⟩), .map (some h.bm), .map (some w.heap.size), .int .i64 n, .pointer (some ⟨p, 0, none⟩), .pointer (some ⟨p, 0, none⟩), .pointer (some ⟨p, 7, none⟩), .slice ca h.cs.length cc, .int .i64 (h.cs.length : Int), .int .i64 (kt : Int), .pointer (some ⟨p, 0, none⟩), .pointer (some ⟨p, 0, none⟩), .pointer (some ⟨p, 7, none⟩), .slice ca h.cs.length cc, .int .i64 (kt : Int), .slice aU m cU, .func (.func 85) #[] #[.pointer (some ⟨w1.heap.size + 1, 0, none⟩)], .int .i64 (ix : Int), .slice xa cl.length xc, .slice xa cl.length xc, .func (.func 86) #[] #[.pointer (some ⟨W.heap.size, 0, none⟩)], .int .i64 (y.1.1 : Int), .agg #[.string y.1.2.1, .pointer (adr (y.1.2.2.map h.bl))], undef, undef, undef, undef], defers := [] })
      (fun y a' _ X Y row hs hg hr => by
        obtain ⟨Bx, h1, h2⟩ := hs
        refine ⟨Bx, (hg.block Bx (Array.getElem?_eq_some_iff.1 h1).1 (fun e => ?_)).trans h1, h2⟩
        obtain ⟨_, o, ho, hc⟩ := hr Bx e.symm
        rw [h1] at ho; cases ho; cases hc)
      ?assign2 ?body2 ?done2 ?stop2
    case assign2 =>
      rintro l2 pre2 ⟨⟨iy, ny, oy⟩, hy⟩ X K ⟨⟨hi1, hi2⟩, hi3⟩ hK
      dsimp only [encH]
      have hsem := @Oper.semAt_some
      gi_wp2
      exact hK _ _ ((KeepsOthers.alloc _ _).from _) ((Mild.refl _ _ _).alloc (Nat.le_trans (by omega) (hi3.size)) _) ⟨⟨hi1.alloc hi1.size _, hi2.keep (Below.heap_alloc _ _ _ hi2.lt)⟩, hi3.trans ((KeepsOthers.alloc _ _).from _)⟩ ⟨X.heap.size, World.alloc_heap_new X _, rfl⟩
    case body2 =>
      rintro l2 pre2 ⟨⟨iy, ny, oy⟩, hy⟩ a' X hl2 ⟨r2, hr2⟩ ⟨⟨hi1, hi2⟩, hi3⟩ ⟨Bx, hBx, rfl⟩ hlt2
      dsimp only
      have hsem := @Oper.semAt_some
      have e1 : X.cell? ⟨w1.heap.size, 0, none⟩ = some (.map (some w.heap.size)) := cell_of ((hi1.block _ (by omega) (by omega)).trans hbx) 0 rfl
      have e2 : X.cell? ⟨Bx, 0, none⟩ = some (.string ny) := cell_of hBx 0 rfl
      have e3 : X.cell? ⟨Bx, 1, none⟩ = some (.pointer (adr (oy.map h.bl))) := cell_of hBx 1 rfl
      have hsX := hi3.size
      have hpl := hlen0
      gi_wp2
      refine ⟨trivial, ?_⟩
      refine (CallsIn.inRound l2 (CallsIn.inRound l (callsIn_wide.2 (put_of hi2 ny hy.1 (by show _ < (9223372036854775807 : Nat); have : pre2.length < cl.length := hlt2; omega) oy)))).mono ?_
      rintro e X2 ⟨rfl, hm2, ho2⟩
      have hkf2 : KeepsFrom W0.heap.size X X2 := ⟨ho2.size, fun k o hB hk _ => (ho2.block k (Array.getElem?_eq_some_iff.1 hk).1 (fun e => by have : k = w.heap.size := e; omega)).trans hk⟩
      gi_wp2
      refine ⟨⟨hkf2.size, fun k o hB => hkf2.same k o (by omega)⟩, Mild.only ho2 hsX, ⟨hi1.trans (Mild.only ho2 (Nat.le_trans (by omega) hsX)), ?_⟩, hi3.trans hkf2⟩
      have : h.mc + 2 * pre.length + (pre2 ++ [(⟨(iy, ny, oy), hy⟩ : HolT h.made)]).length = h.mc + 2 * pre.length + pre2.length + 1 := by simp; omega
      rw [this]
      refine hm2.eq ?_
      simp [unH]
    case done2 => 
      rintro xs2 X hS2 ⟨⟨hi1, hi2⟩, hi3⟩
      have hS3 : xs2 = (List.range cl.length).reverse.map el2 := hS2
      have hl2 : xs2.length = cl.length := by rw [hS3]; simp
      have hu2 : unH (unC h.f pre) xs2 = Dsk.undo cl (unC h.f pre) := by
        rw [hS3]
        unfold unH Dsk.undo
        rw [List.foldl_map, List.foldl_reverse]
        exact foldr_range (fun y f => Dsk.putN y f) _ cl (fun j => (el2 j).1.2) (fun j hj => by rw [hel2 j hj])
      rw [hu2] at hi2
      rw [hl2] at hi2
      have hsX := hi3.size
      have hkW : KeepsFrom W0.heap.size W X := hKf.trans hi3
      gi_wp2
      refine ⟨hkW, ⟨hi1.os.trans hMi.os.symm, hi1.tape.trans hMi.tape.symm, hi1.output.trans hMi.output.symm, hkW.size, fun k h1 h2 => (hi1.block k h1 h2).trans (hMi.block k h1 h2).symm⟩, hi1, ?_⟩
      refine (hi2.mono ?_).eq ?_
      · simp; omega
      · simp [unC]
    case stop2 =>
      rintro c pre W _ h
      exact h.elim
  case done =>
    rintro D xs X hD hS ⟨hi1, hi2⟩ hDd
    have hS3 : xs = (List.range m).reverse.map el := hS
    have hl2 : xs.length = m := by rw [hS3]; simp
    have hu2 : unC h.f xs = Dsk.undoAll (h.cs.drop kt) h.f := by
      rw [hS3]
      unfold unC Dsk.undoAll
      rw [List.foldl_map, List.foldl_reverse]
      have hml : (h.cs.drop kt).length = m := by simp; omega
      rw [← hml]
      refine foldr_range (fun y f => Dsk.undo y f) _ (h.cs.drop kt) (fun j => (el j).1.2.2) (fun j hj => ?_)
      rw [hel j (by omega), List.getElem_drop]
      have hj2 : kt + j < h.cs.length := by omega
      simp only [List.getD_eq_getElem?_getD, List.getElem?_eq_getElem hj2]
      rfl
    rw [hu2, hl2] at hi2
    clear hu2 hS3 hS hl2
    have e1 : X.cell? ⟨w1.heap.size, 0, none⟩ = some (.map (some w.heap.size)) := cell_of ((hi1.block _ (by omega) (by omega)).trans hbx) 0 rfl
    gi_wp2
    refine ⟨by simp, .inl ⟨_, _, rfl, run_takeDeferred hDd, ?_⟩⟩
    have hB1 : Below w.heap.size w X := hB0.trans ⟨hi1.os, hi1.tape, hi1.output, hi1.size, fun k hk => hi1.block k (by omega) (by omega)⟩
    refine ⟨_, results_tmp rfl _ _ _, w.heap.size, _, rfl, Nat.le_refl _, ?_, hi2.keep (World.putObj_heap_other (by omega)), hB1.trans (belowK_b (w := w) (Nat.le_refl _) X D (.deferred (some [])) _ (by omega) hDd rfl rfl)⟩
    omega
  case stop =>
    rintro D c pre W _ _ h _
    exact h.elim

end Go.Proofs.YtpbiongoigbmpaaGreat
