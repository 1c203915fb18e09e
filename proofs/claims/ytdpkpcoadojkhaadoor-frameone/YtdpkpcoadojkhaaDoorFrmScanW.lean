/-
  Scan.
-/
import Derived.Test.YtdpkpcoadojkhaaDoorFrmSeqW
namespace Go.Proofs.YtdpkpcoadojkhaaDoor
open Go.RowKit Go.Shelf
open Frm (Fr)

theorem Keep3.grown {A B : World} {row : Option Nat} (h : A.grownBy B row) (hr : ∀ k q t z, A.heap[k]? = some (Obj.cells #[q, t, z] 28 (0, 0)) → some k ≠ row) : Keep3 A B := fun k q t z hk =>
  (h.block k (Array.getElem?_eq_some_iff.1 hk).1 (hr k q t z hk)).trans hk

theorem Keep3.box {W : World} {B : Nat} {t : TypeId} {v : Value} (h : Boxed W B t v) (u : Value) : Keep3 W (W.setCell ⟨B, 0, none⟩ u) := Keep3.grown (grownBy_setCell' W B u) (fun k q t z hk e => by
  simp only [Option.some.injEq] at e
  subst e
  rw [show W.heap[k]? = _ from h] at hk
  cases hk)

/-- 'append(own, f)': as a run; no block that is just one frame's cells is written (a row of one is full). -/
theorem run_appF (w : World) (B : Nat) (ty : TypeId) (v : Value) (fs : List Fr) (hown : OwnF 28 w B v fs) (hne : v = .slice none 0 0 ∨ 0 < fs.length) (ad : Addr) (f : Fr) (hc : ∀ j u, [fq f, fb f, fz f][j]? = some u → w.cell? (ad.add j) = some u) (hl : fs.length ≤ 100000) (hB : B ≤ w.heap.size) :
    ∃ v' w', (Builtin.append_ #[34, 34] ty #[v, .slice (some ad) 1 1]).run Tryd.prog w = .ok v' w' ∧ OwnF 28 w' B v' (fs ++ [f]) ∧ w.grownBy w' v.ownBlock ∧ Keep3 w w' := by
  obtain ⟨i0, hi, hz0, hz1, hz2⟩ := info_parts info_frm
  have h1c : ∀ u ∈ [fq f, fb f, fz f], u.oneCell' = true := fun u hu => fcells_one [f] u (by simpa [fcells] using hu)
  obtain ⟨v', w', hrun, r1, r2, _⟩ := run_append_own (P := Tryd.prog) w B 34 ty 28 i0 _ 3 32 Tryd.underlying34 hi hz0 hz1 hz2 rfl (by decide) v fs.length (fcells fs) hown ad 1 1 [fq f, fb f, fz f] rfl hc h1c (by unfold maxLen; omega) (by omega) hB
  refine ⟨v', w', hrun, ?_, r2, ?_⟩
  · unfold OwnF
    rw [fcells_app, List.length_append]
    exact r1
  · rcases hown.2 with ⟨rfl, _⟩ | ⟨g, cap, cur, rfl, hb, hg, hnc, hcm, hcs, htake⟩
    · exact Keep3.grown r2 (fun k q t z _ => by simp [Value.ownBlock])
    · by_cases hroom : fs.length + 1 ≤ cap
      · refine Keep3.grown r2 (fun k q t z hk e => ?_)
        simp only [Value.ownBlock, Option.some.injEq] at e
        subst e
        rw [hg] at hk
        simp only [Option.some.injEq, Obj.cells.injEq] at hk
        rw [hk.1] at hcs
        simp at hcs
        rcases hne with h | h
        · cases h
        · omega
      · have hr := run_append_grow (P := Tryd.prog) w 34 ty 28 i0 _ Tryd.underlying34 hi hz0 ⟨g, 0, none⟩ fs.length cap (fcells fs) (by rw [hz1]; exact fcells_len fs) (World.ownsRow.cells hown (g := g) rfl) ad 1 1 [fq f, fb f, fz f] (by rw [hz1]; rfl) hc (by omega) (by omega) (growslice_fits (by omega) (by rw [hz2]; omega))
        rw [hr] at hrun
        injection hrun with _ hw
        rw [← hw]
        exact fun k q t z hk => (heap_alloc_old w.drew _ k (Array.getElem?_eq_some_iff.1 hk).1).trans hk

theorem wpListIn_appF {F : Fence} {n : Nat} (w : World) {ops : Array Oper} {rest : List Oper} {o : Oper} {a : Act} {Q : Exit → Act → World → Prop}
    (hg : o.guard = none) (s x : Operand) (hop : o.op = Op.call { callee := Callee.builtin Builtin.append, args := #[s, x], argTypes := #[34, 34] })
    (B : Nat) (v : Value) (fs : List Fr) (hs : a.eval s = v) (hown : OwnF 28 w B v fs) (hne : v = .slice none 0 0 ∨ 0 < fs.length) (ad : Addr) (hx : a.eval x = .slice (some ad) 1 1) (f : Fr) (hc : ∀ j u, [fq f, fb f, fz f][j]? = some u → w.cell? (ad.add j) = some u) (hl : fs.length ≤ 100000) (hB : B ≤ w.heap.size)
    (hK : ∀ v' w', OwnF 28 w' B v' (fs ++ [f]) → w.grownBy w' v.ownBlock → Keep3 w w' → wpListIn F n Tryd.prog ops Q rest (a.put o.dst v') w') :
    wpListIn F n Tryd.prog ops Q (o :: rest) a w := by
  refine wpListIn_plain hg fun K hK' => ?_
  obtain ⟨v', w', hrun, r1, r2, r3⟩ := run_appF w B o.type v fs hown hne ad f hc hl hB
  unfold Oper.wpIn
  refine ⟨?_, ?_⟩
  · simp [Oper.about, hop, resolve, Target.leads, Sem.run_pure]
  · rw [Oper.semAt_plain F _ _ (by rw [hop]; intro c hc'; cases hc')]
    simp [execOp, hop, resolve, invoke, builtin, hs, hx, hrun, Result.andThen]
    exact hK' _ _ (hK v' w' r1 r2 r3)

def vals (pre : List OkFr) : List Fr := pre.map (fun y => y.1)
def total (l : List Fr) : Nat := (Frm.bytes l).length
theorem total_le : ∀ pre : List OkFr, total (vals pre) ≤ 2024 * pre.length
  | [] => Nat.le_refl _
  | y :: pre => by
    have h1 := total_le pre
    have h2 := Frm.size_le y.2
    unfold total vals at *
    rw [List.map_cons, Frm.bytes_cons, List.length_append, List.length_cons]
    unfold Frm.size at h2
    omega
theorem total_snoc (pre : List OkFr) (x : OkFr) : total (vals (pre ++ [x])) = total (vals pre) + Frm.size x.1 := by
  unfold total vals
  rw [List.map_append, Frm.bytes_app, List.length_append]
  simp [Frm.bytes, Frm.size]

/-- Behind 'l = append(l, f)': the boxes, the slice, the loop's own frame. -/
theorem scan_step {W w1 : World} {B Bx : Nat} {v v' : Value} {fs : List Fr} {f : Fr} {tmp : Obj} {z : Int} {q t u : Value}
    (hv : Boxed W B 34 v) (hrow : W.ownsRow B 28 3 v fs.length (fcells fs)) (hS : Boxed W (B + 1) 3 (.int .i64 z)) (hX : W.heap[Bx]? = some (Obj.cells #[q, t, u] 28 (0, 0))) (hB : B ≤ W.heap.size)
    (hown' : OwnF 28 w1 B v' (fs ++ [f])) (hgrow : (W.alloc tmp).grownBy w1 v.ownBlock) (hk3 : Keep3 (W.alloc tmp) w1) :
    ∃ v2, (∃ g cap, v2 = .slice (some ⟨g, 0, none⟩) (fs.length + 1) cap) ∧ v2 = v' ∧ Boxed w1 B 34 v ∧ Boxed (w1.setCell ⟨B, 0, none⟩ v') B 34 v' ∧ OwnF 28 (w1.setCell ⟨B, 0, none⟩ v') B v' (fs ++ [f]) ∧ KeepsOthers W (w1.setCell ⟨B, 0, none⟩ v') ∧ Below B W (w1.setCell ⟨B, 0, none⟩ v') ∧
      Boxed (w1.setCell ⟨B, 0, none⟩ v') (B + 1) 3 (.int .i64 z) ∧ Keep3 W (w1.setCell ⟨B, 0, none⟩ v') ∧ (w1.setCell ⟨B, 0, none⟩ v').heap[Bx]? = some (Obj.cells #[q, t, u] 28 (0, 0)) := by
  have h1 : w1.ownsRow B 28 3 v' (fs.length + 1) (fcells (fs ++ [f])) := by
    have := hown'
    unfold OwnF at this
    rwa [List.length_append] at this
  obtain ⟨g, cap, hg⟩ := ownsRow_succ h1
  obtain ⟨a1, a2, a3, a4, a5⟩ := hv.appended (by decide) hrow hB (Nat.le_refl _) h1 hgrow
  have hS1 : Boxed w1 (B + 1) 3 (.int .i64 z) := (hS.alloc tmp).kept hgrow ((hS.alloc tmp).not_row (by decide) (hrow.alloc tmp))
  have hk4 : Keep3 W (w1.setCell ⟨B, 0, none⟩ v') := ((Keep3.alloc W tmp).trans hk3).trans (Keep3.grown (grownBy_setCell' w1 B v') (fun k q t z hk e => by
    simp only [Option.some.injEq] at e
    subst e
    rw [show w1.heap[k]? = _ from a1] at hk
    cases hk))
  refine ⟨v', ⟨g, cap, hg⟩, rfl, a1, a2, ?_, a4, a5, hS1.other (by omega) _, hk4, hk4 _ _ _ _ hX⟩
  unfold OwnF
  rw [List.length_append]
  exact a3

def Scans (s : List UInt8) (e : Ending) (w' : World) (B : Nat) : Prop := ∃ v, e = .returned (.tuple #[v, .int .i64 ((total (Frm.scan s) : Nat) : Int)]) ∧ OwnF 28 w' B v (Frm.scan s)

set_option maxRecDepth 100000 in
set_option maxHeartbeats 2000000 in
theorem scan_any (s : List UInt8) (w : World) (hs : s.length ≤ 90000) (hT : Tab w) :
    Calls Tryd.prog 15 #[.string (Num.bs s)] w fun e w' => Scans s e w' w.heap.size ∧ Below w.heap.size w w' := by
  refine (callsIn_wide (n := 4)).1 ?_
  refine callsIn_of_wp_marks Tryd.func15 rfl trivial ?_ rfl
  simp only [Tryd.ntmps15, List.size_toArray, List.length_cons, List.length_nil, Nat.reduceAdd, Nat.reduceSub, Array.replicate_succ, Array.replicate_zero, List.push_toArray, List.append_toArray, List.nil_append, List.cons_append]
  gi_wp2_with (refine ⟨trivial, ?_⟩; gi_at_call 28; refine (callsIn_wide.2 (frames_any _ _)).mono ?_; rintro e w' ⟨rfl, rfl⟩)
  have bL := ((Boxed.new w 34 (.slice none 0 0)).alloc (.cells #[.int .i64 0] 3)).alloc (.cells #[.string (Num.bs s)] 9)
  have bS := (Boxed.new (w.alloc (.cells #[.slice none 0 0] 34)) 3 (.int .i64 0)).alloc (.cells #[.string (Num.bs s)] 9)
  have bN := Boxed.new ((w.alloc (.cells #[.slice none 0 0] 34)).alloc (.cells #[.int .i64 0] 3)) 9 (.string (Num.bs s))
  simp only [World.size_alloc] at bS bN
  have hB0 : Below w.heap.size w (((w.alloc (.cells #[.slice none 0 0] 34)).alloc (.cells #[.int .i64 0] 3)).alloc (.cells #[.string (Num.bs s)] 9)) := (((Below.refl _ w).alloc (Nat.le_refl _) _).alloc (by simp) _).alloc (by simp; omega) _
  have hsz : (((w.alloc (.cells #[.slice none 0 0] 34)).alloc (.cells #[.int .i64 0] 3)).alloc (.cells #[.string (Num.bs s)] 9)).heap.size = w.heap.size + 3 := by simp
  obtain ⟨W0, hW0⟩ : ∃ W0, ((w.alloc (.cells #[.slice none 0 0] 34)).alloc (.cells #[.int .i64 0] 3)).alloc (.cells #[.string (Num.bs s)] 9) = W0 := ⟨_, rfl⟩
  rw [hW0] at bL bS bN hB0 hsz ⊢
  clear hW0
  have hpos := hT.pos
  refine wpIn_rangeFunc_ownH rfl (by omega) (gf := 31) (lb := #[.pointer (some ⟨w.heap.size + 1 + 1, 0, none⟩)]) rfl trivial (enters_of Tryd.func31 (by kernel_rfl) rfl)
    (frames_stops 3 (by omega) (w.heap.size + 1 + 1) w.heap.size 90001 s (by unfold maxLen; omega) (by omega) W0 (by omega) hpos bN.cell (hT.below hB0)) kpF_t (kpF_b (by omega)) (Below.refl _ _) (fun _ => rfl)
    (fun pre W => ((∃ v, Boxed W w.heap.size 34 v ∧ W.ownsRow w.heap.size 28 3 v (vals pre).length (fcells (vals pre)) ∧ (v = .slice none 0 0 ∨ 0 < (vals pre).length)) ∧ Boxed W (w.heap.size + 1) 3 (.int .i64 ((total (vals pre) : Nat) : Int))) ∧ Below w.heap.size w W)
    (fun _ _ _ => False)
    (OwnFrom.and (OwnFrom.and (Own.from (holdsRow_own w.heap.size w.heap.size 34 28 3 (fun pre => (vals pre).length) (fun pre => fcells (vals pre)) (fun pre v => v = .slice none 0 0 ∨ 0 < (vals pre).length)) _) (Own.from (boxed_own _ _ _) _)) (ownFrom_below (Nat.le_refl _) (by omega)))
    (fun _ _ _ _ _ hs _ _ => hs)
    ⟨⟨⟨_, bL, World.ownsRow_nil _ _ _ _, .inl rfl⟩, bS⟩, hB0⟩
    (fun x a' W => ∃ Bx, W.heap[Bx]? = some (Obj.cells #[.int .u64 ((x.1.1 : Nat) : Int), .string (Num.bs x.1.2), .int .i64 ((Frm.size x.1 : Nat) : Int)] 28 (0, 0)) ∧ a' = { tmps := #[.string (Num.bs s), undef, .slice none 0 0, .int .i64 0, .pointer (some ⟨w.heap.size, 0, none⟩), .pointer (some ⟨w.heap.size + 1, 0, none⟩), .pointer (some ⟨Bx, 0, none⟩), .string (Num.bs s), .func (.func 31) #[] #[.pointer (some ⟨w.heap.size + 1 + 1, 0, none⟩)], .agg #[.int .u64 ((x.1.1 : Nat) : Int), .string (Num.bs x.1.2), .int .i64 ((Frm.size x.1 : Nat) : Int)], undef, undef, undef, undef, undef, undef, undef, undef, undef, undef], defers := [] })
    (fun x a' _ X Y row hs hg hr => by
      obtain ⟨Bx, h1, h2⟩ := hs
      refine ⟨Bx, (hg.block Bx (Array.getElem?_eq_some_iff.1 h1).1 (fun e => ?_)).trans h1, h2⟩
      obtain ⟨_, o, ho, hc⟩ := hr Bx e.symm
      rw [h1] at ho; cases ho; cases hc)
    ?assign ?body ?done ?stop
  case assign =>
    rintro l pre x W K ⟨⟨⟨v, hv, hrow, hnil⟩, hS⟩, hB1⟩ hK
    obtain ⟨⟨q, t⟩, hok⟩ := x
    dsimp only [encF, fq, fb, fz]
    have hsem := @Oper.semAt_some
    gi_wp2
    exact hK _ _ ((KeepsOthers.alloc _ _).from _) ⟨(Below.refl _ W).alloc hB1.size _, Keep3.alloc _ _⟩ ⟨⟨⟨v, hv.alloc _, hrow.alloc _, hnil⟩, hS.alloc _⟩, hB1.alloc hB1.size _⟩ ⟨W.heap.size, World.alloc_heap_new W _, rfl⟩
  case body =>
    rintro l pre x a' W hl _ ⟨⟨⟨v, hv, hrow, hnil⟩, hS⟩, hB1⟩ ⟨Bx, hX, rfl⟩ hlt
    obtain ⟨⟨q, t⟩, hok⟩ := x
    have hc := hv.cell
    obtain ⟨x0, x1, x2⟩ := three_cells hX
    have hvl : (vals pre).length ≤ 100000 := by unfold vals; rw [List.length_map]; omega
    have hsW := hB1.size
    have hts := total_le pre
    have hss := Frm.size_le hok
    have HTS := hide (total_snoc pre ⟨(q, t), hok⟩)
    have hsem := @Oper.semAt_some
    gi_wp2_with (gi_at_builtin; refine wpListIn_appF _ rfl _ _ rfl w.heap.size _ (vals pre) rfl (hrow.alloc _) hnil ⟨W.heap.size, 0, none⟩ rfl (q, t) (fcells_three_new _ _ _ _ _) hvl (by simp; omega) ?_; intro v' w1 hown' hgrow hk3; obtain ⟨v2, ⟨g', cap', hv2⟩, rfl, hv1, hv3, hr2, hk2, hb2, hS2, hk4, hX2⟩ := scan_step hv hrow hS hX hsW hown' hgrow hk3; subst hv2; have hc1 := hv1.cell; have hf1 := hv1.frozen; have hc2 := hS2.cell; have hf2 := hS2.frozen; obtain ⟨y0, y1, y2⟩ := three_cells hX2)
    have hrow3 : ((w1.setCell ⟨w.heap.size, 0, none⟩ (.slice (some ⟨g', 0, none⟩) ((vals pre).length + 1) cap')).setCell ⟨w.heap.size + 1, 0, none⟩ (.int .i64 (((total (vals pre) : Nat) : Int) + ((Frm.size (q, t) : Nat) : Int)))).ownsRow w.heap.size 28 3 (.slice (some ⟨g', 0, none⟩) ((vals pre).length + 1) cap') (vals (pre ++ [⟨(q, t), hok⟩])).length (fcells (vals (pre ++ [⟨(q, t), hok⟩]))) := by
      have := World.ownsRow.kept hr2 (grownBy_setCell' _ (w.heap.size + 1) (.int .i64 (((total (vals pre) : Nat) : Int) + ((Frm.size (q, t) : Nat) : Int)))) (.inr (hS2.not_row (by decide) hr2).symm)
      unfold vals
      rw [List.map_append]
      exact this
    have hk5 := hk4.trans (Keep3.box hS2 (.int .i64 (((total (vals pre) : Nat) : Int) + ((Frm.size (q, t) : Nat) : Int))))
    have hb3 := hb2.setCell (p := ⟨w.heap.size + 1, 0, none⟩) (by simp) (.int .i64 (((total (vals pre) : Nat) : Int) + ((Frm.size (q, t) : Nat) : Int)))
    refine ⟨(hk2.trans (KeepsOthers.setCell _ _ _)).from _, ⟨hb3, hk5⟩, ⟨⟨⟨_, hv3.other (by omega) _, hrow3, .inr (by unfold vals; simp)⟩, ?_⟩, hB1.trans hb3⟩⟩
    rw [HTS.out, Int.natCast_add]
    exact hS2.set _
  case done =>
    rintro D ys W hD hys ⟨⟨⟨v, hv, hrow, hnil⟩, hS⟩, hB1⟩ hK
    have hvs : vals ys = Frm.scan s := hys
    rw [hvs] at hrow hS
    clear hvs hys hnil
    have hc := hv.cell
    have hc2 := hS.cell
    gi_wp2
    have hmx : Tryd.prog.follows .mixedOrders = true := by kernel_rfl
    have hls : Tryd.prog.follows .lateStores = true := by kernel_rfl
    gi_region_o
    gi_wp2
    refine ⟨by simp, .inl ⟨_, _, rfl, run_takeDeferred (w := W.drew) hK, ?_⟩⟩
    have hrow2 : (W.drew).ownsRow w.heap.size 28 3 v (Frm.scan s).length (fcells (Frm.scan s)) := hrow
    have hB2 : Below w.heap.size w W.drew := hB1.drew
    refine ⟨_, results_tmp2 rfl _ _ _, ⟨v, rfl, ownsRow_putObj hrow2 _ (o := .deferred (some [])) hK rfl⟩, hB2.trans (belowK_b (w := w) (Nat.le_refl _) W.drew D (.deferred (some [])) _ (by omega) hK rfl rfl)⟩
  case stop =>
    rintro D c pre W _ _ h _
    exact h.elim
end Go.Proofs.YtdpkpcoadojkhaaDoor
