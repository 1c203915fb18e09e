/-
  The document's Leave.
-/
import Derived.Test.YtjbdofjheeljkaaLdgRDoneW
namespace Go.Proofs.Ytjbdofjheeljkaa
open Go.RowKit
open Ldg (De Le Rd Rl)

theorem rdestsE : Try.prog.underlying 29 = some (.slice (Try.prog.elem 29)) := by kernel_rfl
theorem elem_rdests : Try.prog.elem 29 = 99 := by kernel_rfl
theorem size_rdest (w : World) : (sizeOf 99).run Try.prog w = .ok 3 w := by
  obtain ⟨i, hi, _, hs, _⟩ := info_parts info_rdest
  simp [sizeOf, typeInfo, hi, hs]
theorem rupto_dests (g l c n : Nat) (h : n ≤ c) (w : World) : (Instr.slice 29 (.slice (some ⟨g, 0, none⟩) l c) none (some (.int .i64 (n : Int))) none).run Try.prog w = .ok (.slice (some ⟨g, 0, none⟩) n c) w := by
  rw [run_slice_h (P := Try.prog) w 29 (some ⟨g, 0, none⟩) l c rdestsE .i64 (n : Int) (by omega) (by omega), elem_rdests, size_rdest]
  simp [Result.andThen, sliced, Addr.add]
theorem rfrom_dests (g l c n : Nat) (h : n ≤ l) (hlc : l ≤ c) : ∃ o, (∀ w, (Instr.slice 29 (.slice (some ⟨g, 0, none⟩) l c) (some (.int .i64 (n : Int))) none none).run Try.prog w = .ok (.slice (some ⟨g, o, none⟩) (l - n) (c - n)) w) ∧ (0 < l - n → o = n * 3) := by
  refine ⟨if c = n then 0 else n * 3, fun w => ?_, fun hh => by rw [if_neg (by omega)]⟩
  rw [run_slice_l (P := Try.prog) w 29 (some ⟨g, 0, none⟩) l c rdestsE .i64 (n : Int) (by omega) (by omega), elem_rdests, size_rdest]
  by_cases hc : c = n
  · simp [Result.andThen, sliced, hc]
  · by_cases h0 : n = 0
    · subst h0; simp [Result.andThen, sliced, Addr.add, hc]
    · simp [Result.andThen, sliced, Addr.add, hc, show ¬ n * 3 = 0 by omega]
theorem rrows_one {w : World} {B : Nat} {ps : List RV} (h : ∀ p ∈ ps, w.ownsRow B 5 1 p.2 p.1.all.length (bV p.1.all)) : ∀ u ∈ rrows ps, u.oneCell' = true := by
  intro u hu
  obtain ⟨p, hp, hu⟩ := List.mem_flatMap.1 hu
  obtain ⟨a', c', ep, _⟩ := lown_slice (h p hp)
  simp only [rrow, ep, List.mem_cons, List.not_mem_nil, or_false] at hu
  rcases hu with rfl | rfl | rfl <;> rfl
/-- A stretch of the row, as read. -/
theorem OwnR.part {w : World} {B g n c : Nat} {ps : List RV} (h : OwnR w B (.slice (some ⟨g, 0, none⟩) n c) ps) (i : Nat) (l : List RV) (hl : ∀ j (hj : j < l.length), ∃ hi : i + j < ps.length, ps[i + j] = l[j]) : ∀ j u, (rrows l)[j]? = some u → w.cell? ((⟨g, i * 3, none⟩ : Addr).add j) = some u := by
  intro j u hj
  have hn : n = ps.length := by
    rcases h.row.2 with ⟨h0, _⟩ | ⟨g', cap, cur, e1, _⟩
    · cases h0
    · simp only [Value.slice.injEq] at e1; exact e1.2.1
  subst hn
  have hjl := (List.getElem?_eq_some_iff.1 hj).1
  rw [rrows_len] at hjl
  have e : j = j / 3 * 3 + j % 3 := by omega
  have hq : j / 3 < l.length := by omega
  have hr : j % 3 < 3 := Nat.mod_lt _ (by omega)
  obtain ⟨hi, hp⟩ := hl (j / 3) hq
  rw [e, rrows_at l _ _ hq hr, ← hp] at hj
  rw [Addr.add_lit, World.ownsRow.cellAt h.row _ (by omega), show i * 3 + j = (i + j / 3) * 3 + j % 3 by omega, rrows_at ps _ _ hi hr]
  exact hj
theorem apart_iff {ps : List RV} : (∀ i j (hi : i < ps.length) (hj : j < ps.length), i ≠ j → ∀ b, ps[i].2.ownBlock = some b → ps[j].2.ownBlock ≠ some b) ↔ ps.Pairwise (fun p q => ∀ b, p.2.ownBlock = some b → q.2.ownBlock ≠ some b) := by
  rw [List.pairwise_iff_getElem]
  constructor
  · intro h i j hi hj hij
    exact h i j hi hj (by omega)
  · intro h i j hi hj hij b hb
    rcases Nat.lt_or_ge i j with hlt | hge
    · exact h i j hi hj hlt b hb
    · exact fun e => h j i hj hi (by omega) b e hb
/-- 'append(append([]Dest{}, out[:k]...), out[k+1:]...)'. -/
theorem OwnR.drop1 {w wa : World} {B g n c k o : Nat} {ps : List RV} (h : OwnR w B (.slice (some ⟨g, 0, none⟩) n c) ps) (hk : k < ps.length) (hl : ps.length ≤ 1000) (ho : 0 < n - (k + 1) → o = (k + 1) * 3) (hwa : w.alloc (.cells #[] 99) = wa) (hB : B ≤ w.heap.size) :
    ∃ (e1 : Option Addr) (c1 : Nat) (wb : World) (e2 : Option Addr) (c2 : Nat) (wc : World),
      (Builtin.append_ #[29, 29] 29 #[.slice (some ⟨w.heap.size, 0, none⟩) 0 0, .slice (some ⟨g, 0, none⟩) k c]).run Try.prog wa = .ok (.slice e1 k c1) wb ∧
      (Builtin.append_ #[29, 29] 29 #[.slice e1 k c1, .slice (some ⟨g, o, none⟩) (n - (k + 1)) (c - (k + 1))]).run Try.prog wb = .ok (.slice e2 (n - 1) c2) wc ∧
      OwnR wc B (.slice e2 (n - 1) c2) (ps.take k ++ ps.drop (k + 1)) ∧ Below w.heap.size wa wb ∧ Below w.heap.size wb wc := by
  have hn : n = ps.length := by
    rcases h.row.2 with ⟨h0, _⟩ | ⟨g', cap, cur, e1, _⟩
    · cases h0
    · simp only [Value.slice.injEq] at e1; exact e1.2.1
  subst hn
  obtain ⟨i0, hi, hz0, hz1, hz2⟩ := info_parts info_rdest
  have ka : Below w.heap.size w wa := by rw [← hwa]; exact (Below.refl _ _).alloc (Nat.le_refl _) _
  have sa : wa.heap.size = w.heap.size + 1 := by rw [← hwa]; simp
  have hemp : wa.ownsRow B 99 3 (.slice (some ⟨w.heap.size, 0, none⟩) 0 0) 0 [] :=
    ⟨rfl, .inr ⟨w.heap.size, 0, #[], rfl, hB, by rw [← hwa]; show (w.heap.push _)[w.heap.size]? = _; simp, Nat.le_refl _, Nat.zero_le _, rfl, rfl⟩⟩
  have hA := h.below ka
  have hpart1 := hA.part 0 (ps.take k) (fun j hj => by
    have hj2 : j < k ∧ j < ps.length := by rw [List.length_take] at hj; omega
    refine ⟨by omega, ?_⟩
    simp)
  obtain ⟨v1, wb, hr1, ho1, hg1, hob1⟩ := Ldg.app_own wa B 29 29 99 i0 _ 3 48 rdests_under hi hz0 hz1 hz2 rfl (by decide) _ 0 [] hemp ⟨g, 0, none⟩ k c (rrows (ps.take k)) (by rw [rrows_len, List.length_take, Nat.min_eq_left (by omega)]) (by simpa using hpart1) (rrows_one (fun p hp => hA.all p (List.mem_of_mem_take hp))) (by unfold maxLen; omega) (by omega) (by omega)
  rw [Nat.zero_add, List.nil_append] at ho1
  obtain ⟨e1, c1, hv1, _⟩ := lown_slice ho1
  subst hv1
  have hb1 : ∀ x, (Value.slice e1 k c1).ownBlock = some x → w.heap.size ≤ x := fun x hx => by
    rcases hob1 with e | e
    · rw [e] at hx; have := Option.some.inj hx; simp at this; omega
    · rw [e] at hx; have := Option.some.inj hx; omega
  have kb0 : Below w.heap.size wa wb := grown_bel hg1 (by omega) (fun x e => by have := Option.some.inj e; simp at this; omega)
  have kb := ka.trans kb0
  have hB2 := h.below kb
  have hpart2 : ∀ j u, (rrows (ps.drop (k + 1)))[j]? = some u → wb.cell? ((⟨g, o, none⟩ : Addr).add j) = some u := by
    by_cases h0 : 0 < ps.length - (k + 1)
    · rw [ho h0]
      exact hB2.part (k + 1) (ps.drop (k + 1)) (fun j hj => by
        have hj2 : j < ps.length - (k + 1) := by simpa using hj
        exact ⟨by omega, by simp⟩)
    · have : ps.drop (k + 1) = [] := List.drop_eq_nil_of_le (by omega)
      rw [this]
      intro j u hj
      simp [rrows] at hj
  obtain ⟨v2, wc, hr2, ho2, hg2, hob2⟩ := Ldg.app_own wb B 29 29 99 i0 _ 3 48 rdests_under hi hz0 hz1 hz2 rfl (by decide) _ k (rrows (ps.take k)) ho1 ⟨g, o, none⟩ (ps.length - (k + 1)) (c - (k + 1)) (rrows (ps.drop (k + 1))) (by rw [rrows_len, List.length_drop]) hpart2 (rrows_one (fun p hp => hB2.all p (List.mem_of_mem_drop hp))) (by unfold maxLen; omega) (by omega) (by have := kb.size; omega)
  rw [show k + (ps.length - (k + 1)) = ps.length - 1 by omega] at ho2
  obtain ⟨e2, c2, hv2, _⟩ := lown_slice ho2
  subst hv2
  have kc0 : Below w.heap.size wb wc := grown_bel hg2 kb.size (fun x e => hb1 x e)
  have hpl : (ps.take k ++ ps.drop (k + 1)).length = ps.length - 1 := by simp; omega
  refine ⟨e1, c1, wb, e2, c2, wc, hr1, hr2, ⟨?_, fun p hp => ?_, ?_⟩, kb0, kc0⟩
  · rw [hpl, rrows_app]; exact ho2
  · have hpp : p ∈ ps := by
      rcases List.mem_append.1 hp with hp | hp
      · exact List.mem_of_mem_take hp
      · exact List.mem_of_mem_drop hp
    have ha := h.all p hpp
    exact lown_keep ha (fun x e => (kb.trans kc0).block x (lown_lt ha e).1)
  · rw [apart_iff, ← List.eraseIdx_eq_take_drop_succ]
    exact (apart_iff.1 h.apart).sublist (List.eraseIdx_sublist ps k)
set_option maxRecDepth 100000 in
set_option maxHeartbeats 1600000 in
theorem rleave_any {w : World} {v : Value} {R : Rl} (h : RlAt w v R) (hf : R.Ok) (n : ByteArray) :
    Calls Try.prog 49 #[v, .string n] w (RTwoE w (R.leave n)) := by
  have HRL := hide h
  obtain ⟨a, c, qs, rfl, hc, hd, hds⟩ := h
  have hmn := rmany_of hf hd
  have hnb := hf.nb
  have hnm := rnames_eq hd
  have hall : ∀ d ∈ R.dests, d.all.length ≤ 10000000 := fun d hd => by have := (hf.each d hd).ends; omega
  obtain ⟨m, hm⟩ : ∃ m, qs.length = m := ⟨_, rfl⟩
  have hpl := fun W (hW : Below w.heap.size w W) => rplace_any (R.first : Int) (R.next : Int) a c qs n W (hds.below hW) (by omega)
  rw [hm] at hc hmn HRL hpl ⊢
  have hlc := fun W (hW : Below w.heap.size w W) => rcopied_any (HRL.out.below hW) hf.many (fun d hd => by have := hall d hd; omega)
  have HLC := hide hlc
  have HALL := hide hall
  have HF := hide hf
  have HPL := hide hpl
  have HD := hide hd
  have HDS := hide hds
  have HM := hide hm
  have HNM := hide hnm
  obtain ⟨wA, hwA⟩ : ∃ W, (w.alloc (.cells #[.int .u64 (R.first : Int), .int .u64 (R.next : Int), .slice a m c] 31)).alloc (.cells #[.int .u64 0, .int .u64 0, .slice none 0 0] 31) = W := ⟨_, rfl⟩
  have hbx := RBox2.made w (.int .u64 (R.first : Int)) (.int .u64 (R.next : Int)) a m c
  rw [hwA] at hbx
  have z0 := lcell_of hbx.b0 0 rfl
  have z1 := lcell_of hbx.b0 1 rfl
  have z2 := lcell_of hbx.b0 2 rfl
  have y0 := lcell_of hbx.b1 0 rfl
  have y1 := lcell_of hbx.b1 1 rfl
  have y2 := lcell_of hbx.b1 2 rfl
  have fy := lfrozen_of hbx.b1
  have HBX := hide hbx
  obtain ⟨T, hT⟩ : ∃ T, R.leave n = T := ⟨_, rfl⟩
  rw [hT]
  unfold Rl.leave Rl.names at hT
  rw [hnm] at hT
  have HT := hide hT
  clear hlc hpl hm hds hd hf hc hbx hnm hall hT
  go_enter Try.func49, Try.ntmps49
  go_wp2_with fail
  refine (HPL.out _ HBX.out.bel).mono ?_
  rintro e w1 ⟨rfl, hb1⟩
  have HX1 := hide (HBX.out.then hb1)
  clear z0 z1 z2 y0 y1 y2 fy hwA hb1
  have z0 := lcell_of HX1.out.b0 0 rfl
  have z1 := lcell_of HX1.out.b0 1 rfl
  have z2 := lcell_of HX1.out.b0 2 rfl
  have y0 := lcell_of HX1.out.b1 0 rfl
  have y1 := lcell_of HX1.out.b1 1 rfl
  have y2 := lcell_of HX1.out.b1 2 rfl
  have fy := lfrozen_of HX1.out.b1
  rcases Ldg.plc_cases (qs.map (fun p => p.1.name)) n with ⟨hp, _⟩ | ⟨k, hk, hp, _⟩
  · have hT := HT.out
    rw [if_pos hp] at hT
    subst hT
    rw [hp]
    clear HT hp
    go_wp2_with fail
    refine bodyPost_ret (v := .tuple #[.agg #[.int .u64 0, .int .u64 0, .slice none 0 0], .int .i64 5]) (by simp [results, Try.results49, go_sem, y0, y1, y2]) rfl ?_
    exact RTwoE.err HX1.out 5 rfl
  · rw [List.length_map] at hk
    have hT := HT.out
    rw [hp, if_neg (by omega), Int.toNat_natCast] at hT
    have HTT := hide hT
    have hkm : k < m := by have := HM.out; omega
    have hk0 : ¬ (k : Int) < 0 := by omega
    rw [hp]
    clear hp HT hT
    go_wp2_with fail
    refine (HLC.out _ HX1.out.bel).mono ?_
    rintro e w3 ⟨ea, n', ec, ps, rfl, hnp, hps, hown, hb3⟩
    have HX3 := hide (HX1.out.then hb3)
    have hx3 := HX3.out
    have s1 := hx3.size
    have HPS := hide hps
    obtain ⟨N, hN⟩ : ∃ N, w3.heap.size = N := ⟨_, rfl⟩
    rw [hN] at s1
    have hs1 := HX1.out.size
    have hln := congrArg List.length hps
    rw [List.length_map] at hln
    have hdm : R.dests.length = m := by rw [HD.out, List.length_map, HM.out]
    have hkn : k < ps.length := by omega
    have hn4 : n' ≤ 4 := by have := HF.out.many; omega
    obtain ⟨g, rfl, hnn, hBg, hgl⟩ := rown_some hown (by omega)
    clear hnn
    have hnec : n' ≤ ec := by
      obtain ⟨a', c', e, h1⟩ := lown_slice hown.row
      simp only [Value.slice.injEq] at e
      omega
    obtain ⟨wB, hwB⟩ : ∃ W, w3.alloc (.cells #[.int .u64 (R.first : Int), .int .u64 (R.next : Int), .slice (some ⟨g, 0, none⟩) n' ec] 31) = W := ⟨_, rfl⟩
    have o0 : wB.heap[N]? = some (.cells #[.int .u64 (R.first : Int), .int .u64 (R.next : Int), .slice (some ⟨g, 0, none⟩) n' ec] 31 (0, 0)) := by
      rw [← hwB, ← hN]; show (w3.heap.push _)[w3.heap.size]? = _; simp
    have kB : Below w3.heap.size w3 wB := by rw [← hwB]; exact (Below.refl _ _).alloc (Nat.le_refl _) _
    have sB : wB.heap.size = N + 1 := by rw [← hwB]; simp [hN]
    obtain ⟨k1, hk1⟩ : ∃ k1, k + 1 = k1 := ⟨_, rfl⟩
    have hk1i : (k : Int) + 1 = (k1 : Int) := by omega
    have HK1 := hide hk1
    obtain ⟨o, hs2, ho⟩ := rfrom_dests g n' ec k1 (by omega) hnec
    have hs3 := fun W => rupto_dests g n' ec k (by omega) W
    obtain ⟨q1, hq1⟩ : ∃ x, n' - k1 = x := ⟨_, rfl⟩
    obtain ⟨q2, hq2⟩ : ∃ x, ec - k1 = x := ⟨_, rfl⟩
    obtain ⟨nd, hnd⟩ : ∃ x, n' - 1 = x := ⟨_, rfl⟩
    have hd1 := fun (W Wa : World) (hW : Below wB.heap.size wB W) (hWa : W.alloc (.cells #[] 99) = Wa) => ((hown.below kB).below hW).drop1 (o := o) hkn (by omega) (by rw [hk1]; exact ho) hWa (by have := hb3.size; have := hW.size; omega)
    rw [hk1, hq1, hq2, hnd] at hd1
    rw [hq1, hq2] at hs2
    have HD1 := hide hd1
    have x0 := lcell_of o0 0 rfl
    have x1 := lcell_of o0 1 rfl
    have x2 := lcell_of o0 2 rfl
    have HO0 := hide o0
    have HXB := hide (hx3.then kB)
    have HSB := hide sB
    clear hx3 hown hps hb3 o0 kB sB hnp hln hd1 hq1 hq2 hnd ho hk1 hdm z0 z1 z2 y0 y1 y2 fy
    go_wp2_with fail
    refine wp_region_growK (fun x => x = N) [([1, 2, 3, 4, 6, 7, 8, 9, 10], 0), ([], 5), ([], 11)] [] [12, 13] (by kernel_rfl) (by kernel_rfl) (by kernel_rfl) (by kernel_rfl) ?_
    intro wq hbq
    simp only [stagesOfK, getLK, pickLK]
    obtain ⟨wa, hwa⟩ : ∃ W, wq.alloc (.cells #[] 99) = W := ⟨_, rfl⟩
    obtain ⟨e1, c1, wb, e2, c2, wc, hap1, hap2, hoc, kb, kc⟩ := HD1.out wq wa hbq hwa
    have sq : N + 1 ≤ wq.heap.size := by have := HSB.out; have := hbq.size; omega
    have oq := (hbq.block N (by have := HSB.out; omega)).trans HO0.out
    have xq := HXB.out.then hbq
    have ka : Below wq.heap.size wq wa := by rw [← hwa]; exact (Below.refl _ _).alloc (Nat.le_refl _) _
    have sa : wa.heap.size = wq.heap.size + 1 := by rw [← hwa]; simp
    have k1' : Kept (fun x => x = N) wq wa := Kept.of_below ka (fun x hx => by omega)
    have k2' : Kept (fun x => x = N) wa wb := Kept.of_below kb (fun x hx => by omega)
    have k3' : Kept (fun x => x = N) wb wc := Kept.of_below kc (fun x hx => by omega)
    have kall := ka.trans (kb.trans kc)
    have o3 := (kall.block N (by omega)).trans oq
    have b3 := (kall.block (w.heap.size + 1) (by omega)).trans xq.b1
    have l3 : Below w.heap.size w wc := xq.bel.trans (kall.mono xq.bel.size)
    obtain ⟨wE, hwE⟩ : ∃ W, wc.setCell ⟨N, 2, none⟩ (.slice e2 nd c2) = W := ⟨_, rfl⟩
    have o4 : wE.heap[N]? = some (.cells #[.int .u64 (R.first : Int), .int .u64 (R.next : Int), .slice e2 nd c2] 31 (0, 0)) := by
      rw [← hwE]; exact box_set o3 _
    have k34 : Kept (fun b => b ≠ N) wc wE := by rw [← hwE]; exact Kept.setCell (Kept.refl _ _) (fun _ h e => h e) _
    have b4 := (k34.block (w.heap.size + 1) (by omega)).trans b3
    have l4 := l3.trans (k34.bel (B := w.heap.size) (fun b hb => by omega))
    have ho4 := hoc.other o3 (by decide) (by decide) k34
    have e2c := lcell_of oq 2 rfl
    have w32 := lcell_of o3 2 rfl
    have w3f := lfrozen_of o3
    have p0 := lcell_of o4 0 rfl
    have p1 := lcell_of o4 1 rfl
    have p2 := lcell_of o4 2 rfl
    have d0 := lcell_of b4 0 rfl
    have d1 := lcell_of b4 1 rfl
    have d2 := lcell_of b4 2 rfl
    have fd := lfrozen_of b4
    have HO4 := hide ho4
    have HB4 := hide b4
    have HL4 := hide l4
    have HAP1 := hide hap1
    have HAP2 := hide hap2
    have inh : Nonempty (GrK (fun x => x = N) wq) := GrK.some _ wq
    have zz := fun z : GrK (fun x => x = N) wq => z.cell (a := ⟨N, 2, none⟩) rfl e2c
    clear oq xq ka sa kall o3 b3 l3 k34 o4 b4 l4 ho4 hoc hap1 hap2 kb kc hbq e2c x0 x1 x2
    refine wpG_stageK ?_
    repeat (go_big_quiet_step (fail))
    refine wpQuiet_nil ?_
    clear zz inh
    go_wp2_with fail
    refine OnToK.mk k1' (Sub.refl _) ?_
    refine wpG_stageK (wpQuiet_nil ?_)
    go_wp2_with (at_builtin; refine Ldg.wpList_app_run rfl _ _ _ _ rfl rfl rfl HAP1.out ?_)
    go_wp2_with fail
    refine OnToK.mk k2' (Sub.refl _) ?_
    refine wpG_stageK (wpQuiet_nil ?_)
    go_wp2_with (at_builtin; refine Ldg.wpList_app_run rfl _ _ _ _ rfl rfl rfl HAP2.out ?_)
    go_wp2_with fail
    refine OnToK.mk k3' (Sub.refl _) ?_
    refine wpG_lastK (wpQuiet_nil ?_)
    go_wp2_with fail
    refine bodyPost_ret (v := .tuple #[.agg #[.int .u64 (R.first : Int), .int .u64 (R.next : Int), .slice e2 nd c2], .int .i64 0]) (by simp [results, Try.results49, go_sem, d0, d1, d2]) rfl ?_
    have hfin := rled_told (w := w) (first := R.first) (next := R.next) HO4.out HB4.out HL4.out (.int .u64 (R.first : Int)) (.int .u64 (R.next : Int)) rfl rfl rfl
    rw [List.map_append, List.map_take, List.map_drop, HPS.out] at hfin
    rw [← HTT.out, HK1.out]
    exact ⟨_, rfl, hfin⟩
end Go.Proofs.Ytjbdofjheeljkaa
