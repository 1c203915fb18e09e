/-
  The document's Done.
-/
import Derived.Test.YtjbdofjheeljkaaLdgRJoinW
namespace Go.Proofs.Ytjbdofjheeljkaa
open Go.RowKit
open Ldg (De Le Rd Rl)

theorem rrows_same (ps : List RV) (k : Nat) (hk : k < ps.length) (q : RV) (h : rrow q = rrow ps[k]) : rrows (ps.set k q) = rrows ps := by
  have h2 := rrows_set ps k 0 (.string q.1.name) q hk (by omega) (by rw [← h]; rfl)
  rw [← h2]
  have h3 : (rrows ps)[k * 3 + 0]? = some (.string q.1.name) := by
    rw [rrows_at ps k 0 hk (by omega), ← h]; rfl
  obtain ⟨h4, h5⟩ := List.getElem?_eq_some_iff.1 h3
  rw [← h5, List.set_getElem_self]
/-- One byte of one destination is another. -/
theorem OwnR.setAll {w : World} {B n c : Nat} {ea : Option Addr} {ps : List RV} (h : OwnR w B (.slice ea n c) ps) {k : Nat} (hk : k < ps.length) {nm : ByteArray} {s : Nat} {al : List Nat} {b vc ln : Nat} (hz : ps[k] = (⟨nm, s, al⟩, .slice (some ⟨b, 0, none⟩) ln vc)) (i kd : Nat) :
    OwnR (w.setCell ⟨b, i, none⟩ (.int .u8 (kd : Int))) B (.slice ea n c) (ps.set k (⟨nm, s, al.set i kd⟩, .slice (some ⟨b, 0, none⟩) ln vc)) := by
  have hkb : ps[k].2.ownBlock = some b := by rw [hz]; rfl
  have hab := h.all ps[k] (List.getElem_mem hk)
  rw [hz] at hab
  simp only at hab
  have hln : ln = al.length := by
    obtain ⟨a', c', e, _⟩ := lown_slice hab
    simp only [Value.slice.injEq] at e
    exact e.2.1
  subst hln
  have ho : ∀ x, x ≠ b → (w.setCell ⟨b, i, none⟩ (.int .u8 (kd : Int))).heap[x]? = w.heap[x]? := fun x hx => Below.heap_setCell _ _ _ _ hx
  refine ⟨?_, fun p hp => ?_, fun x y hx hy hxy z hz2 => ?_⟩
  · rw [List.length_set, rrows_same ps k hk _ (by rw [hz]; rfl)]
    exact lown_keep h.row (fun x e => ho x (fun e2 => h.kind (List.getElem_mem hk) hkb (by rw [← e2]; exact e)))
  · obtain ⟨x, hx, rfl⟩ := List.mem_iff_getElem.1 hp
    have hx' : x < ps.length := by simpa using hx
    by_cases e : k = x
    · subst e
      rw [List.getElem_set_self]
      have := lown_set hab i (.int .u8 (kd : Int))
      have e2 : (bV al).set i (.int .u8 (kd : Int)) = bV (al.set i kd) := by simp [bV]
      rw [e2] at this
      show World.ownsRow _ _ _ _ _ (al.set i kd).length _
      rw [List.length_set]
      exact this
    · rw [List.getElem_set_ne e]
      exact lown_keep (h.all ps[x] (List.getElem_mem hx')) (fun y hy => ho y (fun e2 => h.apart k x hk hx' e b hkb (by rw [← e2]; exact hy)))
  · have hx' : x < ps.length := by simpa using hx
    have hy' : y < ps.length := by simpa using hy
    have e1 : ∀ j (hj : j < (ps.set k (⟨nm, s, al.set i kd⟩, .slice (some ⟨b, 0, none⟩) al.length vc)).length) (hj' : j < ps.length), ((ps.set k (⟨nm, s, al.set i kd⟩, .slice (some ⟨b, 0, none⟩) al.length vc))[j]).2 = ps[j].2 := fun j hj hj' => by
      by_cases e : k = j
      · subst e; rw [List.getElem_set_self, hz]
      · rw [List.getElem_set_ne e]
    rw [e1 x hx hx'] at hz2
    rw [e1 y hy hy']
    exact h.apart x y hx' hy' hxy z hz2
set_option maxRecDepth 100000 in
set_option maxHeartbeats 1600000 in
theorem rdone_any {w : World} {v : Value} {R : Rl} (h : RlAt w v R) (hf : R.Ok) (n : ByteArray) (s kd : Nat) :
    Calls Try.prog 51 #[v, .string n, .int .u64 (s : Int), .int .u8 (kd : Int)] w (RTwoE w (R.done n s kd)) := by
  have HRL := hide h
  obtain ⟨a, c, qs, rfl, hc, hd, hds⟩ := h
  have hmn := rmany_of hf hd
  have hnb := hf.nb
  have hnm := rnames_eq hd
  have hall : ∀ d ∈ R.dests, d.all.length ≤ 10000000 := fun d hd => by have := (hf.each d hd).ends; omega
  obtain ⟨m, hm⟩ : ∃ m, qs.length = m := ⟨_, rfl⟩
  have hpl := fun W (hW : Below w.heap.size w W) => rplace_any (R.first : Int) (R.next : Int) a c qs n W (hds.below hW) (by omega)
  rw [hm] at hc hmn HRL hpl ⊢
  have hlc := fun W (hW : Below w.heap.size w W) => rcopied_any (HRL.out.below hW) hf.many (fun d hd => by have := hall d hd; omega)
  have HLC := hide hlc
  have HALL := hide hall
  have HF := hide hf
  have HPL := hide hpl
  have HD := hide hd
  have HDS := hide hds
  have HM := hide hm
  have HNM := hide hnm
  obtain ⟨wA, hwA⟩ : ∃ W, (w.alloc (.cells #[.int .u64 (R.first : Int), .int .u64 (R.next : Int), .slice a m c] 31)).alloc (.cells #[.int .u64 0, .int .u64 0, .slice none 0 0] 31) = W := ⟨_, rfl⟩
  have hbx := RBox2.made w (.int .u64 (R.first : Int)) (.int .u64 (R.next : Int)) a m c
  rw [hwA] at hbx
  have z0 := lcell_of hbx.b0 0 rfl
  have z1 := lcell_of hbx.b0 1 rfl
  have z2 := lcell_of hbx.b0 2 rfl
  have y0 := lcell_of hbx.b1 0 rfl
  have y1 := lcell_of hbx.b1 1 rfl
  have y2 := lcell_of hbx.b1 2 rfl
  have fy := lfrozen_of hbx.b1
  have HBX := hide hbx
  have hwt := fun W (hW : Below w.heap.size w W) => rwaits_any (HRL.out.below hW) hf n s
  obtain ⟨T, hT⟩ : ∃ T, R.done n s kd = T := ⟨_, rfl⟩
  rw [hT]
  have hlk : R.look n = Ldg.lookAt R.dests (Ldg.plc (qs.map (fun p => p.1.name)) n) := by unfold Rl.look Rl.names; rw [hnm]
  unfold Rl.waits at hwt
  unfold Rl.done at hT
  unfold Rl.names at hT
  rw [hnm] at hT
  rw [hlk] at hT
  simp only [hlk] at hwt
  have HT := hide hT
  have HW := hide hwt
  clear hlc hpl hm hds hd hf hc hbx hnm hall hT hwt hlk
  go_enter Try.func51, Try.ntmps51
  go_wp2_with fail
  refine (HPL.out _ HBX.out.bel).mono ?_
  rintro e w1 ⟨rfl, hb1⟩
  have HX1 := hide (HBX.out.then hb1)
  clear z0 z1 z2 y0 y1 y2 fy hwA hb1
  have z0 := lcell_of HX1.out.b0 0 rfl
  have z1 := lcell_of HX1.out.b0 1 rfl
  have z2 := lcell_of HX1.out.b0 2 rfl
  have y0 := lcell_of HX1.out.b1 0 rfl
  have y1 := lcell_of HX1.out.b1 1 rfl
  have y2 := lcell_of HX1.out.b1 2 rfl
  have fy := lfrozen_of HX1.out.b1
  rcases Ldg.plc_cases (qs.map (fun p => p.1.name)) n with ⟨hp, _⟩ | ⟨k, hk, hp, _⟩
  · have hT := HT.out
    rw [Ldg.lookAt_no _ hp] at hT
    simp only at hT
    subst hT
    rw [hp]
    clear HT hp HW
    go_wp2_with fail
    refine bodyPost_ret (v := .tuple #[.agg #[.int .u64 0, .int .u64 0, .slice none 0 0], .int .i64 5]) (by simp [results, Try.results51, go_sem, y0, y1, y2]) rfl ?_
    exact RTwoE.err HX1.out 5 rfl
  · rw [List.length_map] at hk
    have hkd' : k < R.dests.length := by rw [HD.out, List.length_map]; exact hk
    have hT := HT.out
    have hw := HW.out
    rw [Ldg.lookAt_at hp hkd', hp, Int.toNat_natCast] at hT
    rw [Ldg.lookAt_at hp hkd'] at hw
    simp only at hT hw
    have hkm : k < m := by have := HM.out; omega
    have hk0 : ¬ (k : Int) < 0 := by omega
    rw [hp]
    clear hp HT HW
    have hok := HF.out.each _ (List.getElem_mem hkd')
    obtain ⟨d, hdd⟩ : ∃ d, R.dests[k] = d := ⟨_, rfl⟩
    rw [hdd] at hT hok
    simp only [hdd] at hw
    have HDD := hide hdd
    have HW := hide hw
    by_cases hkd : kd = 97 ∨ kd = 114
    · rw [if_neg (fun x => x hkd)] at hT
      obtain ⟨wt, hwt⟩ : ∃ x, d.pend.contains s = x := ⟨_, rfl⟩
      rw [hwt] at hT
      have HT := hide hT
      have HWT := hide hwt
      clear hT hw hdd hwt
      have hcl := fun W (hW : Below w.heap.size w W) => HW.out W hW
      simp only [HWT.out] at hcl
      have HCL := hide hcl
      clear hcl HW
      rcases hkd with rfl | rfl
      · go_wp2_with fail
        refine (HCL.out _ HX1.out.bel).mono ?_
        rintro e w2 ⟨rfl, hb2⟩
        have HX2 := hide (HX1.out.then hb2)
        clear z0 z1 z2 y0 y1 y2 fy hb2
        have z0 := lcell_of HX2.out.b0 0 rfl
        have z1 := lcell_of HX2.out.b0 1 rfl
        have z2 := lcell_of HX2.out.b0 2 rfl
        have y0 := lcell_of HX2.out.b1 0 rfl
        have y1 := lcell_of HX2.out.b1 1 rfl
        have y2 := lcell_of HX2.out.b1 2 rfl
        have fy := lfrozen_of HX2.out.b1
        cases wt with
        | false =>
          have hT := HT.out
          rw [if_pos rfl] at hT
          subst hT
          clear HT
          go_wp2_with fail
          refine bodyPost_ret (v := .tuple #[.agg #[.int .u64 0, .int .u64 0, .slice none 0 0], .int .i64 13]) (by simp [results, Try.results51, go_sem, y0, y1, y2]) rfl ?_
          exact RTwoE.err HX2.out 13 rfl
        | true =>
          have hT := HT.out
          rw [if_neg (by decide)] at hT
          have HTT := hide hT
          clear HT hT
          go_wp2_with fail
          refine (HLC.out _ HX2.out.bel).mono ?_
          rintro e w3 ⟨ea, n', ec, ps, rfl, hnp, hps, hown, hb3⟩
          have HX3 := hide (HX2.out.then hb3)
          have hx3 := HX3.out
          have s1 := hx3.size
          have HPS := hide hps
          obtain ⟨N, hN⟩ : ∃ N, w3.heap.size = N := ⟨_, rfl⟩
          rw [hN] at s1
          have hs2 := HX2.out.size
          have hln := congrArg List.length hps
          rw [List.length_map] at hln
          have hkn : k < ps.length := by omega
          have hn4 : n' ≤ 4 := by have := HF.out.many; omega
          obtain ⟨g, rfl, hnn, hBg, hgl⟩ := rown_some hown (by omega)
          clear hnn
          obtain ⟨nm, sn, al, va, vc, hz, c0, c1, c2, fz⟩ := hown.get hkn
          have hpd : (⟨nm, sn, al⟩ : Rd) = d := by
            rw [← HDD.out]
            have h1 : (ps.map Prod.fst)[k]'(by rw [List.length_map]; exact hkn) = ps[k].1 := List.getElem_map _
            have h2 : ps[k].1 = ⟨nm, sn, al⟩ := by rw [hz]
            rw [← h2, ← h1]
            simp only [hps]
          subst hpd
          obtain ⟨q1', q2', q3'⟩ := Ldg.pend_has.1 HWT.out
          simp only at q1' q2' q3'
          obtain ⟨i, hi⟩ : ∃ i, s - sn = i := ⟨_, rfl⟩
          have hil : i < al.length := by omega
          have hab := hown.all ps[k] (List.getElem_mem hkn)
          rw [hz] at hab
          simp only at hab
          obtain ⟨b, rfl⟩ : ∃ b, va = some ⟨b, 0, none⟩ := by
            rcases hab.2 with ⟨h0, h1⟩ | ⟨gg, cap, cur, e, _⟩
            · omega
            · simp only [Value.slice.injEq] at e; exact ⟨gg, e.1⟩
          obtain ⟨hbs, hbB⟩ := lown_lt hab (g := b) rfl
          obtain ⟨wB, hwB⟩ : ∃ W, w3.alloc (.cells #[.int .u64 (R.first : Int), .int .u64 (R.next : Int), .slice (some ⟨g, 0, none⟩) n' ec] 31) = W := ⟨_, rfl⟩
          have o0 : wB.heap[N]? = some (.cells #[.int .u64 (R.first : Int), .int .u64 (R.next : Int), .slice (some ⟨g, 0, none⟩) n' ec] 31 (0, 0)) := by
            rw [← hwB, ← hN]; show (w3.heap.push _)[w3.heap.size]? = _; simp
          have kB : Below w3.heap.size w3 wB := by rw [← hwB]; exact (Below.refl _ _).alloc (Nat.le_refl _) _
          have xB := hx3.then kB
          have sB : wB.heap.size = N + 1 := by rw [← hwB]; simp [hN]
          have hownB := hown.below kB
          have x0 := lcell_of o0 0 rfl
          have x1 := lcell_of o0 1 rfl
          have x2 := lcell_of o0 2 rfl
          obtain ⟨ln, hlnn⟩ : ∃ x, al.length = x := ⟨_, rfl⟩
          have hen := hok.ends
          simp only at hen
          have hw2 : IntKind.u64.wrap ((s : Int) - (sn : Int)) = (i : Int) := by rw [IntKind.wrap_u64]; omega
          have hw3 : (s : Int) - (sn : Int) = (i : Int) := by omega
          have hw4 : IntKind.u64.wrap (i : Int) = (i : Int) := by rw [IntKind.wrap_u64]; omega
          rw [hw3] at hw2
          clear hw2
          have hil2 : i < ln := by omega
          rw [hlnn] at c2
          have HOWB := hide hownB
          have HXB := hide xB
          have HO0 := hide o0
          have hmem : ((⟨nm, sn, al⟩, .slice (some ⟨b, 0, none⟩) al.length vc) : RV) ∈ ps := by rw [← hz]; exact List.getElem_mem hkn
          have HMEM := hide hmem
          clear hmem
          have HZ := hide hz
          have HSB := hide sB
          have HPK := hide hkn
          have HIL := hide hil
          have HI := hide hi
          have HLNN := hide hlnn
          have r1 := (World.cell?_of_block (w := w3) (a := ⟨g, k * 3 + 1, none⟩) (kB.block g hgl)).trans c1
          have r2 := (World.cell?_of_block (w := w3) (a := ⟨g, k * 3 + 2, none⟩) (kB.block g hgl)).trans c2
          have hgB : g < wB.heap.size := by omega
          have hkn' : k < n' := by omega
          have hbB2 : b < wB.heap.size := by omega
          clear hx3 hown hps hb3 o0 kB xB sB hownB hz hab hlnn hil c0 c1 c2 fz hi hnp hln hok hen q1' q2' q3' z0 z1 z2 y0 y1 y2 fy
          go_wp2_with fail
          refine wp_region_growK (fun x => x = N ∨ x = g) [] [0, 1, 2, 3, 4, 5, 6, 7, 8, 9, 10, 11, 12, 13, 14, 15] [16] (by kernel_rfl) (by kernel_rfl) (by kernel_rfl) (by kernel_rfl) ?_
          intro wq hbq
          simp only [stagesOfK, getLK, pickLK]
          have hoq := HOWB.out.below hbq
          have xq := HXB.out.then hbq
          have o2 := (hbq.block N (by have := HSB.out; omega)).trans HO0.out
          have e2 := lcell_of o2 2 rfl
          have t1 := (hbq.cell (p := ⟨g, k * 3 + 1, none⟩) hgB).trans r1
          have t2 := (hbq.cell (p := ⟨g, k * 3 + 2, none⟩) hgB).trans r2
          have hab := hoq.all _ HMEM.out
          simp only at hab
          have cb : wq.cell? ⟨b, i, none⟩ = some (.int .u8 ((al[i]'HIL.out : Nat) : Int)) := by
            rw [World.ownsRow.cellAt hab i (by have := HIL.out; omega)]
            simp [bV, HIL.out]
          obtain ⟨bv, hbv⟩ : ∃ x, al[i]'HIL.out = x := ⟨_, rfl⟩
          rw [hbv] at cb
          have fb : ∀ j, wq.frozen? ⟨b, j, none⟩ = false := fun j => hab.frozenAt _
          have hse := hoq.setAll HPK.out HZ.out i 97
          have hbN : N ≠ b := fun e => by
            obtain ⟨cc, hcc⟩ := kind_of hab (g := b) rfl
            rw [← e, o2] at hcc
            simp only [Option.some.injEq, Obj.cells.injEq] at hcc
            exact absurd hcc.2.1 (by decide)
          obtain ⟨wE, hwE⟩ : ∃ W, wq.setCell ⟨b, i, none⟩ (.int .u8 97) = W := ⟨_, rfl⟩
          have kE : Kept (fun x => x ≠ b) wq wE := by rw [← hwE]; exact Kept.setCell (Kept.refl _ _) (fun _ h e => h e) _
          have hse2 : OwnR wE w2.heap.size (.slice (some ⟨g, 0, none⟩) n' ec) (ps.set k (⟨nm, sn, al.set i 97⟩, .slice (some ⟨b, 0, none⟩) al.length vc)) := by rw [← hwE]; exact hse
          have oE := (kE.block N hbN).trans o2
          have tE := (kE.block (w.heap.size + 1) (by have := HX2.out.size; omega)).trans xq.b1
          have lE := xq.bel.trans (kE.bel (B := w.heap.size) (fun x hx => by have := HX2.out.size; omega))
          have HSE := hide hse2
          have HTE := hide tE
          have HLE := hide lE
          have inh : Nonempty (GrK (fun x => x = N ∨ x = g) wq) := GrK.some _ wq
          have z1 := fun z : GrK (fun x => x = N ∨ x = g) wq => z.cell (a := ⟨N, 2, none⟩) (.inl rfl) e2
          have z2 := fun z : GrK (fun x => x = N ∨ x = g) wq => z.cell (a := ⟨g, k * 3 + 1, none⟩) (.inr rfl) t1
          have z3 := fun z : GrK (fun x => x = N ∨ x = g) wq => z.cell (a := ⟨g, k * 3 + 2, none⟩) (.inr rfl) t2
          have p0 := lcell_of oE 0 rfl
          have p1 := lcell_of oE 1 rfl
          have p2 := lcell_of oE 2 rfl
          have d0 := lcell_of tE 0 rfl
          have d1 := lcell_of tE 1 rfl
          have d2 := lcell_of tE 2 rfl
          have fd := lfrozen_of tE
          clear hoq xq o2 hab hse hse2 kE oE tE lE hbv hbq x0 x1 x2
          refine wpG_lastK ?_
          repeat (go_big_quiet_step (fail))
          refine wpQuiet_nil ?_
          clear z1 z2 z3 inh
          go_wp2_with fail
          refine bodyPost_ret (v := .tuple #[.agg #[.int .u64 (R.first : Int), .int .u64 (R.next : Int), .slice (some ⟨g, 0, none⟩) n' ec], .int .i64 0]) (by simp [results, Try.results51, go_sem, d0, d1, d2]) rfl ?_
          have hfin := rled_told (w := w) (first := R.first) (next := R.next) HSE.out HTE.out HLE.out (.int .u64 (R.first : Int)) (.int .u64 (R.next : Int)) rfl rfl rfl
          rw [map_set2, HPS.out] at hfin
          rw [← HTT.out, HI.out]
          exact ⟨_, rfl, hfin⟩
      · go_wp2_with fail
        refine (HCL.out _ HX1.out.bel).mono ?_
        rintro e w2 ⟨rfl, hb2⟩
        have HX2 := hide (HX1.out.then hb2)
        clear z0 z1 z2 y0 y1 y2 fy hb2
        have z0 := lcell_of HX2.out.b0 0 rfl
        have z1 := lcell_of HX2.out.b0 1 rfl
        have z2 := lcell_of HX2.out.b0 2 rfl
        have y0 := lcell_of HX2.out.b1 0 rfl
        have y1 := lcell_of HX2.out.b1 1 rfl
        have y2 := lcell_of HX2.out.b1 2 rfl
        have fy := lfrozen_of HX2.out.b1
        cases wt with
        | false =>
          have hT := HT.out
          rw [if_pos rfl] at hT
          subst hT
          clear HT
          go_wp2_with fail
          refine bodyPost_ret (v := .tuple #[.agg #[.int .u64 0, .int .u64 0, .slice none 0 0], .int .i64 13]) (by simp [results, Try.results51, go_sem, y0, y1, y2]) rfl ?_
          exact RTwoE.err HX2.out 13 rfl
        | true =>
          have hT := HT.out
          rw [if_neg (by decide)] at hT
          have HTT := hide hT
          clear HT hT
          go_wp2_with fail
          refine (HLC.out _ HX2.out.bel).mono ?_
          rintro e w3 ⟨ea, n', ec, ps, rfl, hnp, hps, hown, hb3⟩
          have HX3 := hide (HX2.out.then hb3)
          have hx3 := HX3.out
          have s1 := hx3.size
          have HPS := hide hps
          obtain ⟨N, hN⟩ : ∃ N, w3.heap.size = N := ⟨_, rfl⟩
          rw [hN] at s1
          have hs2 := HX2.out.size
          have hln := congrArg List.length hps
          rw [List.length_map] at hln
          have hkn : k < ps.length := by omega
          have hn4 : n' ≤ 4 := by have := HF.out.many; omega
          obtain ⟨g, rfl, hnn, hBg, hgl⟩ := rown_some hown (by omega)
          clear hnn
          obtain ⟨nm, sn, al, va, vc, hz, c0, c1, c2, fz⟩ := hown.get hkn
          have hpd : (⟨nm, sn, al⟩ : Rd) = d := by
            rw [← HDD.out]
            have h1 : (ps.map Prod.fst)[k]'(by rw [List.length_map]; exact hkn) = ps[k].1 := List.getElem_map _
            have h2 : ps[k].1 = ⟨nm, sn, al⟩ := by rw [hz]
            rw [← h2, ← h1]
            simp only [hps]
          subst hpd
          obtain ⟨q1', q2', q3'⟩ := Ldg.pend_has.1 HWT.out
          simp only at q1' q2' q3'
          obtain ⟨i, hi⟩ : ∃ i, s - sn = i := ⟨_, rfl⟩
          have hil : i < al.length := by omega
          have hab := hown.all ps[k] (List.getElem_mem hkn)
          rw [hz] at hab
          simp only at hab
          obtain ⟨b, rfl⟩ : ∃ b, va = some ⟨b, 0, none⟩ := by
            rcases hab.2 with ⟨h0, h1⟩ | ⟨gg, cap, cur, e, _⟩
            · omega
            · simp only [Value.slice.injEq] at e; exact ⟨gg, e.1⟩
          obtain ⟨hbs, hbB⟩ := lown_lt hab (g := b) rfl
          obtain ⟨wB, hwB⟩ : ∃ W, w3.alloc (.cells #[.int .u64 (R.first : Int), .int .u64 (R.next : Int), .slice (some ⟨g, 0, none⟩) n' ec] 31) = W := ⟨_, rfl⟩
          have o0 : wB.heap[N]? = some (.cells #[.int .u64 (R.first : Int), .int .u64 (R.next : Int), .slice (some ⟨g, 0, none⟩) n' ec] 31 (0, 0)) := by
            rw [← hwB, ← hN]; show (w3.heap.push _)[w3.heap.size]? = _; simp
          have kB : Below w3.heap.size w3 wB := by rw [← hwB]; exact (Below.refl _ _).alloc (Nat.le_refl _) _
          have xB := hx3.then kB
          have sB : wB.heap.size = N + 1 := by rw [← hwB]; simp [hN]
          have hownB := hown.below kB
          have x0 := lcell_of o0 0 rfl
          have x1 := lcell_of o0 1 rfl
          have x2 := lcell_of o0 2 rfl
          obtain ⟨ln, hlnn⟩ : ∃ x, al.length = x := ⟨_, rfl⟩
          have hen := hok.ends
          simp only at hen
          have hw2 : IntKind.u64.wrap ((s : Int) - (sn : Int)) = (i : Int) := by rw [IntKind.wrap_u64]; omega
          have hw3 : (s : Int) - (sn : Int) = (i : Int) := by omega
          have hw4 : IntKind.u64.wrap (i : Int) = (i : Int) := by rw [IntKind.wrap_u64]; omega
          rw [hw3] at hw2
          clear hw2
          have hil2 : i < ln := by omega
          rw [hlnn] at c2
          have HOWB := hide hownB
          have HXB := hide xB
          have HO0 := hide o0
          have hmem : ((⟨nm, sn, al⟩, .slice (some ⟨b, 0, none⟩) al.length vc) : RV) ∈ ps := by rw [← hz]; exact List.getElem_mem hkn
          have HMEM := hide hmem
          clear hmem
          have HZ := hide hz
          have HSB := hide sB
          have HPK := hide hkn
          have HIL := hide hil
          have HI := hide hi
          have HLNN := hide hlnn
          have r1 := (World.cell?_of_block (w := w3) (a := ⟨g, k * 3 + 1, none⟩) (kB.block g hgl)).trans c1
          have r2 := (World.cell?_of_block (w := w3) (a := ⟨g, k * 3 + 2, none⟩) (kB.block g hgl)).trans c2
          have hgB : g < wB.heap.size := by omega
          have hkn' : k < n' := by omega
          have hbB2 : b < wB.heap.size := by omega
          clear hx3 hown hps hb3 o0 kB xB sB hownB hz hab hlnn hil c0 c1 c2 fz hi hnp hln hok hen q1' q2' q3' z0 z1 z2 y0 y1 y2 fy
          go_wp2_with fail
          refine wp_region_growK (fun x => x = N ∨ x = g) [] [0, 1, 2, 3, 4, 5, 6, 7, 8, 9, 10, 11, 12, 13, 14, 15] [16] (by kernel_rfl) (by kernel_rfl) (by kernel_rfl) (by kernel_rfl) ?_
          intro wq hbq
          simp only [stagesOfK, getLK, pickLK]
          have hoq := HOWB.out.below hbq
          have xq := HXB.out.then hbq
          have o2 := (hbq.block N (by have := HSB.out; omega)).trans HO0.out
          have e2 := lcell_of o2 2 rfl
          have t1 := (hbq.cell (p := ⟨g, k * 3 + 1, none⟩) hgB).trans r1
          have t2 := (hbq.cell (p := ⟨g, k * 3 + 2, none⟩) hgB).trans r2
          have hab := hoq.all _ HMEM.out
          simp only at hab
          have cb : wq.cell? ⟨b, i, none⟩ = some (.int .u8 ((al[i]'HIL.out : Nat) : Int)) := by
            rw [World.ownsRow.cellAt hab i (by have := HIL.out; omega)]
            simp [bV, HIL.out]
          obtain ⟨bv, hbv⟩ : ∃ x, al[i]'HIL.out = x := ⟨_, rfl⟩
          rw [hbv] at cb
          have fb : ∀ j, wq.frozen? ⟨b, j, none⟩ = false := fun j => hab.frozenAt _
          have hse := hoq.setAll HPK.out HZ.out i 114
          have hbN : N ≠ b := fun e => by
            obtain ⟨cc, hcc⟩ := kind_of hab (g := b) rfl
            rw [← e, o2] at hcc
            simp only [Option.some.injEq, Obj.cells.injEq] at hcc
            exact absurd hcc.2.1 (by decide)
          obtain ⟨wE, hwE⟩ : ∃ W, wq.setCell ⟨b, i, none⟩ (.int .u8 114) = W := ⟨_, rfl⟩
          have kE : Kept (fun x => x ≠ b) wq wE := by rw [← hwE]; exact Kept.setCell (Kept.refl _ _) (fun _ h e => h e) _
          have hse2 : OwnR wE w2.heap.size (.slice (some ⟨g, 0, none⟩) n' ec) (ps.set k (⟨nm, sn, al.set i 114⟩, .slice (some ⟨b, 0, none⟩) al.length vc)) := by rw [← hwE]; exact hse
          have oE := (kE.block N hbN).trans o2
          have tE := (kE.block (w.heap.size + 1) (by have := HX2.out.size; omega)).trans xq.b1
          have lE := xq.bel.trans (kE.bel (B := w.heap.size) (fun x hx => by have := HX2.out.size; omega))
          have HSE := hide hse2
          have HTE := hide tE
          have HLE := hide lE
          have inh : Nonempty (GrK (fun x => x = N ∨ x = g) wq) := GrK.some _ wq
          have z1 := fun z : GrK (fun x => x = N ∨ x = g) wq => z.cell (a := ⟨N, 2, none⟩) (.inl rfl) e2
          have z2 := fun z : GrK (fun x => x = N ∨ x = g) wq => z.cell (a := ⟨g, k * 3 + 1, none⟩) (.inr rfl) t1
          have z3 := fun z : GrK (fun x => x = N ∨ x = g) wq => z.cell (a := ⟨g, k * 3 + 2, none⟩) (.inr rfl) t2
          have p0 := lcell_of oE 0 rfl
          have p1 := lcell_of oE 1 rfl
          have p2 := lcell_of oE 2 rfl
          have d0 := lcell_of tE 0 rfl
          have d1 := lcell_of tE 1 rfl
          have d2 := lcell_of tE 2 rfl
          have fd := lfrozen_of tE
          clear hoq xq o2 hab hse hse2 kE oE tE lE hbv hbq x0 x1 x2
          refine wpG_lastK ?_
          repeat (go_big_quiet_step (fail))
          refine wpQuiet_nil ?_
          clear z1 z2 z3 inh
          go_wp2_with fail
          refine bodyPost_ret (v := .tuple #[.agg #[.int .u64 (R.first : Int), .int .u64 (R.next : Int), .slice (some ⟨g, 0, none⟩) n' ec], .int .i64 0]) (by simp [results, Try.results51, go_sem, d0, d1, d2]) rfl ?_
          have hfin := rled_told (w := w) (first := R.first) (next := R.next) HSE.out HTE.out HLE.out (.int .u64 (R.first : Int)) (.int .u64 (R.next : Int)) rfl rfl rfl
          rw [map_set2, HPS.out] at hfin
          rw [← HTT.out, HI.out]
          exact ⟨_, rfl, hfin⟩
    · rw [if_pos hkd] at hT
      subst hT
      have h97 : ((kd : Int) != 97) = true := by simp; omega
      have h114 : ((kd : Int) != 114) = true := by simp; omega
      clear hw HW
      go_wp2_with fail
      refine bodyPost_ret (v := .tuple #[.agg #[.int .u64 0, .int .u64 0, .slice none 0 0], .int .i64 1]) (by simp [results, Try.results51, go_sem, y0, y1, y2]) rfl ?_
      exact RTwoE.err HX1.out 1 rfl
end Go.Proofs.Ytjbdofjheeljkaa
