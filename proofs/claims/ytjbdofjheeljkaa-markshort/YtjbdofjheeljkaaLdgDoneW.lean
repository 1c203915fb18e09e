/-
  Done.
-/
import Derived.Test.YtjbdofjheeljkaaLdgEvictW
namespace Go.Proofs.Ytjbdofjheeljkaa
open Go.RowKit
open Ldg (De Le Rd Rl)

theorem box_set {N i : Nat} {w : World} {cs : Array Value} {t : TypeId} (h : w.heap[N]? = some (.cells cs t (0, 0))) (u : Value) : (w.setCell ⟨N, i, none⟩ u).heap[N]? = some (.cells (cs.setIfInBounds i u) t (0, 0)) := by
  simp [World.setCell, h, Array.getElem?_modify]
set_option maxRecDepth 100000 in
set_option maxHeartbeats 1600000 in
theorem ldone_any {w : World} {v : Value} {L : Le} (h : LedAt w v L) (hf : L.Fit) (n : ByteArray) (s kd : Nat) :
    Calls Try.prog 31 #[v, .string n, .int .u64 (s : Int), .int .u8 (kd : Int)] w (TwoE w (L.done n s kd)) := by
  have HLED := hide h
  obtain ⟨a, c, ps, rfl, hc, hd, hds⟩ := h
  have hmn := many_of hf hd
  have hnm := names_eq hd
  obtain ⟨m, hm⟩ : ∃ m, ps.length = m := ⟨_, rfl⟩
  rw [hm] at hc hmn HLED ⊢
  have hbx := Box2.made w (.int .u64 (L.first : Int)) (.int .u64 (L.next : Int)) a m c
  have hlc := fun W (hW : Below w.heap.size w W) => lcopied_any (HLED.out.below hW) (by have := hf.many; omega) (fun d hd => by have := (hf.each d hd).len; omega)
  have hpl := fun W (hW : Below w.heap.size w W) => placeOf_any a c ps n W (hds.below hW) (by omega)
  rw [hm] at hpl
  have HPL := hide hpl
  have HDS := hide hds
  have HD := hide hd
  have HM := hide hm
  have HNM := hide hnm
  obtain ⟨wA, hwA⟩ : ∃ W, (w.alloc (.cells #[.int .u64 (L.first : Int), .int .u64 (L.next : Int), .slice a m c] 27)).alloc (.cells #[.int .u64 0, .int .u64 0, .slice none 0 0] 27) = W := ⟨_, rfl⟩
  rw [hwA] at hbx
  have z0 := lcell_of hbx.b0 0 rfl
  have z1 := lcell_of hbx.b0 1 rfl
  have z2 := lcell_of hbx.b0 2 rfl
  have y0 := lcell_of hbx.b1 0 rfl
  have y1 := lcell_of hbx.b1 1 rfl
  have y2 := lcell_of hbx.b1 2 rfl
  have fy := lfrozen_of hbx.b1
  have HLC := hide hlc
  have HBX := hide hbx
  have HF := hide hf
  have hnx := hf.next
  obtain ⟨R, hR⟩ : ∃ R, L.done n s kd = R := ⟨_, rfl⟩
  rw [hR]
  unfold Le.done Le.look Le.names at hR
  rw [hnm] at hR
  have HR := hide hR
  clear hlc hpl hm hds hd hf hc hmn hbx hR hnm
  go_enter Try.func31, Try.ntmps31
  go_wp2_with fail
  refine (HPL.out _ HBX.out.bel).mono ?_
  rintro e w1 ⟨rfl, hb1⟩
  have HX1 := hide (HBX.out.then hb1)
  clear z0 z1 z2 y0 y1 y2 fy hwA hb1
  have z0 := lcell_of HX1.out.b0 0 rfl
  have z1 := lcell_of HX1.out.b0 1 rfl
  have z2 := lcell_of HX1.out.b0 2 rfl
  have y0 := lcell_of HX1.out.b1 0 rfl
  have y1 := lcell_of HX1.out.b1 1 rfl
  have y2 := lcell_of HX1.out.b1 2 rfl
  have fy := lfrozen_of HX1.out.b1
  rcases Ldg.plc_cases (ps.map (fun p => p.1.name)) n with ⟨hp, _⟩ | ⟨k, hk, hp, _⟩
  · have hR := HR.out
    rw [Ldg.lookAt_no _ hp] at hR
    simp only at hR
    subst hR
    rw [hp]
    clear HR hp
    go_wp2_with fail
    refine bodyPost_ret (v := .tuple #[.agg #[.int .u64 0, .int .u64 0, .slice none 0 0], .int .i64 5]) (by simp [results, Try.results31, go_sem, y0, y1, y2]) rfl ?_
    exact TwoE.err HX1.out 5 rfl
  · rw [List.length_map] at hk
    have hR := HR.out
    rw [Ldg.lookAt_at hp (by rw [HD.out, List.length_map]; exact hk), hp, Int.toNat_natCast] at hR
    simp only [HD.out, List.getElem_map] at hR
    have hkm : k < m := by have := HM.out; omega
    have hk0 : ((k : Int) == -1) = false := by simp
    rw [hp]
    clear hp HR
    by_cases hkd : kd = 97 ∨ kd = 114
    · rw [if_neg (fun x => x hkd)] at hR
      have hfk := fit_at HF.out HD.out hk
      obtain ⟨b, off, nm, sn, lo, ab, ak, ev, rj, va, vc, rfl, hbl, hz, hsl, g0, g1, g2, g3, g4, g5, g6⟩ := HDS.out.get HX1.out.bel hk
      rw [hz] at hR hfk
      simp only at hR hfk
      have hcl := fun W (hW : Below w1.heap.size w1 W) => dwaits_any nm sn lo ak ev rj (hsl.below hW) (by have := hfk.len; simp only at this; omega) hfk.rise s L.next
      obtain ⟨wt, hwt⟩ : ∃ x, De.waits s L.next ⟨nm, sn, lo, ab, ak, ev, rj⟩ = x := ⟨_, rfl⟩
      simp only [hwt] at hcl
      rw [hwt] at hR
      obtain ⟨an, han⟩ : ∃ x, ab.length = x := ⟨_, rfl⟩
      rw [han] at g3 hcl
      have HC := hide hcl
      have HZ := hide hz
      have HR := hide hR
      have HFK := hide hfk
      have inh : Nonempty (Ext w1) := Ext.some w1
      have x1 : ∀ x : Ext w1, x.w.cell? _ = _ := fun x => x.cell z1
      have x2 : ∀ x : Ext w1, x.w.cell? _ = _ := fun x => x.cell z2
      have v0 : ∀ x : Ext w1, x.w.cell? _ = _ := fun x => x.cell g0
      have v1 : ∀ x : Ext w1, x.w.cell? _ = _ := fun x => x.cell g1
      have v2 : ∀ x : Ext w1, x.w.cell? _ = _ := fun x => x.cell g2
      have v3 : ∀ x : Ext w1, x.w.cell? _ = _ := fun x => x.cell g3
      have v4 : ∀ x : Ext w1, x.w.cell? _ = _ := fun x => x.cell g4
      have v5 : ∀ x : Ext w1, x.w.cell? _ = _ := fun x => x.cell g5
      have v6 : ∀ x : Ext w1, x.w.cell? _ = _ := fun x => x.cell g6
      clear hR hfk hsl hcl hwt han hz
      rcases hkd with rfl | rfl
      · go_wp2_with fail
        refine wp_region_calm (by kernel_rfl) (by kernel_rfl) ?_
        repeat (go_big_quiet_step ((go_at_call 59; exact calm_of (HC.out _ (Ext.below _)))))
        refine wpQuiet_nil ?_
        intro _ hw'
        obtain ⟨xq, rfl⟩ := hw'
        have hxq := HX1.out.then xq.below
        have HXQ := hide hxq
        clear hxq
        generalize xq.w = wc at *
        clear x1 x2 v0 v1 v2 v3 v4 v5 v6 inh z0 z1 z2 y0 y1 y2 fy
        have z0 := lcell_of HXQ.out.b0 0 rfl
        have z1 := lcell_of HXQ.out.b0 1 rfl
        have z2 := lcell_of HXQ.out.b0 2 rfl
        have y0 := lcell_of HXQ.out.b1 0 rfl
        have y1 := lcell_of HXQ.out.b1 1 rfl
        have y2 := lcell_of HXQ.out.b1 2 rfl
        have fy := lfrozen_of HXQ.out.b1
        cases wt with
        | false =>
          have hR := HR.out
          rw [if_pos rfl] at hR
          subst hR
          clear HR
          go_wp2_with fail
          refine bodyPost_ret (v := .tuple #[.agg #[.int .u64 0, .int .u64 0, .slice none 0 0], .int .i64 13]) (by simp [results, Try.results31, go_sem, y0, y1, y2]) rfl ?_
          exact TwoE.err HXQ.out 13 rfl
        | true =>
          have hR := HR.out
          rw [if_neg (by decide)] at hR
          have HRR := hide hR
          clear HR hR
          go_wp2_with fail
          refine (HLC.out _ HXQ.out.bel).mono ?_
          rintro e w2 ⟨g, c', qs, rfl, hqs, hown, hb2⟩
          have HX2 := hide (HXQ.out.then hb2)
          have HOW := hide hown
          have HQS := hide hqs
          obtain ⟨N, hN⟩ : ∃ N, w2.heap.size = N := ⟨_, rfl⟩
          have hx2 := HX2.out
          have s1 := hx2.size
          have hgg := own_g hown
          rw [hN] at s1 hgg
          obtain ⟨n', hn'⟩ : ∃ n', qs.length = n' := ⟨_, rfl⟩
          rw [hn'] at HOW ⊢
          obtain ⟨wB, hwB⟩ : ∃ W, w2.alloc (.cells #[.int .u64 (L.first : Int), .int .u64 (L.next : Int), .slice (some ⟨g, 0, none⟩) n' c'] 27) = W := ⟨_, rfl⟩
          have o0 : wB.heap[N]? = some (.cells #[.int .u64 (L.first : Int), .int .u64 (L.next : Int), .slice (some ⟨g, 0, none⟩) n' c'] 27 (0, 0)) := by
            rw [← hwB, ← hN]; show (w2.heap.push _)[w2.heap.size]? = _; simp
          have t0 : wB.heap[w.heap.size + 1]? = some (.cells #[.int .u64 0, .int .u64 0, .slice none 0 0] 27 (0, 0)) := by
            rw [← hwB]; exact (Below.heap_alloc _ _ _ (by omega)).trans hx2.b1
          have kB : Below w2.heap.size w2 wB := by rw [← hwB]; exact (Below.refl _ _).alloc (Nat.le_refl _) _
          have sB : wB.heap.size = N + 1 := by rw [← hwB]; simp [hN]
          have hdl : (ps.map Prod.fst).length = n' := by rw [← hn', ← HD.out, ← hqs, List.length_map]
          have hkn : k < n' := by rw [← hdl, List.length_map]; exact hk
          have hqk : (qs[k]'(by omega)).1 = ⟨nm, sn, lo, ab, ak, ev, rj⟩ := by
            have h1 : (qs.map Prod.fst)[k]'(by rw [List.length_map]; omega) = (qs[k]'(by omega)).1 := List.getElem_map _
            rw [← h1]
            simp only [hqs, HD.out, List.getElem_map, HZ.out]
          have hn4 : n' ≤ 4 := by have := HF.out.many; rw [HD.out, hdl] at this; exact this
          have hfi := finish_any (HOW.out.below kB) (k := k) (by omega) (by rw [hqk]; exact HFK.out.small.low) (by rw [hqk]; exact HFK.out.len) (by rw [hqk]; exact HFK.out.rise) s
          rw [hqk] at hfi
          have HFI := hide hfi
          have x0 := lcell_of o0 0 rfl
          have x1 := lcell_of o0 1 rfl
          have x2 := lcell_of o0 2 rfl
          have HO0 := hide o0
          have HT0 := hide t0
          have HKB := hide (bl HX2.out.bel kB)
          have HGG := hide hgg
          have HNN := hide hn'
          have HKN := hide hkn
          have hfa := HFK.out.small
          have hak := hfa.ak
          have hrj := hfa.rj
          simp only at hak hrj
          clear hx2 hown hqs hb2 o0 t0 kB hgg z0 z1 z2 y0 y1 y2 fy hn' hdl hqk hfi hfa
          go_wp2_with fail
          refine HFI.out.mono ?_
          rintro e w3 ⟨sv, rfl, ho3, hk3⟩
          have o3 := (hk3.block N ⟨by omega, by have := HGG.out; omega⟩).trans HO0.out
          have t3 := (hk3.block (w.heap.size + 1) ⟨by omega, by have := HGG.out; have := HXQ.out.size; omega⟩).trans HT0.out
          have b3 := HKB.out.trans (hk3.bel (B := w.heap.size) (fun b hb => ⟨by omega, by have := HGG.out; have := HXQ.out.size; omega⟩))
          have hk3' : k < (qs.set k (De.finish s ⟨nm, sn, lo, ab, ak, ev, rj⟩, sv)).length := by rw [List.length_set]; have := HNN.out; have := HKN.out; omega
          have hwhat := ho3.get hk3'
          rw [List.getElem_set_self] at hwhat
          obtain ⟨nm', sn', lo', ab', ak', ev', rj', va', vc', ee, hsl', k0, k1, k2, k3, k4, k5, k6, fz, hgl, _⟩ := hwhat
          have ee1 := (Prod.mk.inj ee).1
          have ee2 := (Prod.mk.inj ee).2
          have eak : ak = ak' := congrArg De.ak ee1
          have erj : rj = rj' := congrArg De.rj ee1
          subst eak erj
          have hone := ho3.one hk3' (i := 4) (by omega) (.int .u64 ((ak : Int) + 1)) (⟨nm', sn', lo', ab', ak + 1, ev', rj⟩, .slice va' ab'.length vc') (by rw [List.getElem_set_self, ee1, ee2]; simp [drow]) hsl'
          rw [List.set_set] at hone
          obtain ⟨w4, hw4⟩ : ∃ W, w3.setCell ⟨g, k * 7 + 4, none⟩ (.int .u64 ((ak : Int) + 1)) = W := ⟨_, rfl⟩
          rw [hw4] at hone
          have hk4 : Kept (But w3 g) w3 w4 := by rw [← hw4]; exact But.set (Kept.refl _ _) _ _
          have hcnt : De.count 97 (De.finish s ⟨nm, sn, lo, ab, ak, ev, rj⟩) = ⟨nm', sn', lo', ab', ak + 1, ev', rj⟩ := by
            rw [ee1]; rfl
          have hsz3 := hk3.size
          have o4 := (hk4.block N ⟨by omega, by have := HGG.out; omega⟩).trans o3
          have t4 := (hk4.block (w.heap.size + 1) ⟨by omega, by have := HGG.out; have := HXQ.out.size; omega⟩).trans t3
          have b4 := b3.trans (hk4.bel (B := w.heap.size) (fun b hb => ⟨by omega, by have := HGG.out; have := HXQ.out.size; omega⟩))
          have HONE := hide hone
          have HB4 := hide b4
          have HCNT := hide hcnt
          have p0 := lcell_of o4 0 rfl
          have p1 := lcell_of o4 1 rfl
          have p2 := lcell_of o4 2 rfl
          have d0 := lcell_of t4 0 rfl
          have d1 := lcell_of t4 1 rfl
          have d2 := lcell_of t4 2 rfl
          have fd := lfrozen_of t4
          clear hone hk4 hcnt o4 t4 b4 o3 t3 b3 ho3 hk3 hk3' ee ee1 ee2 hsl' x0 x1 x2 k0 k1 k2 k3 k5 k6 HFI
          go_wp2_with fail
          refine bodyPost_ret (v := .tuple #[.agg #[.int .u64 (L.first : Int), .int .u64 (L.next : Int), .slice (some ⟨g, 0, none⟩) n' c'], .int .i64 0]) (by simp [results, Try.results31, go_sem, d0, d1, d2]) rfl ?_
          have hfin := led_told (w := w) (first := L.first) (next := L.next) HXQ.out.size HONE.out HB4.out (.int .u64 (L.first : Int)) (.int .u64 (L.next : Int)) rfl rfl rfl
          rw [map_set, HQS.out, ← HCNT.out, HD.out] at hfin
          rw [← HRR.out]
          exact ⟨_, rfl, hfin⟩
      · go_wp2_with fail
        refine wp_region_calm (by kernel_rfl) (by kernel_rfl) ?_
        repeat (go_big_quiet_step ((go_at_call 59; exact calm_of (HC.out _ (Ext.below _)))))
        refine wpQuiet_nil ?_
        intro _ hw'
        obtain ⟨xq, rfl⟩ := hw'
        have hxq := HX1.out.then xq.below
        have HXQ := hide hxq
        clear hxq
        generalize xq.w = wc at *
        clear x1 x2 v0 v1 v2 v3 v4 v5 v6 inh z0 z1 z2 y0 y1 y2 fy
        have z0 := lcell_of HXQ.out.b0 0 rfl
        have z1 := lcell_of HXQ.out.b0 1 rfl
        have z2 := lcell_of HXQ.out.b0 2 rfl
        have y0 := lcell_of HXQ.out.b1 0 rfl
        have y1 := lcell_of HXQ.out.b1 1 rfl
        have y2 := lcell_of HXQ.out.b1 2 rfl
        have fy := lfrozen_of HXQ.out.b1
        cases wt with
        | false =>
          have hR := HR.out
          rw [if_pos rfl] at hR
          subst hR
          clear HR
          go_wp2_with fail
          refine bodyPost_ret (v := .tuple #[.agg #[.int .u64 0, .int .u64 0, .slice none 0 0], .int .i64 13]) (by simp [results, Try.results31, go_sem, y0, y1, y2]) rfl ?_
          exact TwoE.err HXQ.out 13 rfl
        | true =>
          have hR := HR.out
          rw [if_neg (by decide)] at hR
          have HRR := hide hR
          clear HR hR
          go_wp2_with fail
          refine (HLC.out _ HXQ.out.bel).mono ?_
          rintro e w2 ⟨g, c', qs, rfl, hqs, hown, hb2⟩
          have HX2 := hide (HXQ.out.then hb2)
          have HOW := hide hown
          have HQS := hide hqs
          obtain ⟨N, hN⟩ : ∃ N, w2.heap.size = N := ⟨_, rfl⟩
          have hx2 := HX2.out
          have s1 := hx2.size
          have hgg := own_g hown
          rw [hN] at s1 hgg
          obtain ⟨n', hn'⟩ : ∃ n', qs.length = n' := ⟨_, rfl⟩
          rw [hn'] at HOW ⊢
          obtain ⟨wB, hwB⟩ : ∃ W, w2.alloc (.cells #[.int .u64 (L.first : Int), .int .u64 (L.next : Int), .slice (some ⟨g, 0, none⟩) n' c'] 27) = W := ⟨_, rfl⟩
          have o0 : wB.heap[N]? = some (.cells #[.int .u64 (L.first : Int), .int .u64 (L.next : Int), .slice (some ⟨g, 0, none⟩) n' c'] 27 (0, 0)) := by
            rw [← hwB, ← hN]; show (w2.heap.push _)[w2.heap.size]? = _; simp
          have t0 : wB.heap[w.heap.size + 1]? = some (.cells #[.int .u64 0, .int .u64 0, .slice none 0 0] 27 (0, 0)) := by
            rw [← hwB]; exact (Below.heap_alloc _ _ _ (by omega)).trans hx2.b1
          have kB : Below w2.heap.size w2 wB := by rw [← hwB]; exact (Below.refl _ _).alloc (Nat.le_refl _) _
          have sB : wB.heap.size = N + 1 := by rw [← hwB]; simp [hN]
          have hdl : (ps.map Prod.fst).length = n' := by rw [← hn', ← HD.out, ← hqs, List.length_map]
          have hkn : k < n' := by rw [← hdl, List.length_map]; exact hk
          have hqk : (qs[k]'(by omega)).1 = ⟨nm, sn, lo, ab, ak, ev, rj⟩ := by
            have h1 : (qs.map Prod.fst)[k]'(by rw [List.length_map]; omega) = (qs[k]'(by omega)).1 := List.getElem_map _
            rw [← h1]
            simp only [hqs, HD.out, List.getElem_map, HZ.out]
          have hn4 : n' ≤ 4 := by have := HF.out.many; rw [HD.out, hdl] at this; exact this
          have hfi := finish_any (HOW.out.below kB) (k := k) (by omega) (by rw [hqk]; exact HFK.out.small.low) (by rw [hqk]; exact HFK.out.len) (by rw [hqk]; exact HFK.out.rise) s
          rw [hqk] at hfi
          have HFI := hide hfi
          have x0 := lcell_of o0 0 rfl
          have x1 := lcell_of o0 1 rfl
          have x2 := lcell_of o0 2 rfl
          have HO0 := hide o0
          have HT0 := hide t0
          have HKB := hide (bl HX2.out.bel kB)
          have HGG := hide hgg
          have HNN := hide hn'
          have HKN := hide hkn
          have hfa := HFK.out.small
          have hak := hfa.ak
          have hrj := hfa.rj
          simp only at hak hrj
          clear hx2 hown hqs hb2 o0 t0 kB hgg z0 z1 z2 y0 y1 y2 fy hn' hdl hqk hfi hfa
          go_wp2_with fail
          refine HFI.out.mono ?_
          rintro e w3 ⟨sv, rfl, ho3, hk3⟩
          have o3 := (hk3.block N ⟨by omega, by have := HGG.out; omega⟩).trans HO0.out
          have t3 := (hk3.block (w.heap.size + 1) ⟨by omega, by have := HGG.out; have := HXQ.out.size; omega⟩).trans HT0.out
          have b3 := HKB.out.trans (hk3.bel (B := w.heap.size) (fun b hb => ⟨by omega, by have := HGG.out; have := HXQ.out.size; omega⟩))
          have hk3' : k < (qs.set k (De.finish s ⟨nm, sn, lo, ab, ak, ev, rj⟩, sv)).length := by rw [List.length_set]; have := HNN.out; have := HKN.out; omega
          have hwhat := ho3.get hk3'
          rw [List.getElem_set_self] at hwhat
          obtain ⟨nm', sn', lo', ab', ak', ev', rj', va', vc', ee, hsl', k0, k1, k2, k3, k4, k5, k6, fz, hgl, _⟩ := hwhat
          have ee1 := (Prod.mk.inj ee).1
          have ee2 := (Prod.mk.inj ee).2
          have eak : ak = ak' := congrArg De.ak ee1
          have erj : rj = rj' := congrArg De.rj ee1
          subst eak erj
          have hone := ho3.one hk3' (i := 6) (by omega) (.int .u64 ((rj : Int) + 1)) (⟨nm', sn', lo', ab', ak, ev', rj + 1⟩, .slice va' ab'.length vc') (by rw [List.getElem_set_self, ee1, ee2]; simp [drow]) hsl'
          rw [List.set_set] at hone
          obtain ⟨w4, hw4⟩ : ∃ W, w3.setCell ⟨g, k * 7 + 6, none⟩ (.int .u64 ((rj : Int) + 1)) = W := ⟨_, rfl⟩
          rw [hw4] at hone
          have hk4 : Kept (But w3 g) w3 w4 := by rw [← hw4]; exact But.set (Kept.refl _ _) _ _
          have hcnt : De.count 114 (De.finish s ⟨nm, sn, lo, ab, ak, ev, rj⟩) = ⟨nm', sn', lo', ab', ak, ev', rj + 1⟩ := by
            rw [ee1]; rfl
          have hsz3 := hk3.size
          have o4 := (hk4.block N ⟨by omega, by have := HGG.out; omega⟩).trans o3
          have t4 := (hk4.block (w.heap.size + 1) ⟨by omega, by have := HGG.out; have := HXQ.out.size; omega⟩).trans t3
          have b4 := b3.trans (hk4.bel (B := w.heap.size) (fun b hb => ⟨by omega, by have := HGG.out; have := HXQ.out.size; omega⟩))
          have HONE := hide hone
          have HB4 := hide b4
          have HCNT := hide hcnt
          have p0 := lcell_of o4 0 rfl
          have p1 := lcell_of o4 1 rfl
          have p2 := lcell_of o4 2 rfl
          have d0 := lcell_of t4 0 rfl
          have d1 := lcell_of t4 1 rfl
          have d2 := lcell_of t4 2 rfl
          have fd := lfrozen_of t4
          clear hone hk4 hcnt o4 t4 b4 o3 t3 b3 ho3 hk3 hk3' ee ee1 ee2 hsl' x0 x1 x2 k0 k1 k2 k3 k5 k4 HFI
          go_wp2_with fail
          refine bodyPost_ret (v := .tuple #[.agg #[.int .u64 (L.first : Int), .int .u64 (L.next : Int), .slice (some ⟨g, 0, none⟩) n' c'], .int .i64 0]) (by simp [results, Try.results31, go_sem, d0, d1, d2]) rfl ?_
          have hfin := led_told (w := w) (first := L.first) (next := L.next) HXQ.out.size HONE.out HB4.out (.int .u64 (L.first : Int)) (.int .u64 (L.next : Int)) rfl rfl rfl
          rw [map_set, HQS.out, ← HCNT.out, HD.out] at hfin
          rw [← HRR.out]
          exact ⟨_, rfl, hfin⟩
    · rw [if_pos hkd] at hR
      subst hR
      have h97 : ((kd : Int) != 97) = true := by simp; omega
      have h114 : ((kd : Int) != 114) = true := by simp; omega
      go_wp2_with fail
      refine bodyPost_ret (v := .tuple #[.agg #[.int .u64 0, .int .u64 0, .slice none 0 0], .int .i64 1]) (by simp [results, Try.results31, go_sem, y0, y1, y2]) rfl ?_
      exact TwoE.err HX1.out 1 rfl

end Go.Proofs.Ytjbdofjheeljkaa
