/-
  The document's copied.
-/
import Derived.Test.YtjbdofjheeljkaaLdgRowRW
namespace Go.Proofs.Ytjbdofjheeljkaa
open Go.RowKit
open Ldg (De Le Rd Rl)

theorem grown_bel {w w' : World} {row : Option Nat} {B : Nat} (h : w.grownBy w' row) (hB : B ≤ w.heap.size) (k : ∀ g, row = some g → B ≤ g) : Below B w w' := (Below.refl B w).grown h hB k
theorem empty_b8 (w : World) (B : Nat) (hB : B ≤ w.heap.size) : (w.alloc (.cells #[] 5)).ownsRow B 5 1 (.slice (some ⟨w.heap.size, 0, none⟩) 0 0) 0 (bV []) :=
  ⟨rfl, .inr ⟨w.heap.size, 0, #[], rfl, hB, by show (w.heap.push _)[w.heap.size]? = _; simp, Nat.le_refl _, Nat.zero_le _, rfl, rfl⟩⟩
set_option maxRecDepth 100000 in
set_option maxHeartbeats 1600000 in
theorem rcopied_any {w : World} {v : Value} {R : Rl} (h : RlAt w v R) (hm4 : R.dests.length ≤ 4) (hs : ∀ d ∈ R.dests, d.all.length ≤ 100000000) :
    Calls Try.prog 74 #[v] w fun e w' => ∃ ea n ec ps, e = .returned (.agg #[.int .u64 (R.first : Int), .int .u64 (R.next : Int), .slice ea n ec]) ∧ n = ps.length ∧ ps.map Prod.fst = R.dests ∧ OwnR w' w.heap.size (.slice ea n ec) ps ∧ Below w.heap.size w w' := by
  obtain ⟨a, c, qs, rfl, hc, hd, hds⟩ := h
  have hsm : ∀ k (hk : k < qs.length), qs[k].1.all.length ≤ 100000000 := fun k hk => hs _ (by rw [hd]; exact List.mem_map_of_mem (List.getElem_mem hk))
  rw [hd, List.length_map] at hm4
  obtain ⟨m, hm⟩ : ∃ m, qs.length = m := ⟨_, rfl⟩
  rw [hm] at hc hm4 ⊢
  have HM := hide hm
  have HD := hide hd
  have HDS := hide hds
  have HSM := hide hsm
  obtain ⟨wA, hwA⟩ : ∃ W, (w.alloc (.cells #[.int .u64 (R.first : Int), .int .u64 (R.next : Int), .slice a m c] 31)).alloc (.cells #[.int .u64 0, .int .u64 0, .slice none 0 0] 31) = W := ⟨_, rfl⟩
  have hA0 : wA.heap[w.heap.size]? = some (.cells #[.int .u64 (R.first : Int), .int .u64 (R.next : Int), .slice a m c] 31 (0, 0)) := by rw [← hwA]; exact two_old w _ _
  have hA1 : wA.heap[w.heap.size + 1]? = some (.cells #[.int .u64 0, .int .u64 0, .slice none 0 0] 31 (0, 0)) := by rw [← hwA]; exact two_new w _ _
  have hAs : wA.heap.size = w.heap.size + 2 := by rw [← hwA]; simp
  have hAb : Below w.heap.size w wA := by rw [← hwA]; exact ((Below.refl w.heap.size w).alloc (Nat.le_refl _) _).alloc (by simp) _
  obtain ⟨N, hN⟩ : ∃ N, wA.heap.size = N := ⟨_, rfl⟩
  obtain ⟨wZ, hwZ⟩ : ∃ W, wA.alloc (.cells #[.int .u64 (R.first : Int), .int .u64 (R.next : Int), .slice none 0 0] 31) = W := ⟨_, rfl⟩
  have hZb : Below wA.heap.size wA wZ := by rw [← hwZ]; exact (Below.refl _ _).alloc (Nat.le_refl _) _
  have hZ2 : wZ.heap[N]? = some (.cells #[.int .u64 (R.first : Int), .int .u64 (R.next : Int), .slice none 0 0] 31 (0, 0)) := by
    rw [← hwZ, ← hN]; show (wA.heap.push _)[wA.heap.size]? = _; simp
  have hZs : wZ.heap.size = N + 1 := by rw [← hwZ]; simp [hN]
  obtain ⟨wB, hwB⟩ : ∃ W, wZ.setCell ⟨N, 2, none⟩ (.slice none 0 0) = W := ⟨_, rfl⟩
  have hBb : Below wA.heap.size wA wB := by rw [← hwB]; exact hZb.setCell (p := ⟨N, 2, none⟩) (by show wA.heap.size ≤ N; omega) _
  have hB0 := (hBb.block w.heap.size (by omega)).trans hA0
  have hB1 := (hBb.block (w.heap.size + 1) (by omega)).trans hA1
  have hB2 : wB.heap[N]? = some (.cells #[.int .u64 (R.first : Int), .int .u64 (R.next : Int), .slice none 0 0] 31 (0, 0)) := by
    rw [← hwB]; exact box_set hZ2 _
  have hBs : wB.heap.size = N + 1 := by rw [← hwB]; simp [World.setCell, hZs]
  have b2 := lcell_of hZ2 2 rfl
  have bf := lfrozen_of hZ2
  have a0 := lcell_of hA0 0 rfl
  have a1 := lcell_of hA0 1 rfl
  have HB0 := hide hB0
  have HB1 := hide hB1
  have HB2 := hide hB2
  have HBB := hide (bl hAb hBb)
  have HBS := hide hBs
  have hNw : N = w.heap.size + 2 := by omega
  have HNW := hide hNw
  clear hm hd hds hsm hs hA0 hA1 hAs hAb hBb hB0 hB1 hB2 hBs hNw hZb hZ2 hZs
  go_enter Try.func74, Try.ntmps74
  go_wp2_with fail
  clear hwA hwB hwZ a0 a1 b2 bf
  go_loopw [4] (fun vi wr => ∃ (k : Nat) (ps : List RV) (ea : Option Addr) (ec : Nat), k ≤ m ∧ vi = .int .i64 (k : Int) ∧ ps.length = k ∧ ps.map Prod.fst = (qs.take k).map Prod.fst ∧ OwnR wr (N + 1) (.slice ea k ec) ps ∧ Below w.heap.size w wr ∧ N < wr.heap.size ∧
      wr.heap[w.heap.size]? = some (.cells #[.int .u64 (R.first : Int), .int .u64 (R.next : Int), .slice a m c] 31 (0, 0)) ∧ wr.heap[w.heap.size + 1]? = some (.cells #[.int .u64 0, .int .u64 0, .slice none 0 0] 31 (0, 0)) ∧
      wr.heap[N]? = some (.cells #[.int .u64 (R.first : Int), .int .u64 (R.next : Int), .slice ea k ec] 31 (0, 0)))
    (fun vi _ => m - (intOf vi).toNat)
  case atStart => exact ⟨0, [], none, 0, Nat.zero_le _, rfl, rfl, rfl, ⟨World.ownsRow_nil _ _ _ _, fun p hp => by simp at hp, fun i j hi => by simp at hi⟩, HBB.out, by have := HBS.out; omega, HB0.out, HB1.out, HB2.out⟩
  case round =>
    obtain ⟨k, ps, ea, ec, hk, rfl, hpl, hpf, hown, hnx, hNs, hp0, hp1, hp2⟩ := hrel
    have HPF := hide hpf
    have HPL := hide hpl
    have HB := hide hnx
    have HO := hide hown
    have HP0 := hide hp0
    have HP1 := hide hp1
    have HP2 := hide hp2
    have HNS := hide hNs
    have c2 := lcell_of hp0 2 rfl
    by_cases hlt : k < m
    · clear hown hnx hNs hp0 hp1 hp2
      go_wp2_with fail
      clear c2
      refine wp_region_growK (fun x => x < N + 1) [([0, 1, 2, 3, 4, 5, 6, 7, 8, 9, 10, 11, 12, 13, 15, 16, 17, 18, 19, 20], 14), ([], 21), ([22], 23), ([], 24)] [] [25, 26] (by kernel_rfl) (by kernel_rfl) (by kernel_rfl) (by kernel_rfl) ?_
      intro wq hbq
      simp only [stagesOfK, getLK, pickLK]
      have hown := HO.out.below hbq
      have hnx := bl HB.out hbq
      have hNs : N < wq.heap.size := by have := hbq.size; have := HNS.out; omega
      have hp0 := (hbq.block _ (by have := HNS.out; have := HNW.out; omega)).trans HP0.out
      have hp1 := (hbq.block _ (by have := HNS.out; have := HNW.out; omega)).trans HP1.out
      have hp2 := (hbq.block _ HNS.out).trans HP2.out
      have c2 := lcell_of hp0 2 rfl
      obtain ⟨b, off, nm, s, al, va, vc, rfl, hbl, hz, hsl, g0, g1, g2⟩ := HDS.out.get hnx (k := k) (by have := HM.out; omega)
      have hal := HSM.out k (by have := HM.out; omega)
      rw [hz] at hal
      simp only at hal
      have hbl2 : b < wq.heap.size := Nat.lt_of_lt_of_le hbl hnx.size
      have hbN : b < N + 1 := by have := HNW.out; omega
      have hws : w.heap.size < wq.heap.size := by have := HNW.out; omega
      obtain ⟨ln, hln⟩ : ∃ x, al.length = x := ⟨_, rfl⟩
      obtain ⟨S, hS⟩ : ∃ S, wq.heap.size = S := ⟨_, rfl⟩
      obtain ⟨wa, hwa⟩ : ∃ W, wq.alloc (.cells #[] 5) = W := ⟨_, rfl⟩
      have ka : Below wq.heap.size wq wa := by rw [← hwa]; exact (Below.refl _ _).alloc (Nat.le_refl _) _
      have sa : wa.heap.size = S + 1 := by rw [← hwa]; simp [hS]
      have hemp : wa.ownsRow (N + 1) 5 1 (.slice (some ⟨S, 0, none⟩) 0 0) 0 (bV []) := by rw [← hwa, ← hS]; exact empty_b8 wq (N + 1) (by omega)
      obtain ⟨sv, wb, hap1, hob1, hgb1, hsb1⟩ := app_b8 (l0 := []) hemp (by omega) (hsl.below ka) rfl (by simp; omega) 78
      rw [List.nil_append] at hob1
      rw [hln] at hap1 g2
      obtain ⟨sva, svc, hsv, _⟩ := lown_slice hob1
      rw [hln] at hsv
      subst hsv
      have kb0 : Below S wa wb := grown_bel hgb1 (by omega) (fun g e => by have := Option.some.inj e; simp at this; omega)
      have kb : Below wq.heap.size wq wb := ka.trans (by rw [hS]; exact kb0)
      have hsvb : ∀ x, (Value.slice sva ln svc).ownBlock = some x → S ≤ x := fun x hx => by
        rcases hsb1 with e | e
        · rw [e] at hx; have := Option.some.inj hx; simp at this; omega
        · rw [e] at hx; have := Option.some.inj hx; omega
      obtain ⟨Q, hQ⟩ : ∃ Q, wb.heap.size = Q := ⟨_, rfl⟩
      have sQ : S + 1 ≤ Q := by have := kb0.size; omega
      obtain ⟨wc, hwc⟩ : ∃ W, wb.alloc (.cells #[.string nm, .int .u64 (s : Int), .slice sva ln svc] 99) = W := ⟨_, rfl⟩
      have kc0 : Below wb.heap.size wb wc := by rw [← hwc]; exact (Below.refl _ _).alloc (Nat.le_refl _) _
      have kc := kb.trans (kc0.mono kb.size)
      have sc : wc.heap.size = Q + 1 := by rw [← hwc]; simp [hQ]
      have hqc : wc.heap[Q]? = some (.cells #[.string nm, .int .u64 (s : Int), .slice sva ln svc] 99 (0, 0)) := by
        rw [← hwc, ← hQ]; show (wb.heap.push _)[wb.heap.size]? = _; simp
      have hobc : wc.ownsRow (N + 1) 5 1 (.slice sva ln svc) al.length (bV al) := lown_keep hob1 (fun g e => kc0.block g (lown_lt hob1 e).1)
      have hownc := hown.below kc
      obtain ⟨ea2, ec2, wd, hap2, hod, hgd⟩ := hownc.app (by omega) (by omega) 29 Q nm s al (.slice sva ln svc) hqc hobc (fun p hp x hx e => by
        have h1 := (lown_lt (hown.all p hp) hx).1
        have h2 := hsvb x e
        omega)
      rw [hpl] at hap2 hod
      have hrowN : ∀ g, (Value.slice ea k ec).ownBlock = some g → g ≠ N ∧ N + 1 ≤ g := fun g e => by have := (lown_lt hown.row e).2; exact ⟨by omega, this⟩
      have kd0 : Below (N + 1) wc wd := grown_bel hgd (by omega) (fun g e => (hrowN g e).2)
      have kd : Below (N + 1) wq wd := (kc.mono (by omega)).trans kd0
      have p0d := (kd.block w.heap.size (by have := HNW.out; omega)).trans hp0
      have p1d := (kd.block (w.heap.size + 1) (by have := HNW.out; omega)).trans hp1
      have p2d := (kd.block N (by omega)).trans hp2
      obtain ⟨we, hwe⟩ : ∃ W, wd.setCell ⟨N, 2, none⟩ (.slice ea2 (k + 1) ec2) = W := ⟨_, rfl⟩
      have ke : Kept (fun x => x ≠ N) wd we := by rw [← hwe]; exact Kept.setCell (Kept.refl _ _) (fun _ h e => h e) _
      have p2e : we.heap[N]? = some (.cells #[.int .u64 (R.first : Int), .int .u64 (R.next : Int), .slice ea2 (k + 1) ec2] 31 (0, 0)) := by rw [← hwe]; exact box_set p2d _
      have p0e := (ke.block w.heap.size (by have := HNW.out; omega)).trans p0d
      have p1e := (ke.block (w.heap.size + 1) (by have := HNW.out; omega)).trans p1d
      have hoe := hod.other p2d (by decide) (by decide) ke
      have hbe : Below w.heap.size w we := (hnx.trans (kd.mono (by have := HNW.out; omega))).trans (ke.bel (fun b hb => by have := HNW.out; omega))
      have hse : N < we.heap.size := by have := ke.size; have := kd.size; omega
      have hmap : (ps ++ [((⟨nm, s, al⟩, .slice sva ln svc) : RV)]).map Prod.fst = (qs.take (k + 1)).map Prod.fst := by
        rw [List.map_append, HPF.out, List.take_succ_eq_append_getElem (by have := HM.out; omega), List.map_append, List.map_singleton, List.map_singleton, hz]
      have HAP1 := hide hap1
      have HAP2 := hide hap2
      have HOE := hide hoe
      have HBE := hide hbe
      have HSE := hide hse
      have HMAP := hide hmap
      have P0E := hide p0e
      have P1E := hide p1e
      have P2E := hide p2e
      have hwN : w.heap.size < N + 1 := by have := HNW.out; omega
      have ka1 : Kept (fun x => x < N + 1) wq wa := Kept.of_below ka (fun x hx => by omega)
      have ka2 : Kept (fun x => x < N + 1) wa wb := Kept.of_below kb0 (fun x hx => by omega)
      have ka3 : Kept (fun x => x < N + 1) wb wc := Kept.of_below kc0 (fun x hx => by omega)
      have ka4 : Kept (fun x => x < N + 1) wc wd := Kept.of_below kd0 (fun x hx => hx)
      have d2 := lcell_of hp2 2 rfl
      have ed2 := lcell_of p2d 2 rfl
      have ef := lfrozen_of p2d
      have inh : Nonempty (GrK (fun x => x < N + 1) wq) := GrK.some _ wq
      have z1 := fun z : GrK (fun x => x < N + 1) wq => z.cell (a := ⟨w.heap.size, 2, none⟩) hwN c2
      have z2 := fun z : GrK (fun x => x < N + 1) wq => z.cell (a := ⟨N, 2, none⟩) (Nat.lt_succ_self N) d2
      have z3 := fun z : GrK (fun x => x < N + 1) wq => z.cell (a := ⟨b, off + k * 3, none⟩) hbN g0
      have z4 := fun z : GrK (fun x => x < N + 1) wq => z.cell (a := ⟨b, off + k * 3 + 1, none⟩) hbN g1
      have z5 := fun z : GrK (fun x => x < N + 1) wq => z.cell (a := ⟨b, off + k * 3 + 2, none⟩) hbN g2
      clear hpl hpf hown hnx hNs hp0 hp1 hp2 ka kb0 kb kc0 kc hqc hobc hownc hod hgd kd0 kd p0d p1d p2d ke p2e p0e p1e hoe hbe hse hmap hap1 hap2 hob1 hgb1 hsb1 hemp hsl hz hsvb hrowN hln hbq c2 d2 g0 g1 g2
      refine wpG_stageK ?_
      repeat (go_big_quiet_step (fail))
      refine wpQuiet_nil ?_
      clear z1 z2 z3 z4 z5 inh
      go_wp2_with fail
      refine OnToK.mk ka1 (Sub.refl _) ?_
      refine wpG_stageK (wpQuiet_nil ?_)
      go_wp2_with (at_builtin; refine Ldg.wpList_app_run rfl _ _ _ _ rfl rfl rfl HAP1.out ?_)
      go_wp2_with fail
      refine OnToK.mk ka2 (Sub.refl _) ?_
      have inh : Nonempty (GrK (fun x => x < N + 1) wb) := GrK.some _ wb
      refine wpG_stageK ?_
      repeat (go_big_quiet_step (fail))
      refine wpQuiet_nil ?_
      clear inh
      go_wp2_with fail
      refine OnToK.mk ka3 (Sub.refl _) ?_
      refine wpG_stageK (wpQuiet_nil ?_)
      go_wp2_with (at_builtin; refine Ldg.wpList_app_run rfl _ _ _ _ rfl rfl rfl HAP2.out ?_)
      go_wp2_with fail
      refine OnToK.mk ka4 (Sub.refl _) ?_
      refine wpG_lastK (wpQuiet_nil ?_)
      go_wp2_with fail
      go_roundw
      case rel => exact ⟨k + 1, ps ++ [(⟨nm, s, al⟩, .slice sva ln svc)], ea2, ec2, by omega, by go_num, by rw [List.length_append, HPL.out]; rfl, HMAP.out, HOE.out, HBE.out, HSE.out, P0E.out, P1E.out, P2E.out⟩
      case measure => simp [intOf]; omega
    · have hkm : k = m := by omega
      subst hkm
      have d0 := lcell_of hp2 0 rfl
      have d1 := lcell_of hp2 1 rfl
      have d2 := lcell_of hp2 2 rfl
      have t0 := lcell_of hp1 0 rfl
      have t1 := lcell_of hp1 1 rfl
      have t2 := lcell_of hp1 2 rfl
      have ft := lfrozen_of hp1
      clear hpl hpf hown hnx hNs hp0 hp1 hp2
      go_wp2_with fail
      refine bodyPost_ret (v := .agg #[.int .u64 (R.first : Int), .int .u64 (R.next : Int), .slice ea k ec]) (by simp [results, Try.results74, go_sem, t0, t1, t2]) rfl ?_
      have hk3 := kept3 wr (w.heap.size + 1) (.int .u64 (R.first : Int)) (.int .u64 (R.next : Int)) (.slice ea k ec)
      refine ⟨ea, k, ec, ps, rfl, HPL.out.symm, ?_, (HO.out.other HP1.out (by decide) (by decide) hk3).mono (by have := HNW.out; omega), HB.out.trans (hk3.bel (fun b hb => by omega))⟩
      rw [HPF.out, HD.out, List.take_of_length_le (by have := HM.out; omega)]
end Go.Proofs.Ytjbdofjheeljkaa
