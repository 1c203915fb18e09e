/-
  The statements' own as: is a ledger what the document's is?
-/
import Derived.Test.YtjbdofjheeljkaaPlain
import Derived.Test.YtjbdofjheeljkaaLdgLawW
namespace Go.Proofs.Ytjbdofjheeljkaa
open Go.RowKit
open Ldg (De Le Rd Rl)

/-- No number of it is great. -/
structure Ldg.Rl.Sz (R : Rl) : Prop where
  first : R.first ≤ 1000000000
  next : R.next ≤ 1000000000
  many : R.dests.length ≤ 4
  each : ∀ d ∈ R.dests, d.since ≤ 1000000000 ∧ d.all.length ≤ 1000000000
theorem sz_of {R : Rl} (h : R.Ok) : R.Sz := by
  have h1 := h.fn
  have h2 := h.nb
  exact ⟨by omega, by omega, h.many, fun d hd => by have := (h.each d hd).ends; omega⟩
theorem sz_none : Rl.none.Sz := ⟨by decide, by decide, by decide, fun d hd => by simp [Ldg.Rl.none] at hd⟩
theorem as_at {R : Rl} {ps : List DV} {qs : List RV} (h1 : R.abs.dests = ps.map Prod.fst) (h2 : R.dests = qs.map Prod.fst) {k : Nat} (hp : k < ps.length) (hq : k < qs.length) : ps[k].1 = qs[k].1.abs := by
  have e : R.abs.dests = (qs.map Prod.fst).map Rd.abs := by rw [← h2]; rfl
  rw [h1] at e
  have := congrArg (fun l => l[k]?) e
  simpa [hp, hq] using this
theorem SlIn.u {X : Nat → Prop} {w : World} {a : Option Addr} {n c : Nat} {l : List Nat} (h : SlIn X w (.slice a n c) l) : U64In X w a l := by
  obtain ⟨a', c', e, _, _, h3⟩ := h
  simp only [Value.slice.injEq] at e
  rw [e.1]; exact h3
theorem as_len {R : Rl} {ps : List DV} {qs : List RV} (h1 : R.abs.dests = ps.map Prod.fst) (h2 : R.dests = qs.map Prod.fst) : qs.length = ps.length := by
  have e := congrArg List.length h1
  rw [Ldg.abs_many, h2, List.length_map, List.length_map] at e
  exact e
set_option maxRecDepth 100000 in
set_option maxHeartbeats 1600000 in
theorem as_any {w : World} {x y : Value} {R : Rl} (hx : LedAt w x R.abs) (hy : RlAt w y R) (hz : R.Sz) :
    Calls Try.prog 53 #[x, y] w fun e w' => e = .returned (.bool true) ∧ Below w.heap.size w w' := by
  obtain ⟨a, c, ps, rfl, hc, hd, hds⟩ := hx
  obtain ⟨a2, c2, qs, rfl, hc2, hd2, hrs⟩ := hy
  have hlen := as_len hd hd2
  have hat := fun k (hp : k < ps.length) (hq : k < qs.length) => as_at hd hd2 hp hq
  have hsm : ∀ k (hk : k < qs.length), qs[k].1.since ≤ 1000000000 ∧ qs[k].1.all.length ≤ 1000000000 := fun k hk => hz.each _ (by rw [hd2]; exact List.mem_map_of_mem (List.getElem_mem hk))
  have hm4 : ps.length ≤ 4 := by have := hz.many; rw [hd2, List.length_map] at this; omega
  have hF : R.first ≤ 1000000000 := hz.first
  have hN : R.next ≤ 1000000000 := hz.next
  have eF : R.abs.first = R.first := rfl
  have eN : R.abs.next = R.next := rfl
  rw [eF, eN, hlen]
  rw [hlen] at hc2
  obtain ⟨m, hm⟩ : ∃ m, ps.length = m := ⟨_, rfl⟩
  have hmq : qs.length = m := by omega
  rw [hm] at hc hc2 hm4 ⊢
  obtain ⟨F, hFF⟩ : ∃ F, R.first = F := ⟨_, rfl⟩
  obtain ⟨N, hNN⟩ : ∃ N, R.next = N := ⟨_, rfl⟩
  rw [hFF] at hF ⊢
  rw [hNN] at hN ⊢
  have HM := hide hm
  have HQ := hide hmq
  have HAT := hide hat
  have HDS := hide hds
  have HRS := hide hrs
  have HSM := hide hsm
  obtain ⟨wA, hwA⟩ : ∃ W, (w.alloc (.cells #[.int .u64 (F : Int), .int .u64 (N : Int), .slice a m c] 27)).alloc (.cells #[.int .u64 (F : Int), .int .u64 (N : Int), .slice a2 m c2] 31) = W := ⟨_, rfl⟩
  have hA0 : wA.heap[w.heap.size]? = some (.cells #[.int .u64 (F : Int), .int .u64 (N : Int), .slice a m c] 27 (0, 0)) := by rw [← hwA]; exact two_old w _ _
  have hA1 : wA.heap[w.heap.size + 1]? = some (.cells #[.int .u64 (F : Int), .int .u64 (N : Int), .slice a2 m c2] 31 (0, 0)) := by rw [← hwA]; exact two_new w _ _
  have hAs : wA.heap.size = w.heap.size + 2 := by rw [← hwA]; simp
  have hAb : Below w.heap.size w wA := by rw [← hwA]; exact ((Below.refl w.heap.size w).alloc (Nat.le_refl _) _).alloc (by simp) _
  have a0 := lcell_of hA0 0 rfl
  have a1 := lcell_of hA0 1 rfl
  have a2' := lcell_of hA0 2 rfl
  have b0 := lcell_of hA1 0 rfl
  have b1 := lcell_of hA1 1 rfl
  have b2 := lcell_of hA1 2 rfl
  have HA0 := hide hA0
  have HA1 := hide hA1
  have HAS := hide hAs
  have HAB := hide hAb
  clear hm hmq hat hds hrs hsm hd hd2 hlen eF eN hz hFF hNN hA0 hA1 hAs hAb
  go_enter Try.func53, Try.ntmps53
  go_wp2_with fail
  clear a0 a1 a2' b0 b1 b2
  clear hwA
  go_loopw [5] (fun i wr => ∃ k : Nat, k ≤ m ∧ i = .int .i64 (k : Int) ∧ Below w.heap.size w wr ∧ w.heap.size + 1 < wr.heap.size ∧
      wr.heap[w.heap.size]? = some (.cells #[.int .u64 (F : Int), .int .u64 (N : Int), .slice a m c] 27 (0, 0)) ∧ wr.heap[w.heap.size + 1]? = some (.cells #[.int .u64 (F : Int), .int .u64 (N : Int), .slice a2 m c2] 31 (0, 0)))
    (fun i _ => m - (intOf i).toNat)
  case atStart => exact ⟨0, Nat.zero_le _, rfl, HAB.out, by have := HAS.out; omega, HA0.out, HA1.out⟩
  case round =>
    obtain ⟨k, hk, rfl, hnx, hws, hp0, hp1⟩ := hrel
    have HB := hide hnx
    have HP0 := hide hp0
    have HP1 := hide hp1
    have HWS := hide hws
    have p2 := lcell_of hp0 2 rfl
    have q2 := lcell_of hp1 2 rfl
    by_cases hlt : k < m
    · obtain ⟨b, off, nm, s, lo, ab, ak, ev, rj, va, vc, rfl, hbl, hzz, hsl, g0, g1, g2, g3, g4, g5, g6⟩ := HDS.out.get hnx (k := k) (by have := HM.out; omega)
      obtain ⟨b', off', nm', s', al, va', vc', rfl, hbl', hzz', hsl', h0, h1, h2⟩ := HRS.out.get hnx (k := k) (by have := HQ.out; omega)
      have he := HAT.out k (by have := HM.out; omega) (by have := HQ.out; omega)
      obtain ⟨hs1, hs2⟩ := HSM.out k (by have := HQ.out; omega)
      rw [hzz'] at hs1 hs2
      simp only at hs1 hs2
      rw [hzz, hzz'] at he
      simp only [Ldg.Rd.abs, De.mk.injEq] at he
      obtain ⟨rfl, rfl, e3, e4, e5, e6, e7⟩ := he
      have hlo : lo ≤ 2000000000 := by have := Ldg.lowR_ge al s; have e : lo = Ldg.lowR s al := e3; omega
      have hab : ab.length ≤ 1000000000 := by
        have := Ldg.above_len ⟨nm, s, al⟩
        rw [← e4] at this
        have e : (Rd.mk nm s al).all = al := rfl
        rw [e] at this
        omega
      have hak : ak ≤ 1000000000 := by have := List.count_le_length (a := 97) (l := al); omega
      have hev : ev ≤ 1000000000 := by have := List.count_le_length (a := 101) (l := al); omega
      have hrj : rj ≤ 1000000000 := by have := List.count_le_length (a := 114) (l := al); omega
      have E3 := hide (show Ldg.lowR s al = lo from e3.symm)
      have E4 := hide e4
      have E5 := hide e5
      have E6 := hide e6
      have E7 := hide e7
      have HSL := hide hsl
      have HSL' := hide hsl'
      obtain ⟨G, hG⟩ : ∃ n, wr.heap.size = n := ⟨_, rfl⟩
      obtain ⟨wC, hwC⟩ : ∃ W, wr.alloc (.cells #[.string nm, .int .u64 (s : Int), .int .u64 (lo : Int), .slice va ab.length vc, .int .u64 (ak : Int), .int .u64 (ev : Int), .int .u64 (rj : Int)] 41) = W := ⟨_, rfl⟩
      have kC : Below wr.heap.size wr wC := by rw [← hwC]; exact (Below.refl _ _).alloc (Nat.le_refl _) _
      have sC : wC.heap.size = G + 1 := by rw [← hwC]; simp [hG]
      have oC : wC.heap[G]? = some (.cells #[.string nm, .int .u64 (s : Int), .int .u64 (lo : Int), .slice va ab.length vc, .int .u64 (ak : Int), .int .u64 (ev : Int), .int .u64 (rj : Int)] 41 (0, 0)) := by
        rw [← hwC, ← hG]; show (wr.heap.push _)[wr.heap.size]? = _; simp
      obtain ⟨wD, hwD⟩ : ∃ W, wC.alloc (.cells #[.string nm, .int .u64 (s : Int), .slice va' al.length vc'] 99) = W := ⟨_, rfl⟩
      have kD : Below wC.heap.size wC wD := by rw [← hwD]; exact (Below.refl _ _).alloc (Nat.le_refl _) _
      have sD : wD.heap.size = G + 2 := by rw [← hwD]; simp [sC]
      have oD : wD.heap[G + 1]? = some (.cells #[.string nm, .int .u64 (s : Int), .slice va' al.length vc'] 99 (0, 0)) := by
        rw [← hwD, ← sC]; show (wC.heap.push _)[wC.heap.size]? = _; simp
      have oC2 := (kD.block G (by omega)).trans oC
      have kR : Below wr.heap.size wr wD := kC.trans (kD.mono (by omega))
      have c2' := lcell_of ((kC.block (w.heap.size + 1) (by omega)).trans hp1) 2 rfl
      have hb2 : b' < wr.heap.size := by omega
      have i0 := (kC.cell (p := ⟨b', off' + k * 3, none⟩) hb2).trans h0
      have i1 := (kC.cell (p := ⟨b', off' + k * 3 + 1, none⟩) hb2).trans h1
      have i2 := (kC.cell (p := ⟨b', off' + k * 3 + 2, none⟩) hb2).trans h2
      have OC := hide oC2
      have OD := hide oD
      have KR := hide kR
      have SD := hide sD
      have HG := hide hG
      have HWD := hide hwD
      have hab' : Rd.above ⟨nm, s, al⟩ = ab := E4.out.symm
      have HABV := hide hab'
      have HLOW := hide (fun W (hW : Below wr.heap.size wr W) => rlow_any nm s (hsl'.below hW) hs2 hs1)
      have HABO := hide (fun W (hW : Below wr.heap.size wr W) => rabove_any nm s (hsl'.below hW) hs2 hs1)
      have HCNT := hide (fun W (hW : Below wr.heap.size wr W) (q : Nat) => rcount_any nm s q (hsl'.below hW) hs2)
      clear e3 e4 e5 e6 e7 hsl hsl' hzz hzz' hp0 hp1 kC oC oC2 kD oD kR h0 h1 h2 hab'
      go_wp2_with fail
      refine wp_region_growK (fun x => x < G + 2) [([0, 1, 2, 3, 4, 5, 6, 7, 8, 9, 10, 11, 12, 13, 14, 15], 16), ([17, 18, 19, 20, 21, 22], 23), ([], 24), ([25, 26, 27, 28, 29, 30], 31), ([32, 33, 34, 35, 36, 37], 38), ([39, 40, 41, 42, 43, 44], 45)] [46, 47] [] (by kernel_rfl) (by kernel_rfl) (by kernel_rfl) (by kernel_rfl) ?_
      intro wq hbq
      simp only [stagesOfK, getLK, pickLK]
      have HBQ := hide hbq
      clear hbq
      have oc := (HBQ.out.block G (by have := SD.out; omega)).trans OC.out
      have od := (HBQ.out.block (G + 1) (by have := SD.out; omega)).trans OD.out
      have inh : Nonempty (GrK (fun x => x < G + 2) wq) := GrK.some _ wq
      have z0 := fun z : GrK (fun x => x < G + 2) wq => z.cell (a := ⟨G, 0, none⟩) (by show G < G + 2; omega) (lcell_of oc 0 rfl)
      have z1 := fun z : GrK (fun x => x < G + 2) wq => z.cell (a := ⟨G, 1, none⟩) (by show G < G + 2; omega) (lcell_of oc 1 rfl)
      have z2 := fun z : GrK (fun x => x < G + 2) wq => z.cell (a := ⟨G, 2, none⟩) (by show G < G + 2; omega) (lcell_of oc 2 rfl)
      have z3 := fun z : GrK (fun x => x < G + 2) wq => z.cell (a := ⟨G, 3, none⟩) (by show G < G + 2; omega) (lcell_of oc 3 rfl)
      have z4 := fun z : GrK (fun x => x < G + 2) wq => z.cell (a := ⟨G, 4, none⟩) (by show G < G + 2; omega) (lcell_of oc 4 rfl)
      have z5 := fun z : GrK (fun x => x < G + 2) wq => z.cell (a := ⟨G, 5, none⟩) (by show G < G + 2; omega) (lcell_of oc 5 rfl)
      have z6 := fun z : GrK (fun x => x < G + 2) wq => z.cell (a := ⟨G, 6, none⟩) (by show G < G + 2; omega) (lcell_of oc 6 rfl)
      have y0 := fun z : GrK (fun x => x < G + 2) wq => z.cell (a := ⟨G + 1, 0, none⟩) (by show G + 1 < G + 2; omega) (lcell_of od 0 rfl)
      have y1 := fun z : GrK (fun x => x < G + 2) wq => z.cell (a := ⟨G + 1, 1, none⟩) (by show G + 1 < G + 2; omega) (lcell_of od 1 rfl)
      have y2 := fun z : GrK (fun x => x < G + 2) wq => z.cell (a := ⟨G + 1, 2, none⟩) (by show G + 1 < G + 2; omega) (lcell_of od 2 rfl)
      clear oc od
      refine wpG_stageK ?_
      repeat (go_big_quiet_step (fail))
      refine wpQuiet_nil ?_
      clear z0 z1 z2 z3 z4 z5 z6 y0 y1 y2 inh
      go_wp2_with fail
      refine (HLOW.out wq (KR.out.trans (HBQ.out.mono KR.out.size))).mono ?_
      rintro e w1 ⟨rfl, h1⟩
      rw [E3.out]
      have hk1 : Kept (fun x => x < G + 2) wq w1 := Kept.of_below h1 (fun x hx => by have := HBQ.out.size; have := SD.out; omega)
      have HB1 := hide (HBQ.out.trans (h1.mono HBQ.out.size))
      clear h1
      go_wp2
      refine OnToK.mk hk1 (Sub.refl _) ?_
      have oc := (HB1.out.block G (by have := SD.out; omega)).trans OC.out
      have od := (HB1.out.block (G + 1) (by have := SD.out; omega)).trans OD.out
      have inh : Nonempty (GrK (fun x => x < G + 2) w1) := GrK.some _ w1
      have z0 := fun z : GrK (fun x => x < G + 2) w1 => z.cell (a := ⟨G, 0, none⟩) (by show G < G + 2; omega) (lcell_of oc 0 rfl)
      have z1 := fun z : GrK (fun x => x < G + 2) w1 => z.cell (a := ⟨G, 1, none⟩) (by show G < G + 2; omega) (lcell_of oc 1 rfl)
      have z2 := fun z : GrK (fun x => x < G + 2) w1 => z.cell (a := ⟨G, 2, none⟩) (by show G < G + 2; omega) (lcell_of oc 2 rfl)
      have z3 := fun z : GrK (fun x => x < G + 2) w1 => z.cell (a := ⟨G, 3, none⟩) (by show G < G + 2; omega) (lcell_of oc 3 rfl)
      have z4 := fun z : GrK (fun x => x < G + 2) w1 => z.cell (a := ⟨G, 4, none⟩) (by show G < G + 2; omega) (lcell_of oc 4 rfl)
      have z5 := fun z : GrK (fun x => x < G + 2) w1 => z.cell (a := ⟨G, 5, none⟩) (by show G < G + 2; omega) (lcell_of oc 5 rfl)
      have z6 := fun z : GrK (fun x => x < G + 2) w1 => z.cell (a := ⟨G, 6, none⟩) (by show G < G + 2; omega) (lcell_of oc 6 rfl)
      have y0 := fun z : GrK (fun x => x < G + 2) w1 => z.cell (a := ⟨G + 1, 0, none⟩) (by show G + 1 < G + 2; omega) (lcell_of od 0 rfl)
      have y1 := fun z : GrK (fun x => x < G + 2) w1 => z.cell (a := ⟨G + 1, 1, none⟩) (by show G + 1 < G + 2; omega) (lcell_of od 1 rfl)
      have y2 := fun z : GrK (fun x => x < G + 2) w1 => z.cell (a := ⟨G + 1, 2, none⟩) (by show G + 1 < G + 2; omega) (lcell_of od 2 rfl)
      clear oc od
      refine wpG_stageK ?_
      repeat (go_big_quiet_step (fail))
      refine wpQuiet_nil ?_
      clear z0 z1 z2 z3 z4 z5 z6 y0 y1 y2 inh
      go_wp2_with fail
      refine (HABO.out w1 (KR.out.trans (HB1.out.mono KR.out.size))).mono ?_
      rintro e w2 ⟨v', rfl, hown, h2⟩
      rw [HABV.out] at hown
      obtain ⟨ea, ec, rfl, hec⟩ : ∃ ea ec, v' = .slice ea ab.length ec ∧ ab.length ≤ ec := by
        obtain ⟨ea, ec, e, h5, _⟩ := hown.sl
        exact ⟨ea, ec, e, h5⟩
      have HOWN := hide hown
      clear hown
      have hk2 : Kept (fun x => x < G + 2) w1 w2 := Kept.of_below h2 (fun x hx => by have := HB1.out.size; have := SD.out; omega)
      have HB2 := hide (HB1.out.trans (h2.mono HB1.out.size))
      clear h2
      go_wp2
      refine OnToK.mk hk2 (Sub.refl _) ?_
      refine wpG_stageK (wpQuiet_nil ?_)
      go_wp2_with fail
      refine (usame_any (HSL.out.below (KR.out.trans (HB2.out.mono KR.out.size))).u HOWN.out.sl.u hab hab).mono ?_
      rintro e w3 ⟨rfl, h3⟩
      rw [decide_eq_true (rfl : ab = ab)]
      have hk3 : Kept (fun x => x < G + 2) w2 w3 := Kept.of_below h3 (fun x hx => by have := HB2.out.size; have := SD.out; omega)
      have HB3 := hide (HB2.out.trans (h3.mono HB2.out.size))
      clear h3
      go_wp2
      refine OnToK.mk hk3 (Sub.refl _) ?_
      have oc := (HB3.out.block G (by have := SD.out; omega)).trans OC.out
      have od := (HB3.out.block (G + 1) (by have := SD.out; omega)).trans OD.out
      have inh : Nonempty (GrK (fun x => x < G + 2) w3) := GrK.some _ w3
      have z0 := fun z : GrK (fun x => x < G + 2) w3 => z.cell (a := ⟨G, 0, none⟩) (by show G < G + 2; omega) (lcell_of oc 0 rfl)
      have z1 := fun z : GrK (fun x => x < G + 2) w3 => z.cell (a := ⟨G, 1, none⟩) (by show G < G + 2; omega) (lcell_of oc 1 rfl)
      have z2 := fun z : GrK (fun x => x < G + 2) w3 => z.cell (a := ⟨G, 2, none⟩) (by show G < G + 2; omega) (lcell_of oc 2 rfl)
      have z3 := fun z : GrK (fun x => x < G + 2) w3 => z.cell (a := ⟨G, 3, none⟩) (by show G < G + 2; omega) (lcell_of oc 3 rfl)
      have z4 := fun z : GrK (fun x => x < G + 2) w3 => z.cell (a := ⟨G, 4, none⟩) (by show G < G + 2; omega) (lcell_of oc 4 rfl)
      have z5 := fun z : GrK (fun x => x < G + 2) w3 => z.cell (a := ⟨G, 5, none⟩) (by show G < G + 2; omega) (lcell_of oc 5 rfl)
      have z6 := fun z : GrK (fun x => x < G + 2) w3 => z.cell (a := ⟨G, 6, none⟩) (by show G < G + 2; omega) (lcell_of oc 6 rfl)
      have y0 := fun z : GrK (fun x => x < G + 2) w3 => z.cell (a := ⟨G + 1, 0, none⟩) (by show G + 1 < G + 2; omega) (lcell_of od 0 rfl)
      have y1 := fun z : GrK (fun x => x < G + 2) w3 => z.cell (a := ⟨G + 1, 1, none⟩) (by show G + 1 < G + 2; omega) (lcell_of od 1 rfl)
      have y2 := fun z : GrK (fun x => x < G + 2) w3 => z.cell (a := ⟨G + 1, 2, none⟩) (by show G + 1 < G + 2; omega) (lcell_of od 2 rfl)
      clear oc od
      refine wpG_stageK ?_
      repeat (go_big_quiet_step (fail))
      refine wpQuiet_nil ?_
      clear z0 z1 z2 z3 z4 z5 z6 y0 y1 y2 inh
      go_wp2_with fail
      refine (HCNT.out w3 (KR.out.trans (HB3.out.mono KR.out.size)) 97).mono ?_
      rintro e w4 ⟨rfl, h4⟩
      rw [← E5.out]
      have hk4 : Kept (fun x => x < G + 2) w3 w4 := Kept.of_below h4 (fun x hx => by have := HB3.out.size; have := SD.out; omega)
      have HB4 := hide (HB3.out.trans (h4.mono HB3.out.size))
      clear h4
      go_wp2
      refine OnToK.mk hk4 (Sub.refl _) ?_
      have oc := (HB4.out.block G (by have := SD.out; omega)).trans OC.out
      have od := (HB4.out.block (G + 1) (by have := SD.out; omega)).trans OD.out
      have inh : Nonempty (GrK (fun x => x < G + 2) w4) := GrK.some _ w4
      have z0 := fun z : GrK (fun x => x < G + 2) w4 => z.cell (a := ⟨G, 0, none⟩) (by show G < G + 2; omega) (lcell_of oc 0 rfl)
      have z1 := fun z : GrK (fun x => x < G + 2) w4 => z.cell (a := ⟨G, 1, none⟩) (by show G < G + 2; omega) (lcell_of oc 1 rfl)
      have z2 := fun z : GrK (fun x => x < G + 2) w4 => z.cell (a := ⟨G, 2, none⟩) (by show G < G + 2; omega) (lcell_of oc 2 rfl)
      have z3 := fun z : GrK (fun x => x < G + 2) w4 => z.cell (a := ⟨G, 3, none⟩) (by show G < G + 2; omega) (lcell_of oc 3 rfl)
      have z4 := fun z : GrK (fun x => x < G + 2) w4 => z.cell (a := ⟨G, 4, none⟩) (by show G < G + 2; omega) (lcell_of oc 4 rfl)
      have z5 := fun z : GrK (fun x => x < G + 2) w4 => z.cell (a := ⟨G, 5, none⟩) (by show G < G + 2; omega) (lcell_of oc 5 rfl)
      have z6 := fun z : GrK (fun x => x < G + 2) w4 => z.cell (a := ⟨G, 6, none⟩) (by show G < G + 2; omega) (lcell_of oc 6 rfl)
      have y0 := fun z : GrK (fun x => x < G + 2) w4 => z.cell (a := ⟨G + 1, 0, none⟩) (by show G + 1 < G + 2; omega) (lcell_of od 0 rfl)
      have y1 := fun z : GrK (fun x => x < G + 2) w4 => z.cell (a := ⟨G + 1, 1, none⟩) (by show G + 1 < G + 2; omega) (lcell_of od 1 rfl)
      have y2 := fun z : GrK (fun x => x < G + 2) w4 => z.cell (a := ⟨G + 1, 2, none⟩) (by show G + 1 < G + 2; omega) (lcell_of od 2 rfl)
      clear oc od
      refine wpG_stageK ?_
      repeat (go_big_quiet_step (fail))
      refine wpQuiet_nil ?_
      clear z0 z1 z2 z3 z4 z5 z6 y0 y1 y2 inh
      go_wp2_with fail
      refine (HCNT.out w4 (KR.out.trans (HB4.out.mono KR.out.size)) 101).mono ?_
      rintro e w5 ⟨rfl, h5⟩
      rw [← E6.out]
      have hk5 : Kept (fun x => x < G + 2) w4 w5 := Kept.of_below h5 (fun x hx => by have := HB4.out.size; have := SD.out; omega)
      have HB5 := hide (HB4.out.trans (h5.mono HB4.out.size))
      clear h5
      go_wp2
      refine OnToK.mk hk5 (Sub.refl _) ?_
      have oc := (HB5.out.block G (by have := SD.out; omega)).trans OC.out
      have od := (HB5.out.block (G + 1) (by have := SD.out; omega)).trans OD.out
      have inh : Nonempty (GrK (fun x => x < G + 2) w5) := GrK.some _ w5
      have z0 := fun z : GrK (fun x => x < G + 2) w5 => z.cell (a := ⟨G, 0, none⟩) (by show G < G + 2; omega) (lcell_of oc 0 rfl)
      have z1 := fun z : GrK (fun x => x < G + 2) w5 => z.cell (a := ⟨G, 1, none⟩) (by show G < G + 2; omega) (lcell_of oc 1 rfl)
      have z2 := fun z : GrK (fun x => x < G + 2) w5 => z.cell (a := ⟨G, 2, none⟩) (by show G < G + 2; omega) (lcell_of oc 2 rfl)
      have z3 := fun z : GrK (fun x => x < G + 2) w5 => z.cell (a := ⟨G, 3, none⟩) (by show G < G + 2; omega) (lcell_of oc 3 rfl)
      have z4 := fun z : GrK (fun x => x < G + 2) w5 => z.cell (a := ⟨G, 4, none⟩) (by show G < G + 2; omega) (lcell_of oc 4 rfl)
      have z5 := fun z : GrK (fun x => x < G + 2) w5 => z.cell (a := ⟨G, 5, none⟩) (by show G < G + 2; omega) (lcell_of oc 5 rfl)
      have z6 := fun z : GrK (fun x => x < G + 2) w5 => z.cell (a := ⟨G, 6, none⟩) (by show G < G + 2; omega) (lcell_of oc 6 rfl)
      have y0 := fun z : GrK (fun x => x < G + 2) w5 => z.cell (a := ⟨G + 1, 0, none⟩) (by show G + 1 < G + 2; omega) (lcell_of od 0 rfl)
      have y1 := fun z : GrK (fun x => x < G + 2) w5 => z.cell (a := ⟨G + 1, 1, none⟩) (by show G + 1 < G + 2; omega) (lcell_of od 1 rfl)
      have y2 := fun z : GrK (fun x => x < G + 2) w5 => z.cell (a := ⟨G + 1, 2, none⟩) (by show G + 1 < G + 2; omega) (lcell_of od 2 rfl)
      clear oc od
      refine wpG_stageK ?_
      repeat (go_big_quiet_step (fail))
      refine wpQuiet_nil ?_
      clear z0 z1 z2 z3 z4 z5 z6 y0 y1 y2 inh
      go_wp2_with fail
      refine (HCNT.out w5 (KR.out.trans (HB5.out.mono KR.out.size)) 114).mono ?_
      rintro e w6 ⟨rfl, h6⟩
      rw [← E7.out]
      have hk6 : Kept (fun x => x < G + 2) w5 w6 := Kept.of_below h6 (fun x hx => by have := HB5.out.size; have := SD.out; omega)
      have HB6 := hide (HB5.out.trans (h6.mono HB5.out.size))
      clear h6
      go_wp2
      refine OnToK.mk hk6 (Sub.refl _) ?_
      have inh : Nonempty (GrK (fun x => x < G + 2) w6) := GrK.some _ w6
      refine wpG_lastK ?_
      repeat (go_big_quiet_step (fail))
      refine wpQuiet_nil ?_
      clear inh
      go_wp2
      have hf := KR.out.trans (HB6.out.mono KR.out.size)
      have hgs := HG.out
      go_roundw
      case rel => exact ⟨k + 1, by omega, by go_num, HB.out.trans (hf.mono HB.out.size), by have := hf.size; have := HWS.out; omega, (hf.block _ (by have := HWS.out; omega)).trans HP0.out, (hf.block _ (by have := HWS.out; omega)).trans HP1.out⟩
      case measure => simp [intOf]; omega
    · go_wp2
      go_ret
      exact ⟨rfl, hnx⟩
end Go.Proofs.Ytjbdofjheeljkaa
