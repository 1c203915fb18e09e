/-
  Pending; Find.
-/
import Derived.Test.YtjbdofjheeljkaaLdgRead2W
namespace Go.Proofs.Ytjbdofjheeljkaa
open Go.RowKit
open Ldg (De Le Rd Rl)

set_option maxRecDepth 100000 in
set_option maxHeartbeats 1600000 in
theorem pending_any {w : World} {v : Value} {L : Le} (h : LedAt w v L) (hf : L.Fit) (hrt : L.right = true) (n : ByteArray) :
    Calls Try.prog 23 #[v, .string n] w fun e w' => ∃ v', e = .returned v' ∧ OwnU w' w.heap.size v' (L.pend n) ∧ Below w.heap.size w w' := by
  have HLED := hide h
  obtain ⟨a, c, ps, rfl, hc, hd, hds⟩ := h
  have hmn := many_of hf hd
  have hnm := names_eq hd
  obtain ⟨R, hR⟩ : ∃ R, L.pend n = R := ⟨_, rfl⟩
  rw [hR]
  unfold Le.pend Le.look Le.names at hR
  rw [hnm] at hR
  have HR := hide hR
  have HF := hide hf
  have HD := hide hd
  have HDS := hide hds
  obtain ⟨m, hm⟩ : ∃ m, ps.length = m := ⟨_, rfl⟩
  rw [hm] at hc hmn HLED ⊢
  have HM := hide hm
  have HPL := fun W (hW : Below w.heap.size w W) => placeOf_any a c ps n W (hds.below hW) (by omega)
  rw [hm] at HPL
  have HP := hide HPL
  have hrv := fun W (hW : Below w.heap.size w W) => right_any (HLED.out.below hW) (by have := hf.many; omega) (fun d hd => (hf.each d hd).small)
  rw [hrt] at hrv
  have HRV := hide hrv
  obtain ⟨wA, hwA⟩ : ∃ W, w.alloc (.cells #[.int .u64 (L.first : Int), .int .u64 (L.next : Int), .slice a m c] 27) = W := ⟨_, rfl⟩
  have hA0 : wA.heap[w.heap.size]? = some (.cells #[.int .u64 (L.first : Int), .int .u64 (L.next : Int), .slice a m c] 27 (0, 0)) := by
    rw [← hwA]; show (w.heap.push _)[w.heap.size]? = _; simp
  have hAs : w.heap.size < wA.heap.size := by rw [← hwA]; simp
  have hAb : Below w.heap.size w wA := by rw [← hwA]; exact (Below.refl _ _).alloc (Nat.le_refl _) _
  have HA0 := hide hA0
  have HAB := hide hAb
  have HAS := hide hAs
  have a0 := lcell_of hA0 0 rfl
  have a1 := lcell_of hA0 1 rfl
  have a2 := lcell_of hA0 2 rfl
  clear HPL hm hds hd hf hR hnm hrt hrv hA0 hAb hAs
  go_enter Try.func23, Try.ntmps23
  go_wp2_with fail
  refine (HP.out _ HAB.out).mono ?_
  rintro e w1 ⟨rfl, hb1⟩
  have h0 := (hb1.block _ HAS.out).trans HA0.out
  have c0 := lcell_of h0 0 rfl
  have c1 := lcell_of h0 1 rfl
  have c2 := lcell_of h0 2 rfl
  have hb01 := bl HAB.out hb1
  have HB1 := hide hb01
  have hsz1 := hb1.size
  have HS1 := hide (show w.heap.size < w1.heap.size by have := HAS.out; omega)
  have H0 := hide h0
  clear h0 hb1 HA0 hsz1 hb01 hwA a0 a1 a2
  rcases Ldg.plc_cases (ps.map (fun p => p.1.name)) n with ⟨hp, _⟩ | ⟨k, hk, hp, _⟩
  · have hR := HR.out
    rw [Ldg.lookAt_no _ hp] at hR
    simp only at hR
    subst hR
    rw [hp]
    clear HR hp
    go_wp2_with fail
    go_ret
    exact ⟨_, rfl, World.ownsRow_nil _ _ _ _, HB1.out⟩
  · rw [List.length_map] at hk
    have hR := HR.out
    rw [Ldg.lookAt_at hp (by rw [HD.out, List.length_map]; exact hk)] at hR
    simp only [HD.out, List.getElem_map] at hR
    have HRR := hide hR
    rw [hp]
    have hkm : k < m := by have := HM.out; omega
    have hk0 : ((k : Int) != -1) = true := by simp
    clear HR hp HP hR
    go_wp2_with fail
    refine (HRV.out _ HB1.out).mono ?_
    rintro e w2 ⟨rfl, hb2⟩
    have h2 := (hb2.block _ HS1.out).trans H0.out
    have d0 := lcell_of h2 0 rfl
    have d1 := lcell_of h2 1 rfl
    have d2 := lcell_of h2 2 rfl
    have HB2 := hide (bl HB1.out hb2)
    have HH2 := hide h2
    clear h2 hb2 c0 c1 c2 HRV
    obtain ⟨b, off, nm, s, lo, ab, ak, ev, rj, va, vc, rfl, hbl, hz, hsl, g0, g1, g2, g3, g4, g5, g6⟩ := HDS.out.get HB2.out hk
    have hfk := fit_at HF.out HD.out hk
    have hrr := HRR.out
    rw [hz] at hrr hfk
    simp only at hrr hfk
    have hnx := HF.out.next
    have hcl := fun W (hW : Below w2.heap.size w2 W) => dpending_any nm s lo ak ev rj (hsl.below hW) hfk.rise hfk.ge L.next hfk.low (by omega)
    rw [hrr] at hcl
    obtain ⟨an, han⟩ : ∃ x, ab.length = x := ⟨_, rfl⟩
    rw [han] at g3 hcl
    have HC := hide hcl
    have hbs : b < w2.heap.size := Nat.lt_of_lt_of_le hbl HB2.out.size
    have hws : w.heap.size < w2.heap.size := (Array.getElem?_eq_some_iff.1 HH2.out).1
    clear hz hsl hfk hrr hcl han HDS hk HRR
    go_wp2_with fail
    refine wp_region_growK (fun x => x < w2.heap.size) [([0, 1, 2, 3, 4, 5, 6], 7)] [8] [] (by kernel_rfl) (by kernel_rfl) (by kernel_rfl) (by kernel_rfl) ?_
    intro w3 hb3
    simp only [stagesOfK, getLK, pickLK]
    have HB3 := hide hb3
    have e1 := (hb3.cell (p := ⟨w.heap.size, 1, none⟩) hws).trans d1
    have e2 := (hb3.cell (p := ⟨w.heap.size, 2, none⟩) hws).trans d2
    have f0 := (hb3.cell (p := ⟨b, off + k * 7, none⟩) hbs).trans g0
    have f1 := (hb3.cell (p := ⟨b, off + k * 7 + 1, none⟩) hbs).trans g1
    have f2 := (hb3.cell (p := ⟨b, off + k * 7 + 2, none⟩) hbs).trans g2
    have f3 := (hb3.cell (p := ⟨b, off + k * 7 + 3, none⟩) hbs).trans g3
    have f4 := (hb3.cell (p := ⟨b, off + k * 7 + 4, none⟩) hbs).trans g4
    have f5 := (hb3.cell (p := ⟨b, off + k * 7 + 5, none⟩) hbs).trans g5
    have f6 := (hb3.cell (p := ⟨b, off + k * 7 + 6, none⟩) hbs).trans g6
    have inh : Nonempty (GrK (fun x => x < w2.heap.size) w3) := GrK.some _ w3
    have q1 := fun z : GrK (fun x => x < w2.heap.size) w3 => z.cell (a := ⟨w.heap.size, 1, none⟩) hws e1
    have q2 := fun z : GrK (fun x => x < w2.heap.size) w3 => z.cell (a := ⟨w.heap.size, 2, none⟩) hws e2
    have r0 := fun z : GrK (fun x => x < w2.heap.size) w3 => z.cell (a := ⟨b, off + k * 7, none⟩) hbs f0
    have r1 := fun z : GrK (fun x => x < w2.heap.size) w3 => z.cell (a := ⟨b, off + k * 7 + 1, none⟩) hbs f1
    have r2 := fun z : GrK (fun x => x < w2.heap.size) w3 => z.cell (a := ⟨b, off + k * 7 + 2, none⟩) hbs f2
    have r3 := fun z : GrK (fun x => x < w2.heap.size) w3 => z.cell (a := ⟨b, off + k * 7 + 3, none⟩) hbs f3
    have r4 := fun z : GrK (fun x => x < w2.heap.size) w3 => z.cell (a := ⟨b, off + k * 7 + 4, none⟩) hbs f4
    have r5 := fun z : GrK (fun x => x < w2.heap.size) w3 => z.cell (a := ⟨b, off + k * 7 + 5, none⟩) hbs f5
    have r6 := fun z : GrK (fun x => x < w2.heap.size) w3 => z.cell (a := ⟨b, off + k * 7 + 6, none⟩) hbs f6
    clear d0 d1 d2 g0 g1 g2 g3 g4 g5 g6 hb3
    refine wpG_stageK ?_
    repeat (go_big_quiet_step (fail))
    refine wpQuiet_nil ?_
    clear q1 q2 r0 r1 r2 r3 r4 r5 r6 inh
    go_wp2_with fail
    refine (HC.out _ HB3.out).mono ?_
    rintro e w4 ⟨v', rfl, ho, hb4⟩
    have HO := hide ho
    have HB4 := hide hb4
    obtain ⟨a', c', n', rfl⟩ : ∃ a' c' n', v' = .slice a' n' c' := by
      rcases ho.2 with ⟨h0, _⟩ | ⟨g, cap, cur, h0, _⟩
      · exact ⟨_, _, _, h0⟩
      · exact ⟨_, _, _, h0⟩
    have hkp : Kept (fun x => x < w2.heap.size) w3 w4 := Kept.of_below hb4 (fun x hx => Nat.lt_of_lt_of_le hx HB3.out.size)
    clear ho hb4
    go_wp2
    refine OnToK.mk hkp (Sub.refl _) ?_
    clear hkp
    have inh : Nonempty (GrK (fun x => x < w2.heap.size) w4) := GrK.some _ w4
    refine wpG_lastK ?_
    repeat (go_big_quiet_step (fail))
    refine wpQuiet_nil ?_
    clear inh
    go_wp2
    go_ret
    exact ⟨_, rfl, HO.out.mono (by have := HB2.out.size; have := HB3.out.size; omega), bl HB2.out (bl HB3.out HB4.out)⟩
theorem kept70 (w : World) (g : Nat) (u0 u1 u2 u3 u4 u5 u6 : Value) : Kept (fun b => b ≠ g) w (((((((w.setCell ⟨g, 0, none⟩ u0).setCell ⟨g, 1, none⟩ u1).setCell ⟨g, 2, none⟩ u2).setCell ⟨g, 3, none⟩ u3).setCell ⟨g, 4, none⟩ u4).setCell ⟨g, 5, none⟩ u5).setCell ⟨g, 6, none⟩ u6) := by
  iterate 7 (refine Kept.setCell ?_ (fun _ h e => h e) _)
  exact Kept.refl _ _
/-- What Find tells. -/
def FindE (w : World) (o : Option De) (e : Ending) (w' : World) : Prop := Below w.heap.size w w' ∧ ((o = none ∧ e = .returned (.tuple #[.agg #[.string ⟨#[]⟩, .int .u64 0, .int .u64 0, .slice none 0 0, .int .u64 0, .int .u64 0, .int .u64 0], .bool false])) ∨
      ∃ d sv, o = some d ∧ e = .returned (.tuple #[.agg #[.string d.name, .int .u64 (d.since : Int), .int .u64 (d.low : Int), sv, .int .u64 (d.ak : Int), .int .u64 (d.ev : Int), .int .u64 (d.rj : Int)], .bool true]) ∧ SlIn anyB w' sv d.above)
set_option maxRecDepth 100000 in
set_option maxHeartbeats 1600000 in
/-- Find: where there is none, and where there is one. -/
theorem find_any {w : World} {v : Value} {L : Le} (h : LedAt w v L) (hf : L.Fit) (n : ByteArray) :
    Calls Try.prog 21 #[v, .string n] w (FindE w (L.look n)) := by
  obtain ⟨a, c, ps, rfl, hc, hd, hds⟩ := h
  have hmn := many_of hf hd
  have hnm := names_eq hd
  obtain ⟨R, hR⟩ : ∃ R, L.look n = R := ⟨_, rfl⟩
  rw [hR]
  unfold Le.look Le.names at hR
  rw [hnm] at hR
  have HR := hide hR
  have HF := hide hf
  have HD := hide hd
  have HDS := hide hds
  obtain ⟨m, hm⟩ : ∃ m, ps.length = m := ⟨_, rfl⟩
  rw [hm] at hc hmn ⊢
  have HM := hide hm
  have HPL := fun W (hW : Below w.heap.size w W) => placeOf_any a c ps n W (hds.below hW) (by omega)
  rw [hm] at HPL
  have HP := hide HPL
  obtain ⟨wA, hwA⟩ : ∃ W, (w.alloc (.cells #[.int .u64 (L.first : Int), .int .u64 (L.next : Int), .slice a m c] 27)).alloc (.cells #[.string ⟨#[]⟩, .int .u64 0, .int .u64 0, .slice none 0 0, .int .u64 0, .int .u64 0, .int .u64 0] 41) = W := ⟨_, rfl⟩
  have hA0 : wA.heap[w.heap.size]? = some (.cells #[.int .u64 (L.first : Int), .int .u64 (L.next : Int), .slice a m c] 27 (0, 0)) := by
    rw [← hwA]; exact two_old w _ _
  have hA1 : wA.heap[w.heap.size + 1]? = some (.cells #[.string ⟨#[]⟩, .int .u64 0, .int .u64 0, .slice none 0 0, .int .u64 0, .int .u64 0, .int .u64 0] 41 (0, 0)) := by
    rw [← hwA]; exact two_new w _ _
  have hAs : wA.heap.size = w.heap.size + 2 := by rw [← hwA]; simp
  have hAb : Below w.heap.size w wA := by rw [← hwA]; exact ((Below.refl w.heap.size w).alloc (Nat.le_refl _) _).alloc (by simp) _
  have HA0 := hide hA0
  have HA1 := hide hA1
  have HAB := hide hAb
  have HAS := hide hAs
  have a0 := lcell_of hA0 0 rfl
  have a1 := lcell_of hA0 1 rfl
  have a2 := lcell_of hA0 2 rfl
  clear HPL hm hds hd hf hR hnm hA0 hA1 hAb hAs
  go_enter Try.func21, Try.ntmps21
  go_wp2_with fail
  refine (HP.out _ HAB.out).mono ?_
  rintro e w1 ⟨rfl, hb1⟩
  have h0 := (hb1.block _ (by have := HAS.out; omega)).trans HA0.out
  have h1 := (hb1.block _ (by have := HAS.out; omega)).trans HA1.out
  have c2 := lcell_of h0 2 rfl
  have k0 := lcell_of h1 0 rfl
  have k1 := lcell_of h1 1 rfl
  have k2 := lcell_of h1 2 rfl
  have k3 := lcell_of h1 3 rfl
  have k4 := lcell_of h1 4 rfl
  have k5 := lcell_of h1 5 rfl
  have k6 := lcell_of h1 6 rfl
  have fz := lfrozen_of h1
  have hb01 := bl HAB.out hb1
  have HB1 := hide hb01
  have hsz1 := hb1.size
  have HS1 := hide (show w.heap.size + 1 < w1.heap.size by have := HAS.out; omega)
  have H1 := hide h1
  clear h0 h1 hb1 HA0 HA1 hsz1 hb01 hwA a0 a1 a2
  rcases Ldg.plc_cases (ps.map (fun p => p.1.name)) n with ⟨hp, _⟩ | ⟨k, hk, hp, _⟩
  · have hR := HR.out
    rw [Ldg.lookAt_no _ hp] at hR
    subst hR
    rw [hp]
    clear HR hp
    go_wp2_with fail
    refine bodyPost_ret (v := .tuple #[.agg #[.string ⟨#[]⟩, .int .u64 0, .int .u64 0, .slice none 0 0, .int .u64 0, .int .u64 0, .int .u64 0], .bool false]) (by simp [results, Try.results21, go_sem, k0, k1, k2, k3, k4, k5, k6]) rfl ?_
    exact ⟨HB1.out.trans ((kept70 w1 (w.heap.size + 1) _ _ _ _ _ _ _).bel (fun b hb => by omega)), .inl ⟨rfl, rfl⟩⟩
  · rw [List.length_map] at hk
    have hR := HR.out
    rw [Ldg.lookAt_at hp (by rw [HD.out, List.length_map]; exact hk)] at hR
    simp only [HD.out, List.getElem_map] at hR
    subst hR
    have hfk := fit_at HF.out HD.out hk
    obtain ⟨b, off, nm, s, lo, ab, ak, ev, rj, va, vc, rfl, hbl, hz, hsl, g0, g1, g2, g3, g4, g5, g6⟩ := HDS.out.get HB1.out hk
    have hkm : k < m := by have := HM.out; omega
    have hk0 : ((k : Int) == -1) = false := by simp
    rw [hp]
    have hz1 : ps[k].1 = ⟨nm, s, lo, ab, ak, ev, rj⟩ := by rw [hz]
    have HZ1 := hide hz1
    clear hz1
    rw [hz] at hfk
    simp only at hfk
    have hle := hfk.len
    simp only at hle
    have HLE := hide hle
    obtain ⟨an, han⟩ : ∃ x, ab.length = x := ⟨_, rfl⟩
    rw [han] at g3 hsl
    have HAN := hide han
    have HSL := hide hsl
    clear HR hp hfk hz hsl han HDS hle
    go_wp2_with fail
    refine (dcopied_any nm s lo ak ev rj HSL.out (by have := HLE.out; omega)).mono ?_
    rintro e w2 ⟨v', rfl, hs2, hb2⟩
    have HS2 := hide hs2
    obtain ⟨sa, sc, esv, _⟩ := hs2
    rw [HAN.out] at esv
    subst esv
    have h1 := (hb2.block _ HS1.out).trans H1.out
    have d0 := lcell_of h1 0 rfl
    have d1 := lcell_of h1 1 rfl
    have d2 := lcell_of h1 2 rfl
    have d3 := lcell_of h1 3 rfl
    have d4 := lcell_of h1 4 rfl
    have d5 := lcell_of h1 5 rfl
    have d6 := lcell_of h1 6 rfl
    have fz2 := lfrozen_of h1
    have HB2 := hide (bl HB1.out hb2)
    have hs12 := hb2.size
    clear k0 k1 k2 k3 k4 k5 k6 fz h1 hb2 g0 g1 g2 g3 g4 g5 g6 c2
    go_wp2_with fail
    have hk7 := kept70 w2 (w.heap.size + 1) (.string nm) (.int .u64 (s : Int)) (.int .u64 (lo : Int)) (.slice sa an sc) (.int .u64 (ak : Int)) (.int .u64 (ev : Int)) (.int .u64 (rj : Int))
    refine bodyPost_ret (v := .tuple #[.agg #[.string nm, .int .u64 (s : Int), .int .u64 (lo : Int), .slice sa an sc, .int .u64 (ak : Int), .int .u64 (ev : Int), .int .u64 (rj : Int)], .bool true]) (by simp [results, Try.results21, go_sem, d0, d1, d2, d3, d4, d5, d6]) rfl ?_
    refine ⟨HB2.out.trans (hk7.bel (fun b hb => by omega)), .inr ⟨⟨nm, s, lo, ab, ak, ev, rj⟩, _, by rw [HZ1.out], rfl, ?_⟩⟩
    exact (HS2.out.keep hk7.size (fun b _ hx => hk7.block b (by have hxx : w1.heap.size ≤ b := hx; have := HS1.out; omega))).mono (fun _ _ _ => trivial)
end Go.Proofs.Ytjbdofjheeljkaa
