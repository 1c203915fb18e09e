/-
  A number is done.
-/
import Derived.Test.YtjbdofjheeljkaaLdgSetW
namespace Go.Proofs.Ytjbdofjheeljkaa
open Go.RowKit
open Ldg (De Le Rd Rl)

/-- 'l[:n]'. -/
theorem upto_u64 {X : Nat → Prop} {w : World} {a : Option Addr} {c n : Nat} {l : List Nat} (h : SlIn X w (.slice a l.length c) l) (hn : n ≤ l.length) :
    ∃ r, (∀ W, (Instr.slice 39 (.slice a l.length c) none (some (.int .i64 (n : Int))) none).run Try.prog W = .ok (.slice r n c) W) ∧ U64In X w r (l.take n) := by
  obtain ⟨a0, c0, e, hc, hz, hu⟩ := h
  simp only [Value.slice.injEq] at e
  obtain ⟨rfl, _, rfl⟩ := e
  refine ⟨a, fun W => ?_, fun i hi => ?_⟩
  · rw [run_slice_h (P := Try.prog) W 39 a l.length c u64sE .i64 (n : Int) (by omega) (by omega), elem_u64s, size_u64]
    simp only [Result.andThen, sliced, Int.toNat_natCast, Nat.sub_zero, Result.ok.injEq, Value.slice.injEq, and_true]
    split
    · rfl
    · cases a with
      | none => rfl
      | some x => simp [Addr.add]
  · obtain ⟨b, off, ha, hb, hx, hcc⟩ := hu i (by simp at hi; omega)
    refine ⟨b, off, ha, hb, hx, fun j hj => ?_⟩
    rw [hcc j (by simp at hj; omega)]
    simp
/-- 'above[n:]', of a row of its own. -/
theorem from_row (N a n : Nat) (hn : n ≤ a) : ∃ r, (∀ W, (Instr.slice 39 (.slice (some ⟨N, 0, none⟩) a a) (some (.int .i64 (n : Int))) none none).run Try.prog W = .ok (.slice r (a - n) (a - n)) W) ∧ (0 < a - n → r = some ⟨N, n, none⟩) := by
  refine ⟨if a = n then some ⟨N, 0, none⟩ else some ⟨N, n, none⟩, fun W => ?_, fun h => by rw [if_neg (by omega)]⟩
  rw [run_slice_l (P := Try.prog) W 39 (some ⟨N, 0, none⟩) a a u64sE .i64 (n : Int) (by omega) (by omega), elem_u64s, size_u64]
  by_cases h0 : n = 0
  · subst h0; simp [Result.andThen, sliced, Addr.add]
  · simp [Result.andThen, sliced, Addr.add, h0]
theorem ins_row {ab : List Nat} {s i : Nat} (hi : i = Ldg.cnt s ab) :
    ((((List.replicate (ab.length + 1) 0).take 0 ++ ab.take i ++ (List.replicate (ab.length + 1) 0).drop (0 + (ab.take i).length)).set i s).take (i + 1) ++ ab.drop i ++ ((((List.replicate (ab.length + 1) 0).take 0 ++ ab.take i ++ (List.replicate (ab.length + 1) 0).drop (0 + (ab.take i).length)).set i s).drop (i + 1 + (ab.drop i).length))) = Ldg.ins s ab := by
  have hl := Ldg.cnt_le s ab
  rw [← hi] at hl
  have h1 : (ab.take i).length = i := by simp; omega
  have h2 : (List.replicate (ab.length + 1) (0 : Nat)).drop (0 + (ab.take i).length) = 0 :: List.replicate (ab.length - i) 0 := by
    rw [h1, List.drop_replicate, show ab.length + 1 - (0 + i) = ab.length - i + 1 by omega, List.replicate_succ]
  rw [h2, List.take_zero, List.nil_append]
  have h3 : (ab.take i ++ 0 :: List.replicate (ab.length - i) 0).set i s = ab.take i ++ s :: List.replicate (ab.length - i) 0 := by
    rw [List.set_append_right _ _ (by omega), h1, Nat.sub_self, List.set_cons_zero]
  rw [h3]
  have h4 : (ab.take i ++ s :: List.replicate (ab.length - i) 0).take (i + 1) = ab.take i ++ [s] := by
    rw [List.take_append, h1, show i + 1 - i = 1 by omega, List.take_of_length_le (by omega)]; rfl
  have h5 : (ab.take i ++ s :: List.replicate (ab.length - i) 0).drop (i + 1 + (ab.drop i).length) = [] := by
    apply List.drop_eq_nil_of_le; simp; omega
  rw [h4, h5]
  unfold Ldg.ins
  rw [← hi]; simp
theorem set_row {N : Nat} {w : World} {cur : List Nat} {t : TypeId} (h : w.heap[N]? = some (.cells (uV cur).toArray t (0, 0))) (i s : Nat) : (w.setCell ⟨N, i, none⟩ (.int .u64 (s : Int))).heap[N]? = some (.cells (uV (cur.set i s)).toArray t (0, 0)) := by
  simp [World.setCell, h, Array.getElem?_modify, uV]
set_option maxRecDepth 100000 in
set_option maxHeartbeats 1600000 in
theorem finish_any {w : World} {B g n c : Nat} {ps : List DV} (h : OwnD w B (.slice (some ⟨g, 0, none⟩) n c) ps) {k : Nat} (hk : k < ps.length) (h1 : ps[k].1.low ≤ 1000000000) (h2 : ps[k].1.above.length ≤ 100000000) (hr : ps[k].1.above.Pairwise (· < ·)) (s : Nat) :
    Calls Try.prog 61 #[.pointer (some ⟨g, k * 7, none⟩), .int .u64 (s : Int)] w fun e w' => ∃ sv, e = .returned (.tuple #[]) ∧ OwnD w' B (.slice (some ⟨g, 0, none⟩) n c) (ps.set k (ps[k].1.finish s, sv)) ∧ Kept (But w g) w w' := by
  obtain ⟨nm, sn, lo, ab, ak, ev, rj, va, vc, hp, hsl, k0, k1, k2, k3, k4, k5, k6, fz, hgl, hBg⟩ := h.get hk
  rw [hp] at h1 h2 hr ⊢
  simp only at h1 h2 hr ⊢
  have HP := hide hp
  have HH := hide h
  have HR := hide hr
  have HSL := hide hsl
  obtain ⟨an, han⟩ : ∃ x, ab.length = x := ⟨_, rfl⟩
  rw [han] at k3 h2
  have HAN := hide han
  obtain ⟨a', c', e1, _, _, hu⟩ := hsl
  simp only [Value.slice.injEq] at e1
  obtain ⟨rfl, _, rfl⟩ := e1
  have hbs := fun W (hW : Below w.heap.size w W) => bs_any (c := vc) (hu.keep hW.size (fun b hb _ => hW.block b hb)) (by omega) hr s
  have HBS := hide hbs
  clear hp h hr han hu hbs k0 k1 k2 k4 k5 k6
  go_enter Try.func61, Try.ntmps61
  go_wp2_with fail
  have hb := HBS.out _ (Below.refl _ w)
  rw [HAN.out] at hb
  refine hb.mono ?_
  rintro e w1 ⟨rfl, hb1⟩
  clear hb
  obtain ⟨i, hi⟩ : ∃ i, Ldg.cnt s ab = i := ⟨_, rfl⟩
  have hil : i ≤ an := by rw [← hi, ← HAN.out]; exact Ldg.cnt_le _ _
  rw [hi]
  obtain ⟨cb, hcb⟩ : ∃ cb, ab.contains s = cb := ⟨_, rfl⟩
  rw [hcb]
  obtain ⟨a1, ha1⟩ : ∃ a1, an + 1 = a1 := ⟨_, rfl⟩
  have ha1i : (an : Int) + 1 = (a1 : Int) := by omega
  obtain ⟨i1, hi1⟩ : ∃ i1, i + 1 = i1 := ⟨_, rfl⟩
  have hi1i : (i : Int) + 1 = (i1 : Int) := by omega
  -- the row
  obtain ⟨w2, hmk, hs2, hb2, hg2⟩ := make_u64 w1 a1 (by omega)
  obtain ⟨N, hN⟩ : ∃ N, w1.heap.size = N := ⟨_, rfl⟩
  rw [hN] at hmk hb2 hg2 hs2
  have hb12 := bl hb1 (by rw [← hN] at hb2; exact hb2 : Below w1.heap.size w1 w2)
  have hsl2 := HSL.out.below hb12
  rw [HAN.out] at hsl2
  obtain ⟨r1, hsl1, hu1⟩ := upto_u64 (n := i) (l := ab) (c := vc) (by rw [HAN.out]; exact hsl2) (by rw [HAN.out]; exact hil)
  rw [HAN.out] at hsl1
  have hti : (ab.take i).length = i := by rw [List.length_take, HAN.out]; omega
  obtain ⟨w3, hcp, hs3, hk3, o1, o2, o3, hg3⟩ := copy_u64 (o := 0) (c := a1) (n := a1) (c2 := vc) (d := some ⟨N, 0, none⟩) 3 hg2 hu1 (by rw [hti]; omega) (by rw [hti]; simp; omega) (fun _ => rfl)
  rw [hti] at hcp
  have hb23 : Below N w2 w3 := ⟨o1, o2, o3, by omega, fun b hb => hk3 b (by omega)⟩
  have hb13 : Below w1.heap.size w1 w3 := by rw [hN]; exact hb2.trans hb23
  have hb03 := bl hb1 hb13
  have k3' := (hb1.cell (p := ⟨g, k * 7 + 3, none⟩) hgl).trans k3
  have k3'' := (hb12.cell (p := ⟨g, k * 7 + 3, none⟩) hgl).trans k3
  have hsz1 := hb1.size
  obtain ⟨cur, hcur⟩ : ∃ cur, (List.replicate a1 0).take 0 ++ ab.take i ++ (List.replicate a1 0).drop (0 + (ab.take i).length) = cur := ⟨_, rfl⟩
  rw [hcur] at hg3
  have hcl : cur.length = a1 := by rw [← hcur]; simp [hti]; omega
  have hin : (cur.set i s).take i1 ++ ab.drop i ++ (cur.set i s).drop (i1 + (ab.drop i).length) = Ldg.ins s ab := by
    rw [← hcur, ← hi1, ← ha1, ← HAN.out]; exact ins_row hi.symm
  have HIN := hide hin
  obtain ⟨x3, m3⟩ : ∃ x : Nat, w3.cell? ⟨N, i, none⟩ = some (.int .u64 (x : Int)) := ⟨cur[i]'(by omega), lcell_of hg3 i (by simp [uV, show i < cur.length by omega])⟩
  have n3 := lfrozen_of hg3 i
  have HG3 := hide hg3
  have HB03 := hide hb03
  have HCL := hide hcl
  have HS3 := hide (show w3.heap.size = N + 1 by omega)
  have HWN := hide hN
  have HSZ := hide hsz1
  have K3 := hide k3
  clear hcur hg3 hcl hin hb23 hb13 hb03 hs2 hs3 hb2 hg2 hk3 o1 o2 o3 hN hti hu1 hsl2 hb12 hi ha1 hb1 hsz1 k3 hcb HBS
  go_wp2_with fail
  obtain ⟨w4, hw4⟩ : ∃ W, w3.setCell ⟨N, i, none⟩ (.int .u64 (s : Int)) = W := ⟨_, rfl⟩
  have hgN : g < N := by have := HWN.out; have := HSZ.out; omega
  have hg4 : w4.heap[N]? = some (.cells (uV (cur.set i s)).toArray 23 (0, 0)) := by rw [← hw4]; exact set_row HG3.out i s
  have hs4 : w4.heap.size = N + 1 := by rw [← hw4]; simp [World.setCell, HS3.out]
  have hb34 : Below N w3 w4 := by rw [← hw4]; exact (Below.refl _ _).setCell (p := ⟨N, i, none⟩) (Nat.le_refl _) _
  have hb04 : Below w.heap.size w w4 := HB03.out.trans (hb34.mono (by have := HWN.out; have := HSZ.out; omega))
  rw [hw4]
  clear hw4 m3 n3 HG3
  refine wp_region_growK (fun b => b = g ∨ b = N) [] [0, 1, 2, 3, 4, 5, 6, 7, 8, 9] [10] (by kernel_rfl) (by kernel_rfl) (by kernel_rfl) (by kernel_rfl) ?_
  intro w5 hb5
  simp only [stagesOfK, getLK, pickLK]
  have hg5 := (hb5.block N (by omega)).trans hg4
  have hb05 := bl hb04 hb5
  have hs5 := hb5.size
  have k5 := (hb05.cell (p := ⟨g, k * 7 + 3, none⟩) hgl).trans (show w.cell? ⟨g, k * 7 + 3, none⟩ = _ from K3.out)
  obtain ⟨r2, hsl2, hr2⟩ := from_row N a1 i1 (by omega)
  obtain ⟨hsl3, hs3⟩ := from_u64 (n := i) (HSL.out.below hb05) (by rw [HAN.out]; exact hil)
  rw [HAN.out] at hsl3 hs3
  obtain ⟨rb, hrb⟩ : ∃ r, (if vc = i then va else Option.map (fun x : Addr => x.add i) va) = r := ⟨_, rfl⟩
  obtain ⟨rn, hrn⟩ : ∃ r, an - i = r := ⟨_, rfl⟩
  obtain ⟨rc, hrc⟩ : ∃ r, vc - i = r := ⟨_, rfl⟩
  obtain ⟨rd, hrd⟩ : ∃ r, a1 - i1 = r := ⟨_, rfl⟩
  rw [hrb, hrn, hrc] at hsl3 hs3
  rw [hrd] at hsl2 hr2
  obtain ⟨a', c', e1, _, _, hu3⟩ := hs3
  simp only [Value.slice.injEq] at e1
  obtain ⟨rfl, e2, rfl⟩ := e1
  have hdl : (ab.drop i).length = rn := e2.symm
  clear e2
  obtain ⟨w6, hcp6, hs6, hk6, o1, o2, o3, hg6⟩ := copy_u64 (o := i1) (c := rd) (n := rd) (c2 := rc) (d := r2) 3 hg5 hu3 (by rw [hdl]; omega) (by rw [hdl, List.length_set, HCL.out]; omega) (fun h0 => hr2 (by rw [hdl] at h0; omega))
  rw [hdl] at hcp6
  have hg6' : w6.heap[N]? = some (.cells (uV (Ldg.ins s ab)).toArray 23 (0, 0)) := by rw [hg6, HIN.out]
  have hb06 : Below w.heap.size w w6 := hb05.trans ⟨o1, o2, o3, by omega, fun b hb => hk6 b (by have := HWN.out; have := HSZ.out; omega)⟩
  have k6 := (hb06.cell (p := ⟨g, k * 7 + 3, none⟩) hgl).trans (show w.cell? ⟨g, k * 7 + 3, none⟩ = _ from K3.out)
  have f6 : ∀ j, w6.frozen? ⟨g, j, none⟩ = false := fun j => (hb06.frozen (p := ⟨g, j, none⟩) hgl).trans (fz j)
  have HG6 := hide hg6'
  have HB06 := hide hb06
  have HR2 := hide hr2
  have HDL := hide hdl
  clear hg6 hg6' hb06 hr2 hdl hu3 hs6 hk6 o1 o2 o3 hg5 hb05 hs5 hb5 hg4 hs4 hb34 hb04 hrb hrn hrc hrd hsl1 hcp hmk k3' k3''
  have inh : Nonempty (GrK (fun b => b = g ∨ b = N) w5) := GrK.some _ w5
  have q5 := fun z : GrK (fun b => b = g ∨ b = N) w5 => z.cell (a := ⟨g, k * 7 + 3, none⟩) (.inl rfl) k5
  refine wpG_lastK ?_
  repeat (go_big_quiet_step (fail))
  refine wpQuiet_nil ?_
  clear inh q5
  go_wp2_with fail
  have hil2 : (Ldg.ins s ab).length = a1 := by
    have := Ldg.cnt_le s ab
    unfold Ldg.ins
    simp
    have := HAN.out
    omega
  have hsl6 : SlIn (fun b => B ≤ b ∧ b ≠ g) w6 (.slice (some ⟨N, 0, none⟩) a1 a1) (Ldg.ins s ab) := by
    have := SlIn.row (w := w6) (g := N) (c := a1) (l := Ldg.ins s ab) (t := 23) (z := (0, 0)) (X := fun b => B ≤ b ∧ b ≠ g) (r := []) (by rw [List.append_nil]; exact HG6.out) ⟨by omega, by omega⟩ (by omega)
    rw [hil2] at this
    exact this
  have hone := (HH.out.below HB06.out).one hk (i := 3) (by omega) (.slice (some ⟨N, 0, none⟩) a1 a1) (⟨nm, sn, lo, Ldg.ins s ab, ak, ev, rj⟩, .slice (some ⟨N, 0, none⟩) a1 a1) (by rw [HP.out]; simp [drow]) hsl6
  have hkp := But.set (g := g) (Kept.of_below HB06.out (fun _ hx => hx.1)) (k * 7 + 3) (.slice (some ⟨N, 0, none⟩) a1 a1)
  obtain ⟨w7, hw7⟩ : ∃ W, w6.setCell ⟨g, k * 7 + 3, none⟩ (.slice (some ⟨N, 0, none⟩) a1 a1) = W := ⟨_, rfl⟩
  rw [hw7] at hone hkp ⊢
  have hst := settle_any hone (k := k) (by rw [List.length_set]; exact hk) (by rw [List.getElem_set_self]; exact h1) (by rw [List.getElem_set_self]; show (Ldg.ins s ab).length ≤ _; omega)
  refine hst.mono ?_
  rintro e w8 ⟨sv, rfl, ho8, hk8⟩
  rw [List.getElem_set_self, List.set_set] at ho8
  have HO8 := hide ho8
  have HK8 := hide (But.trans hkp hk8)
  clear hst ho8 hk8 hone hsl6 hkp k6 f6 hw7 hil2
  go_wp2_with fail
  refine bodyPost_end (v := .tuple #[]) (results_none rfl _ _ _) rfl ?_
  exact ⟨sv, rfl, HO8.out, HK8.out⟩
end Go.Proofs.Ytjbdofjheeljkaa
