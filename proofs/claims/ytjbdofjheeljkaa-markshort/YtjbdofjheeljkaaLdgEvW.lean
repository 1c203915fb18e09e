/-
  All that is pending below a number is done.
-/
import Derived.Test.YtjbdofjheeljkaaLdgFinW
namespace Go.Proofs.Ytjbdofjheeljkaa
open Go.RowKit
open Ldg (De Le Rd Rl)

set_option maxRecDepth 100000 in
set_option maxHeartbeats 1600000 in
theorem evict_any {w : World} {B g n c : Nat} {ps : List DV} (h : OwnD w B (.slice (some ⟨g, 0, none⟩) n c) ps) {k : Nat} (hk : k < ps.length) (h1 : ps[k].1.low ≤ 1000000000) (h2 : ps[k].1.above.length ≤ 100000000) (h3 : ps[k].1.ev ≤ 1000000000) (hr : ps[k].1.above.Pairwise (· < ·)) (t : Nat) (ht : t ≤ 1000000000) (hc : ps[k].1.low < t → Ldg.cnt t ps[k].1.above ≤ t - ps[k].1.low) :
    Calls Try.prog 62 #[.pointer (some ⟨g, k * 7, none⟩), .int .u64 (t : Int)] w fun e w' => ∃ sv, e = .returned (.tuple #[]) ∧ OwnD w' B (.slice (some ⟨g, 0, none⟩) n c) (ps.set k (ps[k].1.evict t, sv)) ∧ Kept (But w g) w w' := by
  obtain ⟨nm, sn, lo, ab, ak, ev, rj, va, vc, hp, hsl, k0, k1, k2, k3, k4, k5, k6, fz, hgl, hBg⟩ := h.get hk
  rw [hp] at h1 h2 h3 hr hc ⊢
  simp only at h1 h2 h3 hr hc ⊢
  have HP := hide hp
  have HH := hide h
  have HR := hide hr
  have HSL := hide hsl
  have HC := hide hc
  obtain ⟨an, han⟩ : ∃ x, ab.length = x := ⟨_, rfl⟩
  rw [han] at k3 h2
  have HAN := hide han
  obtain ⟨a', c', e1, _, _, hu⟩ := hsl
  simp only [Value.slice.injEq] at e1
  obtain ⟨rfl, e2, rfl⟩ := e1
  clear e2
  have hbs := bs_any (c := vc) hu (by omega) hr t
  have HBS := hide hbs
  have K3 := hide k3
  have K5 := hide k5
  have K2 := hide k2
  clear hp h hr hu hbs k0 k1 k4 k6 hc
  by_cases htl : t ≤ lo
  · have hsame : ps.set k (De.evict t ⟨nm, sn, lo, ab, ak, ev, rj⟩, .slice va an vc) = ps := by
      have : De.evict t ⟨nm, sn, lo, ab, ak, ev, rj⟩ = ⟨nm, sn, lo, ab, ak, ev, rj⟩ := by unfold De.evict; rw [if_pos htl]
      rw [this, ← han, ← HP.out, List.set_getElem_self]
    have HSAME := hide hsame
    clear hsame han
    go_enter Try.func62, Try.ntmps62
    go_wp2_with fail
    refine bodyPost_ret (v := .tuple #[]) (results_none rfl _ _ _) rfl ?_
    exact ⟨_, rfl, by rw [HSAME.out]; exact HH.out, Kept.refl _ _⟩
  · clear han
    obtain ⟨i, hi⟩ : ∃ i, Ldg.cnt t ab = i := ⟨_, rfl⟩
    have hci := HC.out (by omega)
    have hil : i ≤ an := by rw [← hi, ← HAN.out]; exact Ldg.cnt_le _ _
    rw [hi] at hci HBS
    obtain ⟨T1, hT1⟩ : ∃ x, t - lo = x := ⟨_, rfl⟩
    obtain ⟨T2, hT2⟩ : ∃ x, T1 - i = x := ⟨_, rfl⟩
    obtain ⟨E, hE⟩ : ∃ x, ev + T2 = x := ⟨_, rfl⟩
    have u1 : IntKind.u64.wrap ((t : Int) - (lo : Int)) = (T1 : Int) := by rw [IntKind.wrap_u64]; omega
    have u2 : IntKind.u64.wrap ((T1 : Int) - (i : Int)) = (T2 : Int) := by rw [IntKind.wrap_u64]; omega
    have u3 : IntKind.u64.wrap ((ev : Int) + (T2 : Int)) = (E : Int) := by rw [IntKind.wrap_u64]; omega
    have u4 : IntKind.u64.wrap (i : Int) = (i : Int) := by rw [IntKind.wrap_u64]; omega
    have HI := hide hi
    have HE := hide (show E = ev + (t - lo - i) by omega)
    clear hi hE hT1 hT2
    go_enter Try.func62, Try.ntmps62
    go_wp2_with fail
    have hb := HBS.out
    rw [HAN.out] at hb
    refine hb.mono ?_
    rintro e w1 ⟨rfl, hb1⟩
    clear hb
    obtain ⟨cb, hcb⟩ : ∃ cb, ab.contains t = cb := ⟨_, rfl⟩
    rw [hcb]
    have c2 := (hb1.cell (p := ⟨g, k * 7 + 2, none⟩) hgl).trans K2.out
    have c5 := (hb1.cell (p := ⟨g, k * 7 + 5, none⟩) hgl).trans K5.out
    have HB1 := hide hb1
    clear hcb hb1 k2 k3 k5 HBS
    go_wp2_with fail
    refine wp_region_growK (fun b => b = g) [] [0, 1, 2, 3, 4, 5, 6, 7, 8, 9, 10, 11, 12, 13, 14, 15] [16] (by kernel_rfl) (by kernel_rfl) (by kernel_rfl) (by kernel_rfl) ?_
    intro w2 hb2
    simp only [stagesOfK, getLK, pickLK]
    have hsz1 := HB1.out.size
    have d2 := (hb2.cell (p := ⟨g, k * 7 + 2, none⟩) (by show g < w1.heap.size; omega)).trans c2
    have d5 := (hb2.cell (p := ⟨g, k * 7 + 5, none⟩) (by show g < w1.heap.size; omega)).trans c5
    have hb02 := bl HB1.out hb2
    have HB2 := hide hb02
    have d3 := (hb02.cell (p := ⟨g, k * 7 + 3, none⟩) hgl).trans K3.out
    have f2 : ∀ j, w2.frozen? ⟨g, j, none⟩ = false := fun j => (hb02.frozen (p := ⟨g, j, none⟩) hgl).trans (fz j)
    have inh : Nonempty (GrK (fun b => b = g) w2) := GrK.some _ w2
    have q2 := fun z : GrK (fun b => b = g) w2 => z.cell (a := ⟨g, k * 7 + 2, none⟩) rfl d2
    have q5 := fun z : GrK (fun b => b = g) w2 => z.cell (a := ⟨g, k * 7 + 5, none⟩) rfl d5
    clear c2 c5 hb2 hb02
    refine wpG_lastK ?_
    repeat (go_big_quiet_step (fail))
    refine wpQuiet_nil ?_
    clear inh q2 q5
    obtain ⟨hsl3, hs3⟩ := from_u64 (n := i) (HSL.out.below HB2.out) (by rw [HAN.out]; exact hil)
    rw [HAN.out] at hsl3 hs3
    obtain ⟨rb, hrb⟩ : ∃ r, (if vc = i then va else Option.map (fun x : Addr => x.add i) va) = r := ⟨_, rfl⟩
    obtain ⟨rn, hrn⟩ : ∃ r, an - i = r := ⟨_, rfl⟩
    obtain ⟨rc, hrc⟩ : ∃ r, vc - i = r := ⟨_, rfl⟩
    rw [hrb, hrn, hrc] at hsl3 hs3
    have HS3 := hide hs3
    clear hs3 hrb hrn hrc
    go_wp2_with fail
    have hsl2 : SlIn (fun b => B ≤ b ∧ b ≠ g) w2 (.slice va ab.length vc) ab := HSL.out.below HB2.out
    have k2 : ∀ (W : World) (i : Nat) (u : Value) (v : Value) (l : List Nat), SlIn (fun b => B ≤ b ∧ b ≠ g) W v l → SlIn (fun b => B ≤ b ∧ b ≠ g) (W.setCell ⟨g, i, none⟩ u) v l := fun W i u v l h => h.keep (by simp [World.setCell]) (fun b _ hx => Below.heap_setCell _ _ _ _ (fun e => hx.2 e))
    have o1 := (HH.out.below HB2.out).one hk (i := 5) (by omega) (.int .u64 (E : Int)) (⟨nm, sn, lo, ab, ak, E, rj⟩, .slice va ab.length vc) (by rw [HP.out]; simp [drow]) hsl2
    have o2 := o1.one (k := k) (by rw [List.length_set]; exact hk) (i := 2) (by omega) (.int .u64 (t : Int)) (⟨nm, sn, t, ab, ak, E, rj⟩, .slice va ab.length vc) (by rw [List.getElem_set_self]; simp [drow]) (k2 _ _ _ _ _ hsl2)
    have o3 := o2.one (k := k) (by rw [List.length_set, List.length_set]; exact hk) (i := 3) (by omega) (.slice rb rn rc) (⟨nm, sn, t, ab.drop i, ak, E, rj⟩, .slice rb rn rc) (by rw [List.getElem_set_self]; simp [drow]) (k2 _ _ _ _ _ (k2 _ _ _ _ _ HS3.out))
    rw [List.set_set, List.set_set] at o3
    have hkp := But.set (g := g) (But.set (g := g) (But.set (g := g) (Kept.of_below HB2.out (fun _ hx => hx.1)) (k * 7 + 5) (.int .u64 (E : Int))) (k * 7 + 2) (.int .u64 (t : Int))) (k * 7 + 3) (.slice rb rn rc)
    obtain ⟨w7, hw7⟩ : ∃ W, (((w2.setCell ⟨g, k * 7 + 5, none⟩ (.int .u64 (E : Int))).setCell ⟨g, k * 7 + 2, none⟩ (.int .u64 (t : Int))).setCell ⟨g, k * 7 + 3, none⟩ (.slice rb rn rc)) = W := ⟨_, rfl⟩
    rw [hw7] at o3 hkp ⊢
    have hst := settle_any o3 (k := k) (by rw [List.length_set]; exact hk) (by rw [List.getElem_set_self]; exact ht) (by rw [List.getElem_set_self]; show (ab.drop i).length ≤ _; rw [List.length_drop, HAN.out]; omega)
    refine hst.mono ?_
    rintro e w8 ⟨sv, rfl, ho8, hk8⟩
    rw [List.getElem_set_self, List.set_set] at ho8
    have hfin : De.evict t ⟨nm, sn, lo, ab, ak, ev, rj⟩ = De.settled ⟨nm, sn, t, ab.drop i, ak, E, rj⟩ := by
      unfold De.evict
      simp only
      rw [if_neg htl, HI.out, ← HE.out]
    rw [← hfin] at ho8
    have HO8 := hide ho8
    have HK8 := hide (But.trans hkp hk8)
    clear hst ho8 hk8 o1 o2 o3 hkp hw7 k2 hsl2 hfin hsl3 f2 d2 d3 d5 u1 u2 u3 u4
    go_wp2_with fail
    refine bodyPost_end (v := .tuple #[]) (results_none rfl _ _ _) rfl ?_
    exact ⟨sv, rfl, HO8.out, HK8.out⟩
end Go.Proofs.Ytjbdofjheeljkaa
