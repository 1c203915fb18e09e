/-
  The document's Free.
-/
import Derived.Test.YtjbdofjheeljkaaLdgRef5W
namespace Go.Proofs.Ytjbdofjheeljkaa
open Go.RowKit
open Ldg (De Le Rd Rl)

set_option maxRecDepth 100000 in
set_option maxHeartbeats 1600000 in
theorem rfree_any {w : World} {v : Value} {R : Rl} (h : RlAt w v R) (hf : R.Ok) :
    Calls Try.prog 28 #[v] w fun e w' => e = .returned (.int .u64 (R.free : Int)) ∧ Below w.heap.size w w' := by
  have hwt := fun W (hW : Below w.heap.size w W) n q => rwaits_any (h.below hW) hf n q
  obtain ⟨a, c, ps, rfl, hc, hd, hds⟩ := h
  have hmn := rmany_of hf hd
  have hnb := hf.nb
  have hf1 := Ldg.free_ge hf
  have hfl := Ldg.free_le R
  obtain ⟨m, hm⟩ : ∃ m, ps.length = m := ⟨_, rfl⟩
  rw [hm] at hc hmn hwt ⊢
  have HM := hide hm
  have HW := hide hwt
  have HF := hide hf
  have HD := hide hd
  have HDS := hide hds
  obtain ⟨F, hF⟩ : ∃ F, R.free = F := ⟨_, rfl⟩
  rw [hF] at hf1 hfl ⊢
  have HFF := hide hF
  obtain ⟨wA, hwA⟩ : ∃ W, w.alloc (.cells #[.int .u64 (R.first : Int), .int .u64 (R.next : Int), .slice a m c] 31) = W := ⟨_, rfl⟩
  have hA0 : wA.heap[w.heap.size]? = some (.cells #[.int .u64 (R.first : Int), .int .u64 (R.next : Int), .slice a m c] 31 (0, 0)) := by
    rw [← hwA]; show (w.heap.push _)[w.heap.size]? = _; simp
  have hAs : w.heap.size < wA.heap.size := by rw [← hwA]; simp
  have hAb : Below w.heap.size w wA := by rw [← hwA]; exact (Below.refl _ _).alloc (Nat.le_refl _) _
  have HA0 := hide hA0
  have HAB := hide hAb
  have HAS := hide hAs
  clear hm hds hd hf hwt hA0 hAb hAs hF
  go_enter Try.func28, Try.ntmps28
  go_wp2_with fail
  clear hwA
  go_loopw [3] (fun vq wr => ∃ q : Nat, 1 ≤ q ∧ q ≤ F ∧ vq = .int .u64 (q : Int) ∧ Below wA.heap.size wA wr) (fun vq _ => R.next - (intOf vq).toNat)
  case atStart => exact ⟨1, Nat.le_refl _, hf1, rfl, Below.refl _ _⟩
  case round =>
    obtain ⟨q, hq1, hq2, rfl, hnx⟩ := hrel
    have HB := hide hnx
    have hbx := (hnx.block _ HAS.out).trans HA0.out
    have d1 := lcell_of hbx 1 rfl
    clear hnx hbx
    by_cases hlt : q < R.next
    · have hlti : (q : Int) < (R.next : Int) := by omega
      obtain ⟨wo, hwo⟩ : ∃ wo, wo = wr := ⟨_, rfl⟩
      subst hwo
      go_wp2_with fail
      clear d1
      go_loopw [4] (fun vi wr => ∃ i : Nat, i ≤ m ∧ vi = .int .i64 (i : Int) ∧ (∀ j (hj : j < R.dests.length), j < i → R.waits R.dests[j].name q = false) ∧ Below wA.heap.size wA wr) (fun vi _ => m - (intOf vi).toNat)
      case atStart => exact ⟨0, Nat.zero_le _, rfl, fun j _ h => by omega, HB.out⟩
      case round =>
        obtain ⟨i, hi, rfl, hno, hnx⟩ := hrel
        have HN := hide hno
        have HB2 := hide hnx
        have hbx := (hnx.block _ HAS.out).trans HA0.out
        have d0 := lcell_of hbx 0 rfl
        have d1 := lcell_of hbx 1 rfl
        have d2 := lcell_of hbx 2 rfl
        clear hno hnx hbx
        by_cases hlt2 : i < m
        · obtain ⟨b, off, nm, s, al, va, vc, rfl, hbl, hz, hsl, g0, g1, g2⟩ := HDS.out.get (bl HAB.out HB2.out) (k := i) (by have := HM.out; omega)
          have hir : i < R.dests.length := by rw [HD.out, List.length_map]; have := HM.out; omega
          have hnm : R.dests[i].name = nm := by
            have h1 : R.dests[i] = (ps.map Prod.fst)[i]'(by rw [List.length_map]; have := HM.out; omega) := by simp only [HD.out]
            rw [h1, List.getElem_map, hz]
          obtain ⟨tw, htw⟩ : ∃ t, R.waits nm q = t := ⟨_, rfl⟩
          have hcw := fun W (hW : Below wr.heap.size wr W) => HW.out W (bl (bl HAB.out HB2.out) hW) nm q
          simp only [htw] at hcw
          have HCW := hide hcw
          have HTW := hide htw
          have HNM := hide hnm
          have HIR := hide hir
          have inh : Nonempty (Ext wr) := Ext.some wr
          have x0 : ∀ x : Ext wr, x.w.cell? _ = _ := fun x => x.cell d0
          have x1 : ∀ x : Ext wr, x.w.cell? _ = _ := fun x => x.cell d1
          have x2 : ∀ x : Ext wr, x.w.cell? _ = _ := fun x => x.cell d2
          have y0 : ∀ x : Ext wr, x.w.cell? _ = _ := fun x => x.cell g0
          clear hz hsl hcw htw hnm g1 g2
          go_wp2_with fail
          refine wp_region_calm (by kernel_rfl) (by kernel_rfl) ?_
          repeat (go_big_quiet_step ((go_at_call 26; exact calm_of (HCW.out _ (Ext.below _)))))
          refine wpQuiet_nil ?_
          intro _ hw'
          obtain ⟨xq, rfl⟩ := hw'
          have hbx := HB2.out.trans (xq.below.mono HB2.out.size)
          have HBX := hide hbx
          clear hbx
          generalize xq.w = wc at *
          clear x0 x1 x2 y0 inh d0 d1 d2 g0
          cases tw with
          | true =>
            have hfq := Ldg.free_found HF.out (q := q) (by rw [HFF.out]; exact hq2) HIR.out (by rw [HNM.out]; exact HTW.out)
            rw [HFF.out] at hfq
            subst hfq
            go_wp2_with fail
            go_ret
            exact ⟨rfl, HAB.out.trans (HBX.out.mono (by have := HAS.out; omega))⟩
          | false =>
            go_wp2_with fail
            go_roundw
            case rel =>
              refine ⟨i + 1, by omega, by go_num, fun j hj hji => ?_, HBX.out⟩
              rcases Nat.lt_or_ge j i with h | h
              · exact HN.out j hj h
              · have : j = i := by omega
                subst this
                rw [HNM.out]; exact HTW.out
            case measure => simp [intOf]; omega
        · have hnext := Ldg.free_next HF.out (q := q) (by rw [HFF.out]; exact hq2) hlt (fun j hj => HN.out j hj (by rw [HD.out, List.length_map] at hj; have := HM.out; omega))
          rw [HFF.out] at hnext
          go_wp2_with fail
          go_roundw
          case rel => exact ⟨q + 1, by omega, hnext, by go_num, HB2.out⟩
          case measure => simp [intOf]; omega
    · have hqF : R.next = F := by omega
      have hlti : ¬ (q : Int) < (R.next : Int) := by omega
      go_wp2_with fail
      go_ret
      exact ⟨lret_u (by omega), HAB.out.trans (HB.out.mono (by have := HAS.out; omega))⟩
end Go.Proofs.Ytjbdofjheeljkaa
