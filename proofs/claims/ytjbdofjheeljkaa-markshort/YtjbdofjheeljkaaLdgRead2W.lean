/-
  Free, Right.
-/
import Derived.Test.YtjbdofjheeljkaaLdgReadW
import Derived.Test.YtjbdofjheeljkaaLdgRightW
namespace Go.Proofs.Ytjbdofjheeljkaa
open Go.RowKit
open Ldg (De Le Rd Rl)

theorem min_next {ps : List DV} {k cur F : Nat} {d : De} {v : Value} (hk : k < ps.length) (hz : ps[k] = (d, v)) (h : Ldg.minLow cur ((ps.drop k).map Prod.fst) = F) : Ldg.minLow (min cur d.low) ((ps.drop (k + 1)).map Prod.fst) = F := by
  rw [← h, List.drop_eq_getElem_cons hk, hz]; rfl
set_option maxRecDepth 100000 in
set_option maxHeartbeats 800000 in
theorem free_any {w : World} {v : Value} {L : Le} (h : LedAt w v L) (hf : L.Fit) :
    Calls Try.prog 27 #[v] w fun e w' => e = .returned (.int .u64 (L.free : Int)) ∧ Below w.heap.size w w' := by
  obtain ⟨a, c, ps, rfl, hc, hd, hds⟩ := h
  have hmn := many_of hf hd
  obtain ⟨F, hF⟩ : ∃ F, L.free = F := ⟨_, rfl⟩
  rw [hF]
  unfold Le.free at hF
  rw [hd] at hF
  have HFR := hide hF
  have HD := hide hd
  have HDS := hide hds
  obtain ⟨m, hm⟩ : ∃ m, ps.length = m := ⟨_, rfl⟩
  rw [hm] at hc hmn ⊢
  have HM := hide hm
  obtain ⟨wA, hwA⟩ : ∃ W, w.alloc (.cells #[.int .u64 (L.first : Int), .int .u64 (L.next : Int), .slice a m c] 27) = W := ⟨_, rfl⟩
  have hA0 : wA.heap[w.heap.size]? = some (.cells #[.int .u64 (L.first : Int), .int .u64 (L.next : Int), .slice a m c] 27 (0, 0)) := by
    rw [← hwA]; show (w.heap.push _)[w.heap.size]? = _; simp
  have hAs : w.heap.size < wA.heap.size := by rw [← hwA]; simp
  have hAb : Below w.heap.size w wA := by rw [← hwA]; exact (Below.refl _ _).alloc (Nat.le_refl _) _
  have HA0 := hide hA0
  have HAB := hide hAb
  have HWA := hide hwA
  have HAS := hide hAs
  have a1 := lcell_of hA0 1 rfl
  have a2 := lcell_of hA0 2 rfl
  clear hm hds hd hf hF hA0 hAb hAs
  go_enter Try.func27, Try.ntmps27
  go_wp2_with fail
  clear hwA
  go_loopw [3, 11] (fun vc vi wr => ∃ k cur : Nat, k ≤ m ∧ vi = .int .i64 (k : Int) ∧ vc = .int .u64 (cur : Int) ∧ Ldg.minLow cur ((ps.drop k).map Prod.fst) = F ∧ Below w.heap.size w wr)
    (fun _ vi _ => m - (intOf vi).toNat)
  case atStart => exact ⟨0, L.next, Nat.zero_le _, rfl, rfl, HFR.out, HAB.out⟩
  case round =>
    obtain ⟨k, cur, hk, rfl, rfl, hmi, hnx⟩ := hrel
    have HB := hide hnx
    have HMI := hide hmi
    have hsz := hnx.size
    clear hnx hmi a1 a2
    by_cases hlt : k < m
    · obtain ⟨b, off, nm, s, lo, ab, ak, ev, rj, va, vc, rfl, hbl, hz, _, g0, g1, g2, g3, g4, g5, g6⟩ := HDS.out.get HB.out (k := k) (by have := HM.out; omega)
      have HZ := hide hz
      obtain ⟨an, han⟩ : ∃ x, ab.length = x := ⟨_, rfl⟩
      rw [han] at g3
      have hal := HB.out.alloc hsz (Obj.cells #[.string nm, .int .u64 (s : Int), .int .u64 (lo : Int), .slice va an vc, .int .u64 (ak : Int), .int .u64 (ev : Int), .int .u64 (rj : Int)] 41)
      have HAL := hide hal
      clear hz han hal
      obtain ⟨mn, hmn2⟩ : ∃ x, min cur lo = x := ⟨_, rfl⟩
      have hmi2 := min_next (by have := HM.out; omega) HZ.out HMI.out
      rw [show (⟨nm, s, lo, ab, ak, ev, rj⟩ : De).low = lo from rfl, hmn2] at hmi2
      have HMI2 := hide hmi2
      have hmi3 : min (cur : Int) (lo : Int) = (mn : Int) := by omega
      clear hmi2 hmn2
      by_cases hcl : cur ≤ lo
      · have : mn = cur := by omega
        subst this
        clear hmi3
        go_wp2_with fail
        go_roundw
        case rel => exact ⟨k + 1, mn, by omega, by go_num, rfl, HMI2.out, HAL.out⟩
        case measure => simp [intOf]; omega
      · have : mn = lo := by omega
        subst this
        clear hmi3
        go_wp2_with fail
        go_roundw
        case rel => exact ⟨k + 1, mn, by omega, by go_num, rfl, HMI2.out, HAL.out⟩
        case measure => simp [intOf]; omega
    · have hkm : k = m := by omega
      have hcF : cur = F := by
        have := HMI.out
        rw [List.drop_eq_nil_of_le (by have := HM.out; omega)] at this
        exact this
      subst hcF
      go_wp2_with fail
      go_ret
      exact ⟨rfl, HB.out⟩

theorem rights_next {first next : Nat} {ps : List DV} {k : Nat} {R : Bool} {d : De} {v : Value} (hk : k < ps.length) (hz : ps[k] = (d, v)) (h : Ldg.rights first next ((ps.take k).map (fun p => p.1.name)) ((ps.drop k).map Prod.fst) = R) :
    (decide (Ldg.plc ((ps.take k).map (fun p => p.1.name)) d.name = -1) && (d.right first next && Ldg.rights first next ((ps.take (k + 1)).map (fun p => p.1.name)) ((ps.drop (k + 1)).map Prod.fst))) = R := by
  rw [← h, List.drop_eq_getElem_cons hk, hz, List.take_succ_eq_append_getElem hk, hz, List.map_append]; rfl
theorem destsE : Try.prog.underlying 25 = some (.slice (Try.prog.elem 25)) := by kernel_rfl
theorem elem_dests : Try.prog.elem 25 = 41 := by kernel_rfl
theorem size_dest (w : World) : (sizeOf 41).run Try.prog w = .ok 7 w := by
  obtain ⟨i, hi, _, hs, _⟩ := info_parts info_dest
  simp [sizeOf, typeInfo, hi, hs]
theorem upto_dests (a : Option Addr) (l c n : Nat) (h : n ≤ c) (w : World) : (Instr.slice 25 (.slice a l c) none (some (.int .i64 (n : Int))) none).run Try.prog w = .ok (.slice a n c) w := by
  rw [run_slice_h (P := Try.prog) w 25 a l c destsE .i64 (n : Int) (by omega) (by omega), elem_dests, size_dest]
  simp only [Result.andThen, sliced, Int.toNat_natCast, Nat.sub_zero, Result.ok.injEq, Value.slice.injEq, and_true]
  split
  · rfl
  · cases a with
    | none => rfl
    | some x => simp [Addr.add]
set_option maxRecDepth 100000 in
set_option maxHeartbeats 1600000 in
theorem right_any {w : World} {v : Value} {L : Le} (h : LedAt w v L) (hmn : L.dests.length ≤ 1000) (hs : ∀ d ∈ L.dests, De.Small d) :
    Calls Try.prog 19 #[v] w fun e w' => e = .returned (.bool L.right) ∧ Below w.heap.size w w' := by
  obtain ⟨a, c, ps, rfl, hc, hd, hds⟩ := h
  rw [hd, List.length_map] at hmn
  have hsm : ∀ k (hk : k < ps.length), De.Small ps[k].1 := fun k hk => hs _ (by rw [hd]; exact List.mem_map_of_mem (List.getElem_mem hk))
  have HSM := hide hsm
  obtain ⟨R, hR⟩ : ∃ R, L.right = R := ⟨_, rfl⟩
  rw [hR]
  unfold Le.right at hR
  rw [hd, List.length_map] at hR
  have HDS := hide hds
  obtain ⟨m, hm⟩ : ∃ m, ps.length = m := ⟨_, rfl⟩
  rw [hm] at hc hmn hR ⊢
  have HM := hide hm
  have HC := hide hc
  have HR := hide hR
  obtain ⟨wA, hwA⟩ : ∃ W, w.alloc (.cells #[.int .u64 (L.first : Int), .int .u64 (L.next : Int), .slice a m c] 27) = W := ⟨_, rfl⟩
  have hA0 : wA.heap[w.heap.size]? = some (.cells #[.int .u64 (L.first : Int), .int .u64 (L.next : Int), .slice a m c] 27 (0, 0)) := by
    rw [← hwA]; show (w.heap.push _)[w.heap.size]? = _; simp
  have hAs : w.heap.size < wA.heap.size := by rw [← hwA]; simp
  have hAb : Below w.heap.size w wA := by rw [← hwA]; exact (Below.refl _ _).alloc (Nat.le_refl _) _
  have HA0 := hide hA0
  have HAB := hide hAb
  have HWA := hide hwA
  have HAS := hide hAs
  have a0 := lcell_of hA0 0 rfl
  have a1 := lcell_of hA0 1 rfl
  have a2 := lcell_of hA0 2 rfl
  clear hm hds hd hs hsm hR hA0 hAb hAs hc
  by_cases t1 : 1 ≤ L.first
  · by_cases t2 : L.first ≤ L.next
    · by_cases t3 : m ≤ 4
      · have hR := HR.out
        rw [decide_eq_true t1, decide_eq_true t2, decide_eq_true t3] at hR
        simp only [Bool.true_and] at hR
        have HRR := hide hR
        clear hR HR
        go_enter Try.func19, Try.ntmps19
        go_wp2_with fail
        clear hwA
        go_loopw [24] (fun vi wr => ∃ k : Nat, k ≤ m ∧ vi = .int .i64 (k : Int) ∧ Ldg.rights L.first L.next ((ps.take k).map (fun p => p.1.name)) ((ps.drop k).map Prod.fst) = R ∧ Below w.heap.size w wr ∧ wr.heap[w.heap.size]? = some (.cells #[.int .u64 (L.first : Int), .int .u64 (L.next : Int), .slice a m c] 27 (0, 0)))
          (fun vi _ => m - (intOf vi).toNat)
        case atStart => exact ⟨0, Nat.zero_le _, rfl, HRR.out, HAB.out, HA0.out⟩
        case round =>
          obtain ⟨k, hk, rfl, hrr, hnx, hbx⟩ := hrel
          have HB := hide hnx
          have HRI := hide hrr
          have HBX := hide hbx
          have hsz := hnx.size
          clear hnx hrr hbx a0 a1 a2
          by_cases hlt : k < m
          · obtain ⟨b, off, nm, s, lo, ab, ak, ev, rj, va, vc, rfl, hbl, hz, hsl, g0, g1, g2, g3, g4, g5, g6⟩ := HDS.out.get HB.out (k := k) (by have := HM.out; omega)
            have hrn := rights_next (by have := HM.out; omega) hz HRI.out
            have hsm := HSM.out k (by have := HM.out; omega)
            rw [hz] at hsm
            simp only at hsm
            have hpl := fun W (hW : Below w.heap.size w W) => placeOf_any (some ⟨b, off, none⟩) c (ps.take k) nm W ((HDS.out.below hW).take k) (by rw [List.length_take]; omega)
            have hrt := fun W (hW : Below wr.heap.size wr W) => dright_any nm s lo ak ev rj (hsl.below hW) hsm L.first L.next
            rw [show (ps.take k).length = k by rw [List.length_take]; have := HM.out; omega] at hpl
            obtain ⟨pv, hpv⟩ : ∃ x, Ldg.plc ((ps.take k).map (fun p => p.1.name)) nm = x := ⟨_, rfl⟩
            obtain ⟨dv, hdv⟩ : ∃ x, De.right L.first L.next ⟨nm, s, lo, ab, ak, ev, rj⟩ = x := ⟨_, rfl⟩
            simp only [hpv] at hpl
            simp only [hdv] at hrt
            simp only [hpv, hdv] at hrn
            have HRN := hide hrn
            have HPL := hide hpl
            obtain ⟨an, han⟩ : ∃ x, ab.length = x := ⟨_, rfl⟩
            rw [han] at g3 hrt
            have HRT := hide hrt
            have hus := fun W => upto_dests (some ⟨b, off, none⟩) m c k (by have := HC.out; omega) W
            clear hz hsl hrn hsm hpl hrt hpv hdv han HRI
            obtain ⟨wX, hwX⟩ : ∃ W, wr.alloc (.cells #[.string nm, .int .u64 (s : Int), .int .u64 (lo : Int), .slice va an vc, .int .u64 (ak : Int), .int .u64 (ev : Int), .int .u64 (rj : Int)] 41) = W := ⟨_, rfl⟩
            have hX0 : wX.heap[wr.heap.size]? = some (.cells #[.string nm, .int .u64 (s : Int), .int .u64 (lo : Int), .slice va an vc, .int .u64 (ak : Int), .int .u64 (ev : Int), .int .u64 (rj : Int)] 41 (0, 0)) := by
              rw [← hwX]; show (wr.heap.push _)[wr.heap.size]? = _; simp
            have hXb : Below wr.heap.size wr wX := by rw [← hwX]; exact (Below.refl _ _).alloc (Nat.le_refl _) _
            have hX1 := (hXb.block w.heap.size (by have := HAS.out; have := HB.out.size; have hh := (Array.getElem?_eq_some_iff.1 HBX.out).1; omega)).trans HBX.out
            have y0 : ∀ x : Ext wX, x.w.cell? _ = _ := fun x => x.cell (lcell_of hX0 0 rfl)
            have y1 : ∀ x : Ext wX, x.w.cell? _ = _ := fun x => x.cell (lcell_of hX0 1 rfl)
            have y2 : ∀ x : Ext wX, x.w.cell? _ = _ := fun x => x.cell (lcell_of hX0 2 rfl)
            have y3 : ∀ x : Ext wX, x.w.cell? _ = _ := fun x => x.cell (lcell_of hX0 3 rfl)
            have y4 : ∀ x : Ext wX, x.w.cell? _ = _ := fun x => x.cell (lcell_of hX0 4 rfl)
            have y5 : ∀ x : Ext wX, x.w.cell? _ = _ := fun x => x.cell (lcell_of hX0 5 rfl)
            have y6 : ∀ x : Ext wX, x.w.cell? _ = _ := fun x => x.cell (lcell_of hX0 6 rfl)
            have z0 : ∀ x : Ext wX, x.w.cell? _ = _ := fun x => x.cell (lcell_of hX1 0 rfl)
            have z1 : ∀ x : Ext wX, x.w.cell? _ = _ := fun x => x.cell (lcell_of hX1 1 rfl)
            have z2 : ∀ x : Ext wX, x.w.cell? _ = _ := fun x => x.cell (lcell_of hX1 2 rfl)
            have inh : Nonempty (Ext wX) := Ext.some wX
            have HXB := hide hXb
            have HX1 := hide hX1
            clear hX0 hX1 hXb
            by_cases hp1 : pv = -1
            · subst hp1
              have hrn := HRN.out
              rw [decide_eq_true rfl, Bool.true_and] at hrn
              have HRN2 := hide hrn
              clear hrn HRN
              go_wp2_with fail
              refine wp_region_calm (by kernel_rfl) (by kernel_rfl) ?_
              repeat (go_big_quiet_step (first | (go_at_call 54; exact calm_of (HPL.out _ (bl HB.out (bl HXB.out (Ext.below _))))) | (go_at_call 55; exact calm_of (HRT.out _ (bl HXB.out (Ext.below _))))))
              refine wpQuiet_nil ?_
              intro _ hw'
              obtain ⟨xq, rfl⟩ := hw'
              have hbx := bl HB.out (bl HXB.out xq.below)
              have HBQ := hide hbx
              have hb0 := (xq.below.block _ (Array.getElem?_eq_some_iff.1 HX1.out).1).trans HX1.out
              have HB0 := hide hb0
              clear hbx hb0
              generalize xq.w = wc at *
              clear y0 y1 y2 y3 y4 y5 y6 z0 z1 z2 inh hwX
              cases dv with
              | true =>
                have hrn := HRN2.out
                rw [Bool.true_and] at hrn
                have HRN3 := hide hrn
                clear hrn HRN2
                go_wp2_with fail
                go_roundw
                case rel => exact ⟨k + 1, by omega, by go_num, HRN3.out, HBQ.out, HB0.out⟩
                case measure => simp [intOf]; omega
              | false =>
                have hrn := HRN2.out
                rw [Bool.false_and] at hrn
                subst hrn
                clear HRN2
                go_wp2_with fail
                go_ret
                exact ⟨rfl, HBQ.out⟩
            · have hrn := HRN.out
              rw [decide_eq_false hp1, Bool.false_and] at hrn
              subst hrn
              clear HRN
              have hp2 : (pv != -1) = true := by simp [hp1]
              have hp3 : (pv == -1) = false := by simp [hp1]
              go_wp2_with fail
              refine wp_region_calm (by kernel_rfl) (by kernel_rfl) ?_
              repeat (go_big_quiet_step (first | (go_at_call 54; exact calm_of (HPL.out _ (bl HB.out (bl HXB.out (Ext.below _))))) | (go_at_call 55; exact calm_of (HRT.out _ (bl HXB.out (Ext.below _))))))
              refine wpQuiet_nil ?_
              intro _ hw'
              obtain ⟨xq, rfl⟩ := hw'
              have hbx := bl HB.out (bl HXB.out xq.below)
              have HBQ := hide hbx
              clear hbx
              generalize xq.w = wc at *
              clear y0 y1 y2 y3 y4 y5 y6 z0 z1 z2 inh hwX
              go_wp2_with fail
              go_ret
              exact ⟨rfl, HBQ.out⟩
          · have hkm : k = m := by omega
            have hRt : R = true := by
              have := HRI.out
              rw [List.drop_eq_nil_of_le (by have := HM.out; omega)] at this
              exact this.symm
            subst hRt
            go_wp2_with fail
            go_ret
            exact ⟨rfl, HB.out⟩
      · have hR := HR.out
        rw [decide_eq_true t1, decide_eq_true t2, decide_eq_false t3] at hR
        simp only [Bool.true_and, Bool.false_and] at hR
        subst hR
        clear HR
        go_enter Try.func19, Try.ntmps19
        go_wp2_with fail
        go_ret
        exact ⟨rfl, HAB.out⟩
    · have hR := HR.out
      rw [decide_eq_true t1, decide_eq_false t2] at hR
      simp only [Bool.true_and, Bool.false_and] at hR
      subst hR
      clear HR
      go_enter Try.func19, Try.ntmps19
      go_wp2_with fail
      go_ret
      exact ⟨rfl, HAB.out⟩
  · have hR := HR.out
    rw [decide_eq_false t1] at hR
    simp only [Bool.false_and] at hR
    subst hR
    clear HR
    go_enter Try.func19, Try.ntmps19
    go_wp2_with fail
    go_ret
    exact ⟨rfl, HAB.out⟩
end Go.Proofs.Ytjbdofjheeljkaa
