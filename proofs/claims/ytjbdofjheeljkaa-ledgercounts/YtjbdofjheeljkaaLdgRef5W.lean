/-
  The document's Pending, Free.
-/
import Derived.Test.YtjbdofjheeljkaaLdgRef4W
namespace Go.Proofs.Ytjbdofjheeljkaa
open Go.RowKit
open Ldg (De Le Rd Rl)

theorem range_step {q next : Nat} (h : q < next) (f : Nat → Bool) : (List.range' q (next - q)).filter f = (if f q then [q] else []) ++ (List.range' (q + 1) (next - (q + 1))).filter f := by
  rw [show next - q = next - (q + 1) + 1 by omega, List.range'_succ]
  cases hf : f q with
  | true => rw [List.filter_cons_of_pos hf]; rfl
  | false => rw [List.filter_cons_of_neg (by rw [hf]; decide)]; rfl
set_option maxRecDepth 100000 in
set_option maxHeartbeats 1600000 in
theorem rpending_any {w : World} {v : Value} {R : Rl} (h : RlAt w v R) (hf : R.Ok) (n : ByteArray) :
    Calls Try.prog 24 #[v, .string n] w fun e w' => ∃ v', e = .returned v' ∧ OwnU w' w.heap.size v' (R.pend n) ∧ Below w.heap.size w w' := by
  obtain ⟨i0, hi, hz0, hz1, hz2⟩ := info_parts u64_info
  have hwt := fun W (hW : Below w.heap.size w W) q => rwaits_any (h.below hW) hf n q
  obtain ⟨a, c, ps, rfl, hc, hd, hds⟩ := h
  have hmn := rmany_of hf hd
  have hnm := rnames_eq hd
  have hnb := hf.nb
  have hf1 := hf.f1
  have hfn := hf.fn
  obtain ⟨m, hm⟩ : ∃ m, ps.length = m := ⟨_, rfl⟩
  have HPL := fun W (hW : Below w.heap.size w W) => rplace_any (R.first : Int) (R.next : Int) a c ps n W (hds.below hW) (by omega)
  rw [hm] at hc hmn HPL hwt ⊢
  have HM := hide hm
  have HP := hide HPL
  have HW := hide hwt
  have HF := hide hf
  have HD := hide hd
  have HNM := hide hnm
  obtain ⟨wA, hwA⟩ : ∃ W, w.alloc (.cells #[.int .u64 (R.first : Int), .int .u64 (R.next : Int), .slice a m c] 31) = W := ⟨_, rfl⟩
  have hA0 : wA.heap[w.heap.size]? = some (.cells #[.int .u64 (R.first : Int), .int .u64 (R.next : Int), .slice a m c] 31 (0, 0)) := by
    rw [← hwA]; show (w.heap.push _)[w.heap.size]? = _; simp
  have hAs : w.heap.size < wA.heap.size := by rw [← hwA]; simp
  have hAb : Below w.heap.size w wA := by rw [← hwA]; exact (Below.refl _ _).alloc (Nat.le_refl _) _
  have a0 := lcell_of hA0 0 rfl
  have a1 := lcell_of hA0 1 rfl
  have a2 := lcell_of hA0 2 rfl
  have HA0 := hide hA0
  have HAB := hide hAb
  have HAS := hide hAs
  obtain ⟨P, hP⟩ : ∃ P, R.pend n = P := ⟨_, rfl⟩
  rw [hP]
  have HPD := hide hP
  clear HPL hm hds hd hf hwt hnm hA0 hAb hAs hP
  go_enter Try.func24, Try.ntmps24
  go_wp2_with fail
  refine (HP.out _ HAB.out).mono ?_
  rintro e w1 ⟨rfl, hb1⟩
  have h0 := (hb1.block _ HAS.out).trans HA0.out
  have c0 := lcell_of h0 0 rfl
  have c1 := lcell_of h0 1 rfl
  have c2 := lcell_of h0 2 rfl
  have HB1 := hide (bl HAB.out hb1)
  have HH0 := hide h0
  have HS1 := hide (show w.heap.size < w1.heap.size by have := HAS.out; have := hb1.size; omega)
  clear h0 hb1 HA0 hwA a0 a1 a2
  rcases Ldg.plc_cases (ps.map (fun p => p.1.name)) n with ⟨hp, _⟩ | ⟨k, hk, hp, _⟩
  · have hPn : P = [] := by
      rw [← HPD.out]
      unfold Rl.pend Rl.look Rl.names
      rw [HNM.out, Ldg.lookAt_no _ hp]
    subst hPn
    rw [hp]
    clear hp
    go_wp2_with fail
    go_loopw [5, 7] (fun vo vq wr => vo = .slice none 0 0 ∧ vq = .int .u64 1 ∧ wr = w1) (fun _ _ _ => 0)
    case atStart => exact ⟨rfl, rfl, rfl⟩
    case round =>
      obtain ⟨rfl, rfl, rfl⟩ := hrel
      go_wp2_with fail
      go_ret
      exact ⟨_, rfl, World.ownsRow_nil _ _ _ _, HB1.out⟩
  · rw [List.length_map] at hk
    have hld : k < R.dests.length := by rw [HD.out, List.length_map]; exact hk
    have hlook : R.look n = some R.dests[k] := by
      unfold Rl.look Rl.names
      rw [HNM.out]; exact Ldg.lookAt_at hp hld
    have hok := HF.out.each _ (List.getElem_mem hld)
    have hPe : (List.range' 1 (R.next - 1)).filter (fun x => R.waits n x) = P := by
      rw [← HPD.out]
      unfold Rl.pend Rl.waits
      rw [hlook]
      exact Ldg.pend_range hok.since hok.ends
    have HPE := hide hPe
    have hk0 : (0 : Int) ≤ (k : Int) := by omega
    rw [hp]
    clear hp hlook hok hPe hld hk
    go_wp2_with fail
    go_loopw [5, 7] (fun vo vq wr => ∃ (out : List Nat) (q : Nat), 1 ≤ q ∧ q ≤ R.next ∧ vq = .int .u64 (q : Int) ∧ out ++ (List.range' q (R.next - q)).filter (fun x => R.waits n x) = P ∧ out.length ≤ q ∧ OwnU wr w1.heap.size vo out ∧ Below w1.heap.size w1 wr) (fun _ vq _ => R.next - (intOf vq).toNat)
    case atStart => exact ⟨[], 1, Nat.le_refl _, by omega, rfl, HPE.out, Nat.zero_le _, World.ownsRow_nil _ _ _ _, Below.refl _ _⟩
    case round =>
      obtain ⟨out, q, hq1, hq2, rfl, hrest, hol, hown, hnx⟩ := hrel
      have HR := hide hrest
      have HO := hide hown
      have HB := hide hnx
      have hbx := (hnx.block _ HS1.out).trans HH0.out
      have d0 := lcell_of hbx 0 rfl
      have d1 := lcell_of hbx 1 rfl
      have d2 := lcell_of hbx 2 rfl
      clear hrest hown hnx hbx c0 c1 c2
      by_cases hlt : q < R.next
      · have hst := range_step hlt (fun x => R.waits n x)
        have hr := HR.out
        rw [hst] at hr
        have hcw := HW.out wr (bl HB1.out HB.out) q
        obtain ⟨tw, htw⟩ : ∃ t, R.waits n q = t := ⟨_, rfl⟩
        simp only [htw] at hr hcw
        have HR2 := hide hr
        have HCW := hide hcw
        have hlti : (q : Int) < (R.next : Int) := by omega
        clear hst hr hcw htw
        go_wp2_with fail
        refine HCW.out.mono ?_
        rintro e w2 ⟨rfl, hb2⟩
        have HB2 := hide (HB.out.trans (hb2.mono HB.out.size))
        have HO2 := hide (HO.out.below hb2)
        clear hb2 d0 d1 d2
        cases tw with
        | true =>
          have hr := HR2.out
          rw [if_pos rfl, ← List.append_assoc] at hr
          have HR3 := hide hr
          have hown := HO2.out
          have hsz := HB2.out.size
          unfold OwnU at hown
          clear hr HR2
          go_wp2_with (at_builtin; refine wpList_append_own _ rfl _ _ 39 rfl w1.heap.size 23 i0 _ 1 8 Try.underlying39 hi hz0 hz1 hz2 rfl (by decide) _ _ _ rfl (hown.alloc _) ⟨w2.heap.size, 0, none⟩ 1 1 [.int .u64 (q : Int)] rfl rfl ?c1 ?c2 ?c3 ?c4 ?c5 ?_)
          case c1 => exact cell_one_new _ _ _
          case c2 => intro u hu; simp at hu; subst hu; rfl
          case c3 => unfold maxLen; omega
          case c4 => omega
          case c5 => simp; omega
          intro v' w3 hown' hgrow _
          have RR := ownu_step (x := q) rfl hsz (hown.alloc _) HB2.out hown' hgrow
          clear hown hown' hgrow
          go_wp2
          go_roundw
          case rel => exact ⟨out ++ [q], q + 1, by omega, by omega, by go_num, HR3.out, by rw [List.length_append]; simp; omega, RR.1, RR.2⟩
          case measure => simp [intOf]; omega
        | false =>
          have hr := HR2.out
          rw [if_neg (by decide), List.nil_append] at hr
          have HR3 := hide hr
          clear hr HR2
          go_wp2_with fail
          go_roundw
          case rel => exact ⟨out, q + 1, by omega, by omega, by go_num, HR3.out, by omega, HO2.out, HB2.out⟩
          case measure => simp [intOf]; omega
      · have hqn : q = R.next := by omega
        have hfin : out = P := by
          have := HR.out
          rw [hqn, Nat.sub_self] at this
          simpa using this
        subst hfin
        have hlti : ¬ (q : Int) < (R.next : Int) := by omega
        go_wp2_with fail
        go_ret
        exact ⟨_, rfl, HO.out.mono (by have := HS1.out; omega), HB1.out.trans (HB.out.mono (by have := HS1.out; omega))⟩
end Go.Proofs.Ytjbdofjheeljkaa
