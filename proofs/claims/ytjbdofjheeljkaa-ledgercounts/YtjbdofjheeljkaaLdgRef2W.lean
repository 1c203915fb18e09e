/-
  The document's Low, Above.
-/
import Derived.Test.YtjbdofjheeljkaaLdgRefW
import Derived.Test.YtjbdofjheeljkaaCalm
namespace Go.Proofs.Ytjbdofjheeljkaa
open Go.RowKit
open Ldg (De Le Rd Rl)

theorem lret_u {a b : Int} (h : a = b) : Ending.returned (.int .u64 a) = .returned (.int .u64 b) := by rw [h]
set_option maxRecDepth 100000 in
set_option maxHeartbeats 800000 in
theorem rlow_any {X : Nat → Prop} {w : World} (nm : ByteArray) (s : Nat) {al : List Nat} {va : Option Addr} {vc : Nat} (h : BlIn X w (.slice va al.length vc) al) (hl : al.length ≤ 1000000000) (hs : s ≤ 1000000000) :
    Calls Try.prog 75 #[.agg #[.string nm, .int .u64 (s : Int), .slice va al.length vc]] w fun e w' => e = .returned (.int .u64 (Ldg.lowR s al : Int)) ∧ Below w.heap.size w w' := by
  obtain ⟨a', c', e1, _, _, hu⟩ := h
  simp only [Value.slice.injEq] at e1
  obtain ⟨rfl, e2, rfl⟩ := e1
  clear e2
  have HU := hide hu
  obtain ⟨n, hn⟩ : ∃ n, al.length = n := ⟨_, rfl⟩
  rw [hn] at hl ⊢
  have HN := hide hn
  obtain ⟨wA, hwA⟩ : ∃ W, w.alloc (.cells #[.string nm, .int .u64 (s : Int), .slice va n vc] 99) = W := ⟨_, rfl⟩
  have hA0 : wA.heap[w.heap.size]? = some (.cells #[.string nm, .int .u64 (s : Int), .slice va n vc] 99 (0, 0)) := by
    rw [← hwA]; show (w.heap.push _)[w.heap.size]? = _; simp
  have hAb : Below w.heap.size w wA := by rw [← hwA]; exact (Below.refl _ _).alloc (Nat.le_refl _) _
  have a1 := lcell_of hA0 1 rfl
  have a2 := lcell_of hA0 2 rfl
  have HAB := hide hAb
  clear hu hn hA0 hAb
  go_enter Try.func75, Try.ntmps75
  go_wp2_with fail
  clear hwA
  go_loopw [3] (fun vi wr => ∃ k : Nat, k ≤ n ∧ vi = .int .i64 (k : Int) ∧ (∀ i (hi : i < al.length), i < k → al[i] ≠ 112) ∧ wr = wA) (fun vi _ => n - (intOf vi).toNat)
  case atStart => exact ⟨0, Nat.zero_le _, rfl, fun i _ h => by omega, rfl⟩
  case round =>
    obtain ⟨k, hk, rfl, hno, rfl⟩ := hrel
    have HNO := hide hno
    clear hno
    by_cases hlt : k < n
    · obtain ⟨b, off, x, rfl, hbl, hx, hc⟩ := HU.out.get HAB.out (k := k) (by have := HN.out; omega)
      have HX := hide hx
      clear hx
      by_cases hxq : x = 112
      · subst hxq
        go_wp2_with fail
        go_ret
        exact ⟨lret_u (by rw [Ldg.lowR_found (by have := HN.out; omega) HX.out HNO.out]; simp), HAB.out⟩
      · have hne : ((x : Int) == 112) = false := beq_eq_false_iff_ne.2 (by omega)
        go_wp2_with fail
        go_roundw
        case rel =>
          refine ⟨k + 1, by omega, by go_num, fun i hi hik => ?_, trivial⟩
          rcases Nat.lt_or_ge i k with h | h
          · exact HNO.out i hi h
          · have : i = k := by omega
            subst this
            rw [HX.out]; exact hxq
        case measure => simp [intOf]; omega
    · have hkn : k = n := by omega
      go_wp2_with fail
      go_ret
      exact ⟨lret_u (by rw [Ldg.lowR_end (fun i hi => HNO.out i hi (by have := HN.out; omega)), HN.out]; simp), HAB.out⟩
set_option maxRecDepth 100000 in
set_option maxHeartbeats 1600000 in
theorem rabove_any {X : Nat → Prop} {w : World} (nm : ByteArray) (s : Nat) {al : List Nat} {va : Option Addr} {vc : Nat} (h : BlIn X w (.slice va al.length vc) al) (hl : al.length ≤ 1000000000) (hs : s ≤ 1000000000) :
    Calls Try.prog 76 #[.agg #[.string nm, .int .u64 (s : Int), .slice va al.length vc]] w fun e w' => ∃ v', e = .returned v' ∧ OwnU w' w.heap.size v' (Rd.above ⟨nm, s, al⟩) ∧ Below w.heap.size w w' := by
  obtain ⟨i0, hi, hz0, hz1, hz2⟩ := info_parts u64_info
  have HL := hide h
  obtain ⟨a', c', e1, _, _, hu⟩ := h
  simp only [Value.slice.injEq] at e1
  obtain ⟨rfl, e2, rfl⟩ := e1
  clear e2
  have HU := hide hu
  have hlow := fun W (hW : Below w.heap.size w W) => rlow_any nm s (HL.out.below hW) hl hs
  obtain ⟨lw, hlw⟩ : ∃ x, Ldg.lowR s al = x := ⟨_, rfl⟩
  simp only [hlw] at hlow
  obtain ⟨n, hn⟩ : ∃ n, al.length = n := ⟨_, rfl⟩
  rw [hn] at hl hlow ⊢
  have HLOW := hide hlow
  have HN := hide hn
  have HLW := hide hlw
  obtain ⟨wA, hwA⟩ : ∃ W, w.alloc (.cells #[.string nm, .int .u64 (s : Int), .slice va n vc] 99) = W := ⟨_, rfl⟩
  have hA0 : wA.heap[w.heap.size]? = some (.cells #[.string nm, .int .u64 (s : Int), .slice va n vc] 99 (0, 0)) := by
    rw [← hwA]; show (w.heap.push _)[w.heap.size]? = _; simp
  have hAb : Below w.heap.size w wA := by rw [← hwA]; exact (Below.refl _ _).alloc (Nat.le_refl _) _
  have hAs : wA.heap.size = w.heap.size + 1 := by rw [← hwA]; simp
  have HAB := hide hAb
  have HA0 := hide hA0
  have HAS := hide hAs
  have a2 := lcell_of hA0 2 rfl
  clear hu hn hA0 hAb hlow hlw hAs
  go_enter Try.func76, Try.ntmps76
  go_wp2_with fail
  clear hwA a2
  go_loopw [3, 4] (fun vo vi wr => ∃ (k : Nat) (out : List Nat), k ≤ n ∧ vi = .int .i64 (k : Int) ∧ out = (Ldg.dn s (al.take k)).filter (fun x => decide (lw < x)) ∧ out.length ≤ k ∧ OwnU wr wA.heap.size vo out ∧ Below wA.heap.size wA wr) (fun _ vi _ => n - (intOf vi).toNat)
  case atStart => exact ⟨0, [], Nat.zero_le _, rfl, by simp [Ldg.dn], Nat.le_refl _, World.ownsRow_nil _ _ _ _, Below.refl _ _⟩
  case round =>
    obtain ⟨k, out, hk, rfl, ho, hol, hown, hnx⟩ := hrel
    have HO := hide ho
    have HOW := hide hown
    have HB := hide hnx
    clear ho hown hnx
    have hbox := (HB.out.block w.heap.size (by have := HAS.out; omega)).trans HA0.out
    have HBB := hide hbox
    have c0 := lcell_of hbox 0 rfl
    have c1 := lcell_of hbox 1 rfl
    have c2 := lcell_of hbox 2 rfl
    clear hbox
    by_cases hlt : k < n
    · obtain ⟨b, off, x, rfl, hbl, hx, hc⟩ := HU.out.get (bl HAB.out HB.out) (k := k) (by have := HN.out; omega)
      have hdn := Ldg.dn_next (s := s) (by have := HN.out; omega) hx
      have HDN := hide hdn
      clear hx hdn
      have inh : Nonempty (Ext wr) := Ext.some wr
      have y0 : ∀ x : Ext wr, x.w.cell? _ = _ := fun x => x.cell c0
      have y1 : ∀ x : Ext wr, x.w.cell? _ = _ := fun x => x.cell c1
      have y2 : ∀ x : Ext wr, x.w.cell? _ = _ := fun x => x.cell c2
      have y3 : ∀ x : Ext wr, x.w.cell? _ = _ := fun x => x.cell hc
      obtain ⟨sk, hsk⟩ : ∃ sk, s + k = sk := ⟨_, rfl⟩
      have u1 : IntKind.u64.wrap (k : Int) = (k : Int) := by rw [IntKind.wrap_u64]; omega
      have u2 : IntKind.u64.wrap ((s : Int) + (k : Int)) = (sk : Int) := by rw [IntKind.wrap_u64]; omega
      have u3 : (s : Int) + (k : Int) = (sk : Int) := by omega
      rw [hsk] at HDN
      by_cases hxq : x = 112
      · subst hxq
        have hd := HDN.out
        rw [if_pos rfl] at hd
        have HD := hide hd
        clear hd HDN
        go_wp2_with fail
        refine wp_region_calm (by kernel_rfl) (by kernel_rfl) ?_
        repeat (go_big_quiet_step ((go_at_call 75; exact calm_of (HLOW.out _ (bl (bl HAB.out HB.out) (Ext.below _))))))
        refine wpQuiet_nil ?_
        intro _ hw'
        obtain ⟨xq, rfl⟩ := hw'
        have hbx := HB.out.trans (xq.below.mono HB.out.size)
        have HBX := hide hbx
        have HOX := hide (HOW.out.below xq.below)
        clear hbx
        generalize xq.w = wc at *
        clear y0 y1 y2 y3 inh
        go_wp2
        go_roundw
        case rel => exact ⟨k + 1, out, by omega, by go_num, by rw [HD.out]; exact HO.out, by omega, HOX.out, HBX.out⟩
        case measure => simp [intOf]; omega
      · have hne : ((x : Int) != 112) = true := by simp; omega
        have hd := HDN.out
        rw [if_neg hxq] at hd
        have HD := hide hd
        clear hd HDN
        by_cases hg : lw < sk
        · have hdf : (Ldg.dn s (al.take (k + 1))).filter (fun x => decide (lw < x)) = out ++ [sk] := by
            rw [HD.out, List.filter_append, ← HO.out, List.filter_cons_of_pos (by simpa using hg)]; rfl
          have HDF := hide hdf
          have hgi : (lw : Int) < (sk : Int) := by omega
          clear hdf
          go_wp2_with fail
          refine wp_region_calm (by kernel_rfl) (by kernel_rfl) ?_
          repeat (go_big_quiet_step ((go_at_call 75; exact calm_of (HLOW.out _ (bl (bl HAB.out HB.out) (Ext.below _))))))
          refine wpQuiet_nil ?_
          intro _ hw'
          obtain ⟨xq, rfl⟩ := hw'
          have hbx := HB.out.trans (xq.below.mono HB.out.size)
          have HBX := hide hbx
          have hox := HOW.out.below xq.below
          have HOX := hide hox
          have hb0 := (xq.below.block w.heap.size (by have := HAS.out; have := HB.out.size; omega)).trans HBB.out
          have c0 := lcell_of hb0 0 rfl
          have c1 := lcell_of hb0 1 rfl
          have c2 := lcell_of hb0 2 rfl
          clear hbx hox hb0
          generalize xq.w = wc at *
          clear y0 y1 y2 y3 inh
          have hown := HOX.out
          have hsz := HBX.out.size
          unfold OwnU at hown
          go_wp2_with (at_builtin; refine wpList_append_own _ rfl _ _ 39 rfl wA.heap.size 23 i0 _ 1 8 Try.underlying39 hi hz0 hz1 hz2 rfl (by decide) _ _ _ rfl (hown.alloc _) ⟨wc.heap.size, 0, none⟩ 1 1 [.int .u64 (sk : Int)] rfl rfl ?c1 ?c2 ?c3 ?c4 ?c5 ?_)
          case c1 => exact cell_one_new _ _ _
          case c2 => intro u hu; simp at hu; subst hu; rfl
          case c3 => unfold maxLen; omega
          case c4 => omega
          case c5 => simp; omega
          intro v' w3 hown' hgrow _
          have R := ownu_step (x := sk) rfl hsz (hown.alloc _) HBX.out hown' hgrow
          clear hown hown' hgrow
          go_wp2
          go_roundw
          case rel => exact ⟨k + 1, out ++ [sk], by omega, by go_num, HDF.out.symm, by rw [List.length_append]; simp; omega, R.1, R.2⟩
          case measure => simp [intOf]; omega
        · have hdf : (Ldg.dn s (al.take (k + 1))).filter (fun x => decide (lw < x)) = out := by
            rw [HD.out, List.filter_append, ← HO.out, List.filter_cons_of_neg (by simpa using hg)]; simp
          have HDF := hide hdf
          have hgi : ¬ (lw : Int) < (sk : Int) := by omega
          clear hdf
          go_wp2_with fail
          refine wp_region_calm (by kernel_rfl) (by kernel_rfl) ?_
          repeat (go_big_quiet_step ((go_at_call 75; exact calm_of (HLOW.out _ (bl (bl HAB.out HB.out) (Ext.below _))))))
          refine wpQuiet_nil ?_
          intro _ hw'
          obtain ⟨xq, rfl⟩ := hw'
          have hbx := HB.out.trans (xq.below.mono HB.out.size)
          have HBX := hide hbx
          have hox := HOW.out.below xq.below
          have HOX := hide hox
          have hb0 := (xq.below.block w.heap.size (by have := HAS.out; have := HB.out.size; omega)).trans HBB.out
          have c0 := lcell_of hb0 0 rfl
          have c1 := lcell_of hb0 1 rfl
          have c2 := lcell_of hb0 2 rfl
          clear hbx hox hb0
          generalize xq.w = wc at *
          clear y0 y1 y2 y3 inh
          go_wp2
          go_roundw
          case rel => exact ⟨k + 1, out, by omega, by go_num, HDF.out.symm, by omega, HOX.out, HBX.out⟩
          case measure => simp [intOf]; omega
    · have hfin : Rd.above ⟨nm, s, al⟩ = out := by
        unfold Rd.above Rd.low
        rw [HO.out, HLW.out, List.take_of_length_le (by have := HN.out; omega)]
      have hown := HOW.out
      rw [← hfin] at hown
      have HOF := hide hown
      clear hown hfin
      go_wp2_with fail
      go_ret
      exact ⟨_, rfl, HOF.out.mono (by have := HAS.out; omega), HAB.out.trans (HB.out.mono (by have := HAS.out; omega))⟩
end Go.Proofs.Ytjbdofjheeljkaa
