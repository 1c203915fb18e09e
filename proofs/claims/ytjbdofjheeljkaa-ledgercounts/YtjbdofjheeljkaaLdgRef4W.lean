/-
  The document's Waits.
-/
import Derived.Test.YtjbdofjheeljkaaLdgRef3W
import Derived.Test.YtjbdofjheeljkaaPlain
namespace Go.Proofs.Ytjbdofjheeljkaa
open Go.RowKit
open Ldg (De Le Rd Rl)

theorem dnb {n : Nat} {a w : World} (h : Below n a w) (k : Nat) : Below n a (w.drewN k) := ⟨h.os, h.tape, h.output, h.size, h.block⟩
theorem rnames_eq {ps : List RV} {l : List Rd} (h : l = ps.map Prod.fst) : l.map Rd.name = ps.map (fun p => p.1.name) := by rw [h, List.map_map]; rfl
theorem rok_at {R : Rl} (hf : R.Ok) {ps : List RV} (h : R.dests = ps.map Prod.fst) {k : Nat} (hk : k < ps.length) : Rd.Ok R.first R.next ps[k].1 := hf.each _ (by rw [h]; exact List.mem_map_of_mem (List.getElem_mem hk))
theorem rmany_of {R : Rl} (hf : R.Ok) {ps : List RV} (h : R.dests = ps.map Prod.fst) : ps.length ≤ 4 := by have := hf.many; rw [h, List.length_map] at this; exact this
theorem pend_no {d : Rd} {q : Nat} (h : ¬ (d.since ≤ q ∧ ∃ h : q - d.since < d.all.length, d.all[q - d.since] = 112)) : d.pend.contains q = false := by
  rw [Bool.eq_false_iff]; exact fun e => h (Ldg.pend_has.1 e)
set_option maxRecDepth 100000 in
set_option maxHeartbeats 1600000 in
theorem rwaits_any {w : World} {v : Value} {R : Rl} (h : RlAt w v R) (hf : R.Ok) (n : ByteArray) (q : Nat) :
    Calls Try.prog 26 #[v, .string n, .int .u64 (q : Int)] w fun e w' => e = .returned (.bool (R.waits n q)) ∧ Below w.heap.size w w' := by
  obtain ⟨a, c, ps, rfl, hc, hd, hds⟩ := h
  have hmn := rmany_of hf hd
  have hnm := rnames_eq hd
  obtain ⟨T, hT⟩ : ∃ T, R.waits n q = T := ⟨_, rfl⟩
  rw [hT]
  unfold Rl.waits Rl.look Rl.names at hT
  rw [hnm] at hT
  have HT := hide hT
  have HF := hide hf
  have HD := hide hd
  have HDS := hide hds
  have hnb := hf.nb
  obtain ⟨m, hm⟩ : ∃ m, ps.length = m := ⟨_, rfl⟩
  have HPL := fun W (hW : Below w.heap.size w W) => rplace_any (R.first : Int) (R.next : Int) a c ps n W (hds.below hW) (by omega)
  rw [hm] at hc hmn HPL ⊢
  have HM := hide hm
  have HP := hide HPL
  obtain ⟨wA, hwA⟩ : ∃ W, w.alloc (.cells #[.int .u64 (R.first : Int), .int .u64 (R.next : Int), .slice a m c] 31) = W := ⟨_, rfl⟩
  have hA0 : wA.heap[w.heap.size]? = some (.cells #[.int .u64 (R.first : Int), .int .u64 (R.next : Int), .slice a m c] 31 (0, 0)) := by
    rw [← hwA]; show (w.heap.push _)[w.heap.size]? = _; simp
  have hAs : w.heap.size < wA.heap.size := by rw [← hwA]; simp
  have hAb : Below w.heap.size w wA := by rw [← hwA]; exact (Below.refl _ _).alloc (Nat.le_refl _) _
  have a0 := lcell_of hA0 0 rfl
  have a1 := lcell_of hA0 1 rfl
  have a2 := lcell_of hA0 2 rfl
  have HA0 := hide hA0
  have HAB := hide hAb
  have HAS := hide hAs
  clear HPL hm hds hd hf hT hnm hA0 hAb hAs
  go_enter Try.func26, Try.ntmps26
  go_wp2_with fail
  refine (HP.out _ HAB.out).mono ?_
  rintro e w1 ⟨rfl, hb1⟩
  have h0 := (hb1.block _ HAS.out).trans HA0.out
  have c0 := lcell_of h0 0 rfl
  have c1 := lcell_of h0 1 rfl
  have c2 := lcell_of h0 2 rfl
  have HB1 := hide (bl HAB.out hb1)
  clear h0 hb1 HA0 hwA a0 a1 a2
  rcases Ldg.plc_cases (ps.map (fun p => p.1.name)) n with ⟨hp, _⟩ | ⟨k, hk, hp, _⟩
  · have hT := HT.out
    rw [Ldg.lookAt_no _ hp] at hT
    simp only at hT
    subst hT
    rw [hp]
    clear HT hp
    go_wp2_with fail
    go_quiet (fail)
    go_wp2
    go_ret
    exact ⟨rfl, dnb HB1.out _⟩
  · rw [List.length_map] at hk
    have hT := HT.out
    rw [Ldg.lookAt_at hp (by rw [HD.out, List.length_map]; exact hk)] at hT
    simp only [HD.out, List.getElem_map] at hT
    have hok := rok_at HF.out HD.out hk
    obtain ⟨b, off, nm, s, al, va, vc, rfl, hbl, hz, hsl, g0, g1, g2⟩ := HDS.out.get HB1.out hk
    rw [hz] at hT hok
    simp only at hT hok
    have hen := hok.ends
    simp only at hen
    have hkm : k < m := by have := HM.out; omega
    obtain ⟨ln, hln⟩ : ∃ x, al.length = x := ⟨_, rfl⟩
    rw [hln] at g2
    have HLN := hide hln
    have HEN := hide hen
    have HT2 := hide hT
    have HSL := hide hsl
    rw [hp]
    have x1 : ∀ nq, (w1.drewN nq).cell? ⟨w.heap.size, 1, none⟩ = _ := fun _ => c1
    have x2 : ∀ nq, (w1.drewN nq).cell? ⟨w.heap.size, 2, none⟩ = _ := fun _ => c2
    have y1 : ∀ nq, (w1.drewN nq).cell? ⟨b, off + k * 3 + 1, none⟩ = _ := fun _ => g1
    have y2 : ∀ nq, (w1.drewN nq).cell? ⟨b, off + k * 3 + 2, none⟩ = _ := fun _ => g2
    clear hT HT hp hok hen hln hsl hz
    by_cases q1 : s ≤ q
    · by_cases q2 : q < R.next
      · obtain ⟨i, hi⟩ : ∃ i, q - s = i := ⟨_, rfl⟩
        have hil : i < ln := by have := HEN.out; have := HLN.out; omega
        have u1 : IntKind.u64.wrap ((q : Int) - (s : Int)) = (i : Int) := by rw [IntKind.wrap_u64]; omega
        have u2 : (q : Int) - (s : Int) = (i : Int) := by omega
        obtain ⟨a', c', e1, _, _, hu⟩ := HSL.out
        simp only [Value.slice.injEq] at e1
        obtain ⟨rfl, e2, rfl⟩ := e1
        clear e2
        obtain ⟨bb, bo, x, rfl, hbl2, hx, hxc⟩ := hu.get (Below.refl _ _) (k := i) (by have := HLN.out; omega)
        have z1 : ∀ nq, (w1.drewN nq).cell? ⟨bb, bo + i, none⟩ = _ := fun _ => hxc
        have HX := hide hx
        have HI := hide hi
        clear hx hu hi
        by_cases hx1 : x = 112
        · subst hx1
          have hT := HT2.out
          rw [Ldg.pend_has.2 ⟨q1, by show q - s < al.length; have := HI.out; have := HLN.out; omega, by simp only [HI.out]; exact HX.out⟩] at hT
          subst hT
          clear HT2
          go_wp2_with fail
          go_quiet (fail)
          go_wp2
          go_ret
          exact ⟨rfl, dnb HB1.out _⟩
        · have hT := HT2.out
          rw [pend_no (fun h => by
            obtain ⟨_, h2, h3⟩ := h
            simp only [HI.out] at h3
            exact hx1 (HX.out.symm.trans h3))] at hT
          subst hT
          have hxe : ((x : Int) == 112) = false := beq_eq_false_iff_ne.2 (by omega)
          clear HT2
          go_wp2_with fail
          go_quiet (fail)
          go_wp2
          go_ret
          exact ⟨rfl, dnb HB1.out _⟩
      · have hT := HT2.out
        rw [pend_no (fun h => by
          obtain ⟨_, h2, h3⟩ := h
          have h2' : q - s < al.length := h2
          have := HEN.out
          omega)] at hT
        subst hT
        clear HT2
        have q2' : ¬ (q : Int) < (R.next : Int) := by omega
        go_wp2_with fail
        go_quiet (fail)
        go_wp2
        go_ret
        exact ⟨rfl, dnb HB1.out _⟩
    · have hT := HT2.out
      rw [pend_no (fun h => q1 h.1)] at hT
      subst hT
      clear HT2
      have q1' : ¬ (s : Int) ≤ (q : Int) := by omega
      go_wp2_with fail
      go_quiet (fail)
      go_wp2
      go_ret
      exact ⟨rfl, dnb HB1.out _⟩
end Go.Proofs.Ytjbdofjheeljkaa
