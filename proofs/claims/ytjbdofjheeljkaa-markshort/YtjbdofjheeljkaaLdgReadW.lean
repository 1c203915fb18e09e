/-
  What is asked of a ledger: Waits, Free.
-/
import Derived.Test.YtjbdofjheeljkaaLdgEvW
import Derived.Test.YtjbdofjheeljkaaPlain
namespace Go.Proofs.Ytjbdofjheeljkaa
open Go.RowKit
open Ldg (De Le Rd Rl)

theorem names_eq {ps : List DV} {l : List De} (h : l = ps.map Prod.fst) : l.map De.name = ps.map (fun p => p.1.name) := by rw [h, List.map_map]; rfl
theorem fit_at {L : Le} (hf : L.Fit) {ps : List DV} (h : L.dests = ps.map Prod.fst) {k : Nat} (hk : k < ps.length) : De.Fit L.next ps[k].1 := hf.each _ (by rw [h]; exact List.mem_map_of_mem (List.getElem_mem hk))
theorem many_of {L : Le} (hf : L.Fit) {ps : List DV} (h : L.dests = ps.map Prod.fst) : ps.length ≤ 4 := by have := hf.many; rw [h, List.length_map] at this; exact this
set_option maxRecDepth 100000 in
set_option maxHeartbeats 1600000 in
theorem waits_any {w : World} {v : Value} {L : Le} (h : LedAt w v L) (hf : L.Fit) (n : ByteArray) (q : Nat) :
    Calls Try.prog 25 #[v, .string n, .int .u64 (q : Int)] w fun e w' => e = .returned (.bool (L.waits n q)) ∧ Below w.heap.size w w' := by
  obtain ⟨a, c, ps, rfl, hc, hd, hds⟩ := h
  have hmn := many_of hf hd
  have hnm := names_eq hd
  obtain ⟨R, hR⟩ : ∃ R, L.waits n q = R := ⟨_, rfl⟩
  rw [hR]
  unfold Le.waits Le.look Le.names at hR
  rw [hnm] at hR
  have HR := hide hR
  have HF := hide hf
  have HD := hide hd
  have HDS := hide hds
  obtain ⟨m, hm⟩ : ∃ m, ps.length = m := ⟨_, rfl⟩
  rw [hm] at hc hmn ⊢
  have HM := hide hm
  have HPL := fun W (hW : Below w.heap.size w W) => placeOf_any a c ps n W (hds.below hW) (by omega)
  rw [hm] at HPL
  have HP := hide HPL
  obtain ⟨wA, hwA⟩ : ∃ W, w.alloc (.cells #[.int .u64 (L.first : Int), .int .u64 (L.next : Int), .slice a m c] 27) = W := ⟨_, rfl⟩
  have hA0 : wA.heap[w.heap.size]? = some (.cells #[.int .u64 (L.first : Int), .int .u64 (L.next : Int), .slice a m c] 27 (0, 0)) := by
    rw [← hwA]; show (w.heap.push _)[w.heap.size]? = _; simp
  have hAs : w.heap.size < wA.heap.size := by rw [← hwA]; simp
  have hAb : Below w.heap.size w wA := by rw [← hwA]; exact (Below.refl _ _).alloc (Nat.le_refl _) _
  have HA0 := hide hA0
  have HAB := hide hAb
  have HWA := hide hwA
  have HAS := hide hAs
  clear HPL hm hds hd hf hR hnm hwA hA0 hAb hAs
  go_enter Try.func25, Try.ntmps25
  go_wp2_with fail
  rw [HWA.out]
  refine (HP.out _ HAB.out).mono ?_
  rintro e w1 ⟨rfl, hb1⟩
  have h0 := (hb1.block _ HAS.out).trans HA0.out
  have c0 := lcell_of h0 0 rfl
  have c1 := lcell_of h0 1 rfl
  have c2 := lcell_of h0 2 rfl
  have hb01 := bl HAB.out hb1
  have HB1 := hide hb01
  have hsz1 := hb1.size
  have HS1 := hide (show w.heap.size < w1.heap.size by have := HAS.out; omega)
  clear h0 hb1 HA0 HWA hsz1 hb01
  rcases Ldg.plc_cases (ps.map (fun p => p.1.name)) n with ⟨hp, _⟩ | ⟨k, hk, hp, _⟩
  · have hR := HR.out
    rw [Ldg.lookAt_no _ hp] at hR
    simp only at hR
    subst hR
    rw [hp]
    clear HR hp
    go_wp2_with fail
    go_quiet (fail)
    go_wp2
    go_ret
    exact ⟨rfl, dn_below10 HB1.out _⟩
  · rw [List.length_map] at hk
    have hR := HR.out
    rw [Ldg.lookAt_at hp (by rw [HD.out, List.length_map]; exact hk)] at hR
    simp only [HD.out, List.getElem_map] at hR
    have hfk := fit_at HF.out HD.out hk
    obtain ⟨b, off, nm, s, lo, ab, ak, ev, rj, va, vc, rfl, hbl, hz, hsl, g0, g1, g2, g3, g4, g5, g6⟩ := HDS.out.get HB1.out hk
    rw [hz] at hR hfk
    simp only at hR hfk
    have hcl := fun W (hW : Below w1.heap.size w1 W) => dwaits_any nm s lo ak ev rj (hsl.below hW) (by have := hfk.len; simp only at this; omega) hfk.rise q L.next
    rw [hp]
    have hkm : k < m := by have := HM.out; omega
    have hk0 : ((k : Int) != -1) = true := by simp
    obtain ⟨an, han⟩ : ∃ x, ab.length = x := ⟨_, rfl⟩
    rw [han] at g3 hz hcl
    have HAN := hide han
    have HC := hide hcl
    clear HR hp hfk hcl hsl hz han HDS HP hk
    have inh : Nonempty (Ext w1) := Ext.some w1
    have x1 : ∀ x : Ext w1, x.w.cell? _ = _ := fun x => x.cell c1
    have x2 : ∀ x : Ext w1, x.w.cell? _ = _ := fun x => x.cell c2
    have y0 : ∀ x : Ext w1, x.w.cell? _ = _ := fun x => x.cell g0
    have y1 : ∀ x : Ext w1, x.w.cell? _ = _ := fun x => x.cell g1
    have y2 : ∀ x : Ext w1, x.w.cell? _ = _ := fun x => x.cell g2
    have y3 : ∀ x : Ext w1, x.w.cell? _ = _ := fun x => x.cell g3
    have y4 : ∀ x : Ext w1, x.w.cell? _ = _ := fun x => x.cell g4
    have y5 : ∀ x : Ext w1, x.w.cell? _ = _ := fun x => x.cell g5
    have y6 : ∀ x : Ext w1, x.w.cell? _ = _ := fun x => x.cell g6
    have HRR := hide hR
    clear hR
    go_wp2_with fail
    refine wp_region_calm (by kernel_rfl) (by kernel_rfl) ?_
    repeat (go_big_quiet_step ((go_at_call 59; exact calm_of (HC.out _ (Ext.below _)))))
    refine wpQuiet_nil ?_
    intro _ hw'
    obtain ⟨xq, rfl⟩ := hw'
    have hbx := bl HB1.out xq.below
    have HBX := hide hbx
    clear hbx
    generalize xq.w = wc at *
    clear x1 x2 y0 y1 y2 y3 y4 y5 y6 inh
    go_wp2
    go_ret
    exact ⟨lret_b HRR.out, HBX.out⟩
end Go.Proofs.Ytjbdofjheeljkaa
