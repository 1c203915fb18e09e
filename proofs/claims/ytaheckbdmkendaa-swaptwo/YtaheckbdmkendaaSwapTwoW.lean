/-
  Two files that are written in turns, till the power goes.
-/
import Derived.Test.YtaheckbdmkendaaSwpShownW
import Derived.Test.YtaheckbdmkendaaSwpTwoM
import Derived.Test.YtaheckbdmkendaaDskKinds
import Derived.Test.YtaheckbdmkendaaPickW
namespace Go.Proofs.Ytaheckbdmkendaa
open Go.RowKit
open Dsk (By Dk)

/-- The laws' two rows of texts: what is, and what may be. -/
structure Prs (g1 g2 : Nat) (u0 u1 v0 v1 : ByteArray) (S : Nat → Prop) (w : World) : Prop where
  n1 : ¬ S g1
  n2 : ¬ S g2
  ne : g1 ≠ g2
  b1 : w.heap[g1]? = some (.cells #[.string u0, .string u1] 9 (0, 0))
  b2 : w.heap[g2]? = some (.cells #[.string v0, .string v1] 9 (0, 0))
section
variable {g1 g2 : Nat} {u0 u1 v0 v1 : ByteArray} {S : Nat → Prop} {w w' : World}
theorem Prs.l1 (h : Prs g1 g2 u0 u1 v0 v1 S w) : g1 < w.heap.size := (Array.getElem?_eq_some_iff.1 h.b1).1
theorem Prs.l2 (h : Prs g1 g2 u0 u1 v0 v1 S w) : g2 < w.heap.size := (Array.getElem?_eq_some_iff.1 h.b2).1
theorem Prs.next (h : Prs g1 g2 u0 u1 v0 v1 S w) (ho : Only S w w') : Prs g1 g2 u0 u1 v0 v1 (more S w w') w' :=
  ⟨fun k => by rcases k with k | k; exact h.n1 k; have := h.l1; omega, fun k => by rcases k with k | k; exact h.n2 k; have := h.l2; omega, h.ne, (ho.block g1 h.l1 h.n1).trans h.b1, (ho.block g2 h.l2 h.n2).trans h.b2⟩
theorem Prs.then (h : Prs g1 g2 u0 u1 v0 v1 S w) (hb : Below w.heap.size w w') : Prs g1 g2 u0 u1 v0 v1 S w' := ⟨h.n1, h.n2, h.ne, (hb.block g1 h.l1).trans h.b1, (hb.block g2 h.l2).trans h.b2⟩
theorem Prs.set1 (h : Prs g1 g2 u0 u1 v0 v1 S w) (i : Nat) (x : ByteArray) {y0 y1 : ByteArray} (e : (#[.string u0, .string u1] : Array Value).setIfInBounds i (.string x) = #[.string y0, .string y1]) : Prs g1 g2 y0 y1 v0 v1 S (w.setCell ⟨g1, i, none⟩ (.string x)) :=
  ⟨h.n1, h.n2, h.ne, by rw [← e]; exact heap_setCell_same w g1 i _ _ _ h.b1, (Below.heap_setCell _ _ _ _ h.ne.symm).trans h.b2⟩
theorem Prs.set2 (h : Prs g1 g2 u0 u1 v0 v1 S w) (i : Nat) (x : ByteArray) {y0 y1 : ByteArray} (e : (#[.string v0, .string v1] : Array Value).setIfInBounds i (.string x) = #[.string y0, .string y1]) : Prs g1 g2 u0 u1 y0 y1 S (w.setCell ⟨g2, i, none⟩ (.string x)) :=
  ⟨h.n1, h.n2, h.ne, (Below.heap_setCell _ _ _ _ h.ne).trans h.b1, by rw [← e]; exact heap_setCell_same w g2 i _ _ _ h.b2⟩
theorem isDk_set {p : Nat} {D : Dk} {c : Nat} (h : IsDk S w p D c) {g : Nat} (hn : ¬ S g) (i : Nat) (v : Value) : IsDk S (w.setCell ⟨g, i, none⟩ v) p D c :=
  h.other (T := one g) ((Only.refl (one g) w).setCell (p := ⟨g, i, none⟩) rfl v) (fun b hb e => hn (by have e : b = g := e; rw [← e]; exact hb))
theorem own_set' {w0 : World} (h : Own w0 S w) {g : Nat} (hg : w0.heap.size ≤ g) (i : Nat) (v : Value) : Own w0 S (w.setCell ⟨g, i, none⟩ v) :=
  ⟨h.below.trans (((Only.refl (one g) w).setCell (p := ⟨g, i, none⟩) rfl v).below h.below.size (fun b e => by have e : b = g := e; omega)), h.all⟩
end
def duoAt (j : Nat) (D : Dk) (u0 u1 : ByteArray) : Prop := if j % 2 = 0 then Dsk.Duo D Dsk.rA Dsk.rB u0.data.toList u1.data.toList else Dsk.Duo D Dsk.rB Dsk.rA u1.data.toList u0.data.toList
theorem ab_ne : Dsk.rA ≠ Dsk.rB := by decide
theorem ba_ne : Dsk.rB ≠ Dsk.rA := by decide
theorem a_end : Dsk.endsT Dsk.rA = false := by decide
theorem b_end : Dsk.endsT Dsk.rB = false := by decide
theorem duo_ends {j : Nat} {D : Dk} {u0 u1 : ByteArray} (h : duoAt j D u0 u1) : Dsk.Ends D Dsk.rA Dsk.rB (fun b => b = u0.data.toList) (fun b => b = u1.data.toList) := by
  unfold duoAt at h
  split at h
  · exact Dsk.Duo.ends ab_ne h
  · exact (Dsk.Duo.ends ba_ne h).swap

set_option maxRecDepth 100000 in
set_option maxHeartbeats 800000 in
theorem walkSwapTwo (a0 : Option Addr) (len cap0 : Nat) (zs : List ByteArray) (n : Int) (k : Int) (a : Option Addr) (cap : Nat) (ks : List Int) (w : World) (hl : IsStrs w a0 len cap0 zs) (hn : -9223372036854775808 ≤ n ∧ n ≤ 9223372036854775807) (hks : KeepAt w a ks) (hkl : ks.length ≤ 9223372036854775807) :
    Calls Try.prog 6 #[.slice a0 len cap0, .int .i64 n, .agg #[.int .i64 k, .slice a ks.length cap]] w fun e w' => e = .returned (.bool true) ∧ Below w.heap.size w w' := by
  obtain ⟨hl0, hm0, hv0, hs0⟩ := view_strs hl
  unfold maxLen at hm0
  have bK : ∀ o, Below w.heap.size w (w.alloc o) := fun o => (Below.refl _ w).alloc (Nat.le_refl _) o
  have HBK := hide bK
  have HV := hide hv0
  clear bK hl hv0 hs0
  by_cases hb0 : 20 < len
  · go_enter Try.func6, Try.ntmps6
    go_wp2_with fail
    refine (sshown_any _).mono ?_
    rintro e w1 ⟨rfl, hb1⟩
    go_wp2_with fail
    refine (new_dk 1000000 _ (by omega)).mono ?_
    rintro e w2 ⟨rfl, _, hb2⟩
    go_wp2
    go_ret
    exact ⟨rfl, bl (bl (HBK.out _) hb1) hb2⟩
  obtain ⟨p, hp⟩ : ∃ p, pk n 100 = p := ⟨_, rfl⟩
  have hp3 : p < 100 := by rw [← hp]; exact pk_lt n (by omega)
  obtain ⟨f1, f2, f3⟩ := Dsk.two_first
  have HF1 := hide f1
  have HF2 := hide f2
  have HF3 := hide (f3.stop (p : Int))
  have HP := hide hp
  have HKS := hide hks
  clear f1 f2 f3 hp hks
  go_enter Try.func6, Try.ntmps6
  go_wp2_with fail
  have y0 : (w.alloc (.cells #[.int .i64 k, .slice a ks.length cap] 25)).cell? ⟨w.heap.size, 0, none⟩ = some (.int .i64 k) := by simp
  have y1 : (w.alloc (.cells #[.int .i64 k, .slice a ks.length cap] 25)).cell? ⟨w.heap.size, 1, none⟩ = some (.slice a ks.length cap) := by simp
  have b0 := HBK.out (.cells #[.int .i64 k, .slice a ks.length cap] 25)
  have s0 : w.heap.size < (w.alloc (.cells #[.int .i64 k, .slice a ks.length cap] 25)).heap.size := by simp
  obtain ⟨w0, hw0⟩ : ∃ w0, w.alloc (.cells #[.int .i64 k, .slice a ks.length cap] 25) = w0 := ⟨_, rfl⟩
  rw [hw0] at y0 y1 b0 s0 ⊢
  clear hw0
  refine (sshown_any _).mono ?_
  rintro e w1 ⟨rfl, hb1⟩
  go_wp2_with fail
  refine (new_dk 1000000 _ (by omega)).mono ?_
  rintro e w2 ⟨rfl, hd2, hb2⟩
  obtain ⟨q, hq⟩ : ∃ q, w1.heap.size + 1 = q := ⟨_, rfl⟩
  rw [hq] at hd2 ⊢
  have HD2 := hide hd2
  have HB2 : Hid (Own w0 (more noneS w1 w2) w2) := hide ⟨bl hb1 hb2, noneS_in hb1.size⟩
  clear hd2 hq hb1 hb2
  go_wp2_with fail
  refine (write_dk HD2.out Dsk.rA Dsk.rA (by decide) (by decide)).mono ?_
  rintro e w3 ⟨rfl, hg3⟩
  rw [show (Dsk.write Dsk.rA Dsk.rA.data.toList (Dsk.fresh 1000000)).2 = 0 from HF1.out]
  have HD3' := hide hg3.dk
  have HB3' := hide (HB2.out.next hg3.only)
  clear hg3
  go_wp2_with fail
  refine (write_dk HD3'.out Dsk.rB Dsk.rB (by decide) (by decide)).mono ?_
  rintro e w3' ⟨rfl, hg3⟩
  rw [show (Dsk.write Dsk.rB Dsk.rB.data.toList (Dsk.write Dsk.rA Dsk.rA.data.toList (Dsk.fresh 1000000)).1).2 = 0 from HF2.out]
  have HD3 : Hid (IsDk _ w3' q Dsk.twoD _) := hide hg3.dk
  have HB3 := hide (HB3'.out.next hg3.only)
  clear hg3
  go_wp2_with fail
  refine (pick_any n 100 _ hn.1 hn.2 (by omega) (by omega)).mono ?_
  rintro e w4 ⟨rfl, hw⟩
  rw [hw, HP.out]
  clear hw
  go_wp2_with fail
  refine (stop_dk HD3.out (p : Int) (by omega)).mono ?_
  rintro e w5 ⟨rfl, hd5, ho5⟩
  have HD5 := hide hd5
  have HB5 := hide (HB3.out.only ho5)
  clear hd5 ho5
  go_wp2
  have hP6 : Prs w5.heap.size (w5.heap.size + 1) Dsk.rA Dsk.rB Dsk.rA Dsk.rB _ ((w5.alloc (.cells #[.string ⟨#[97]⟩, .string ⟨#[98]⟩] 9)).alloc (.cells #[.string ⟨#[97]⟩, .string ⟨#[98]⟩] 9)) :=
    ⟨fun h => by have := HD5.out.lt _ h; omega, fun h => by have := HD5.out.lt _ h; omega, by omega, by
      rw [Below.heap_alloc _ _ _ (by simp)]
      exact heap_new _ _, by
      have := heap_new (w5.alloc (.cells #[.string ⟨#[97]⟩, .string ⟨#[98]⟩] 9)) (.cells #[.string ⟨#[97]⟩, .string ⟨#[98]⟩] 9)
      rw [World.size_alloc] at this
      exact this⟩
  have b56 : Below w5.heap.size w5 ((w5.alloc (.cells #[.string ⟨#[97]⟩, .string ⟨#[98]⟩] 9)).alloc (.cells #[.string ⟨#[97]⟩, .string ⟨#[98]⟩] 9)) := ((Below.refl _ w5).alloc (Nat.le_refl _) _).alloc (by simp) _
  have HD6 := hide (HD5.out.below b56)
  have HB6 := hide (HB5.out.then b56)
  have HP6 := hide hP6
  have hg1 := HB5.out.below.size
  obtain ⟨w6, hw6⟩ : ∃ w6, (w5.alloc (.cells #[.string ⟨#[97]⟩, .string ⟨#[98]⟩] 9)).alloc (.cells #[.string ⟨#[97]⟩, .string ⟨#[98]⟩] 9) = w6 := ⟨_, rfl⟩
  rw [hw6] at HD6 HB6 HP6 ⊢
  clear hw6 b56 hP6
  obtain ⟨g1, hg1e⟩ : ∃ g1, w5.heap.size = g1 := ⟨_, rfl⟩
  rw [hg1e] at HP6 hg1 ⊢
  obtain ⟨g2, hg2e⟩ : ∃ g2, g1 + 1 = g2 := ⟨_, rfl⟩
  rw [hg2e] at HP6 ⊢
  have hg2 : w0.heap.size ≤ g2 := by omega
  clear hg1e hg2e
  go_loopw [11] (fun v11 wr => ∃ (j : Nat) (u0 u1 : ByteArray) (D : Dk) (c : Nat) (S : Nat → Prop), j ≤ len ∧ v11 = .int .i64 (j : Int) ∧ Hid (IsDk S wr q D c) ∧ Hid (Own w0 S wr) ∧ Hid (Prs g1 g2 u0 u1 u0 u1 S wr) ∧ Hid (duoAt j D u0 u1) ∧ c ≤ 18 + 108 * j) (fun v11 _ => len - (intOf v11).toNat)
  case atStart => exact ⟨0, Dsk.rA, Dsk.rB, _, _, _, Nat.zero_le _, rfl, HD6, HB6, HP6, hide HF3.out, by decide⟩
  case round =>
    obtain ⟨j, u0, u1, E, c, S, hj, rfl, HDE, HBE, HPR, HDU, hc⟩ := hrel
    by_cases hlt : j < len
    · obtain ⟨b, off, rfl, hblt, hcell⟩ := HV.out j hlt
      have v1 := ((bl b0 HBE.out.below).cell (p := ⟨b, off + j, none⟩) hblt).trans (hcell j hlt)
      obtain ⟨x, hx⟩ : ∃ x, zs.getD j ByteArray.empty = x := ⟨_, rfl⟩
      rw [hx] at v1
      clear hx hcell
      by_cases hbig : 100 < x.size
      · go_wp2
        go_ret
        exact ⟨rfl, bl b0 HBE.out.below⟩
      by_cases hpar : j % 2 = 0
      · have hm1 : (j : Int) % 2 = 0 := by omega
        have hm2 : (j : Int).tmod 2 = 0 := by rw [Int.tmod_eq_emod_of_nonneg (by omega)]; exact hm1
        have hdu : Dsk.Duo E Dsk.rA Dsk.rB u0.data.toList u1.data.toList := by have := HDU.out; unfold duoAt at this; rw [if_pos (by omega)] at this; exact this
        have hnx := Dsk.Duo.next Dsk.rA_may ab_ne b_end hdu x.data.toList
        have HNX := hide hnx
        clear hdu hnx
        have f2 := frozen_of HPR.out.b2
        have f1 := frozen_of HPR.out.b1
        have c2 := cell_of HPR.out.b2 0 rfl
        have HPA := hide (HPR.out.set2 0 x (y0 := x) (y1 := u1) rfl)
        have HDA := hide (isDk_set HDE.out HPR.out.n2 0 (.string x))
        have HBA := hide (own_set' HBE.out hg2 0 (.string x))
        have vA := ((bl b0 HBA.out.below).cell (p := ⟨b, off + j, none⟩) hblt).trans (((bl b0 HBE.out.below).cell (p := ⟨b, off + j, none⟩) hblt).symm.trans v1)
        obtain ⟨wA, hwA⟩ : ∃ wA, wr.setCell ⟨g2, 0, none⟩ (.string x) = wA := ⟨_, rfl⟩
        rw [hwA] at HPA HDA HBA vA
        go_wp2_with fail
        refine wp_region_growK (fun z => z = b) [([0, 1, 2, 3, 4, 5, 6, 7, 8], 9)] [10] [] (by kernel_rfl) (by kernel_rfl) (by kernel_rfl) (by kernel_rfl) ?_
        intro w4 hb4
        simp only [stagesOfK, getLK, pickLK]
        have HD4 := hide (HDA.out.below hb4)
        have HB4 := hide (HBA.out.then hb4)
        have HP4 := hide (HPA.out.then hb4)
        have v4 := ((bl b0 HB4.out.below).cell (p := ⟨b, off + j, none⟩) hblt).trans (((bl b0 HBA.out.below).cell (p := ⟨b, off + j, none⟩) hblt).symm.trans vA)
        have inh : Nonempty (GrK (fun z => z = b) w4) := GrK.some _ w4
        have q1 := fun y : GrK (fun z => z = b) w4 => y.cell (a := ⟨b, off + j, none⟩) rfl v4
        refine wpG_stageK ?_
        repeat (go_big_quiet_step (fail))
        refine wpQuiet_nil ?_
        clear q1 inh hb4
        go_wp2_with fail
        refine (write_dk HD4.out Dsk.rA x (by decide) (by omega)).mono ?_
        rintro e w6 ⟨rfl, hg6⟩
        obtain ⟨F, e6, hF⟩ : ∃ F e6, Dsk.write Dsk.rA x.data.toList E = (F, e6) := ⟨(Dsk.write Dsk.rA x.data.toList E).1, (Dsk.write Dsk.rA x.data.toList E).2, rfl⟩
        have hnx := HNX.out
        rw [hF] at hnx hg6 ⊢
        have HDF : Hid (IsDk _ w6 q F _) := hide hg6.dk
        have HBF := hide (HB4.out.next hg6.only)
        have HPF := hide (HP4.out.next hg6.only)
        have k6 := hg6.kept (B := fun z => z = b) (fun z e => by
          subst e
          have := (bl b0 HB4.out.below).size
          exact ⟨by omega, fun hh => by have := HB4.out.all _ hh; have := b0.size; omega⟩)
        go_wp2
        refine OnToK.mk k6 (Sub.refl _) ?_
        clear hg6 hF HNX k6
        have v6 := ((bl b0 HBF.out.below).cell (p := ⟨b, off + j, none⟩) hblt).trans (((bl b0 HB4.out.below).cell (p := ⟨b, off + j, none⟩) hblt).symm.trans v4)
        rcases hnx with ⟨e0, h1⟩ | ⟨e0, h1⟩
        · have e0 : e6 = 0 := e0
          subst e0
          have H1 := hide h1
          clear h1
          have inh : Nonempty (GrK (fun z => z = b) w6) := GrK.some _ w6
          refine wpG_lastK ?_
          repeat (go_big_quiet_step (fail))
          refine wpQuiet_nil ?_
          clear inh
          have f1 := frozen_of HPF.out.b1
          have c1 := cell_of HPF.out.b1 0 rfl
          have HPG := hide (HPF.out.set1 0 x (y0 := x) (y1 := u1) rfl)
          have HDG := hide (isDk_set HDF.out HPF.out.n1 0 (.string x))
          have HBG := hide (own_set' HBF.out hg1 0 (.string x))
          obtain ⟨wG, hwG⟩ : ∃ wG, w6.setCell ⟨g1, 0, none⟩ (.string x) = wG := ⟨_, rfl⟩
          rw [hwG] at HPG HDG HBG
          go_wp2
          go_roundw
          case rel => exact ⟨j + 1, x, u1, F, _, _, by omega, by go_num, HDG, HBG, HPG, hide (by unfold duoAt; rw [if_neg (by omega)]; exact H1.out), by omega⟩
          case measure => simp [intOf]; omega
        · have e0b : (e6 != 0) = true := bne_iff_ne.2 e0
          have HEN : Hid (Dsk.Ends F Dsk.rA Dsk.rB (fun b => b = u0.data.toList ∨ b = x.data.toList) (fun b => b = u1.data.toList)) := hide h1
          clear h1 e0
          have inh : Nonempty (GrK (fun z => z = b) w6) := GrK.some _ w6
          refine wpG_lastK ?_
          repeat (go_big_quiet_step (fail))
          refine wpQuiet_nil ?_
          clear inh
          obtain ⟨⟨ba, hPa, ra⟩, bb, hPb, rb⟩ := HEN.out.crash HDF.out.ok k ks
          obtain ⟨za, hza⟩ : ∃ z, Num.bs ba = z := ⟨_, rfl⟩
          obtain ⟨zb, hzb⟩ : ∃ z, Num.bs bb = z := ⟨_, rfl⟩
          have RA := hide ra
          have RB := hide rb
          have ZA := hide hza
          have ZB := hide hzb
          have z0 := (HBF.out.below.cell (p := ⟨w.heap.size, 0, none⟩) s0).trans y0
          have z1 := (HBF.out.below.cell (p := ⟨w.heap.size, 1, none⟩) s0).trans y1
          clear ra rb
          have b1 : (zb.toList == u1.toList) = true := by rw [Lab.eqB]; exact decide_eq_true (by rw [← hzb, hPb]; exact Num.bs_of _)
          have hzz : za = u0 ∨ za = x := by
            rcases hPa with e | e
            · exact .inl (by rw [← hza, e]; exact Num.bs_of _)
            · exact .inr (by rw [← hza, e]; exact Num.bs_of _)
          by_cases hz0 : za = u0
          · have a1 : (za.toList == u0.toList) = true := by rw [Lab.eqB]; exact decide_eq_true hz0
            clear hz0 hzz
            clear hza hzb hPa hPb
            go_wp2_with fail
            refine (crash_dk HDF.out (by omega) k a cap ks (HKS.out.below (bl b0 HBF.out.below)) hkl).mono ?_
            rintro e w7 ⟨cq, rfl, hd7, hb7⟩
            have HD7 := hide hd7
            have HB7 := hide (HBF.out.then hb7)
            have hp7 := HPF.out.then hb7
            have q0 := cell_of hp7.b1 0 rfl
            have q1 := cell_of hp7.b1 1 rfl
            have q2 := cell_of hp7.b2 0 rfl
            have q3 := cell_of hp7.b2 1 rfl
            clear hd7 hb7 z0 z1 hp7
            go_wp2_with fail
            refine (read_dk HD7.out Dsk.rA (by decide)).mono ?_
            rintro e w8 ⟨rfl, hw⟩
            rw [hw, RA.out, ZA.out]
            clear hw
            go_wp2_with fail
            refine (read_dk HD7.out Dsk.rB (by decide)).mono ?_
            rintro e w9 ⟨rfl, hw⟩
            rw [hw, RB.out, ZB.out]
            clear hw
            go_wp2
            go_ret
            exact ⟨rfl, bl b0 HB7.out.below⟩
          · have a1 : (za.toList == u0.toList) = false := by rw [Lab.eqB]; exact decide_eq_false hz0
            have a2 : (za.toList == x.toList) = true := by rw [Lab.eqB]; exact decide_eq_true (hzz.resolve_left hz0)
            clear hz0 hzz
            clear hza hzb hPa hPb
            go_wp2_with fail
            refine (crash_dk HDF.out (by omega) k a cap ks (HKS.out.below (bl b0 HBF.out.below)) hkl).mono ?_
            rintro e w7 ⟨cq, rfl, hd7, hb7⟩
            have HD7 := hide hd7
            have HB7 := hide (HBF.out.then hb7)
            have hp7 := HPF.out.then hb7
            have q0 := cell_of hp7.b1 0 rfl
            have q1 := cell_of hp7.b1 1 rfl
            have q2 := cell_of hp7.b2 0 rfl
            have q3 := cell_of hp7.b2 1 rfl
            clear hd7 hb7 z0 z1 hp7
            go_wp2_with fail
            refine (read_dk HD7.out Dsk.rA (by decide)).mono ?_
            rintro e w8 ⟨rfl, hw⟩
            rw [hw, RA.out, ZA.out]
            clear hw
            go_wp2_with fail
            refine (read_dk HD7.out Dsk.rB (by decide)).mono ?_
            rintro e w9 ⟨rfl, hw⟩
            rw [hw, RB.out, ZB.out]
            clear hw
            go_wp2
            go_ret
            exact ⟨rfl, bl b0 HB7.out.below⟩
      · have hm1 : (j : Int) % 2 = 1 := by omega
        have hm2 : (j : Int).tmod 2 = 1 := by rw [Int.tmod_eq_emod_of_nonneg (by omega)]; exact hm1
        have hdu : Dsk.Duo E Dsk.rB Dsk.rA u1.data.toList u0.data.toList := by have := HDU.out; unfold duoAt at this; rw [if_neg (by omega)] at this; exact this
        have hnx := Dsk.Duo.next Dsk.rB_may ba_ne a_end hdu x.data.toList
        have HNX := hide hnx
        clear hdu hnx
        have f2 := frozen_of HPR.out.b2
        have f1 := frozen_of HPR.out.b1
        have c2 := cell_of HPR.out.b2 1 rfl
        have HPA := hide (HPR.out.set2 1 x (y0 := u0) (y1 := x) rfl)
        have HDA := hide (isDk_set HDE.out HPR.out.n2 1 (.string x))
        have HBA := hide (own_set' HBE.out hg2 1 (.string x))
        have vA := ((bl b0 HBA.out.below).cell (p := ⟨b, off + j, none⟩) hblt).trans (((bl b0 HBE.out.below).cell (p := ⟨b, off + j, none⟩) hblt).symm.trans v1)
        obtain ⟨wA, hwA⟩ : ∃ wA, wr.setCell ⟨g2, 1, none⟩ (.string x) = wA := ⟨_, rfl⟩
        rw [hwA] at HPA HDA HBA vA
        go_wp2_with fail
        refine wp_region_growK (fun z => z = b) [([0, 1, 2, 3, 4, 5, 6, 7, 8], 9)] [10] [] (by kernel_rfl) (by kernel_rfl) (by kernel_rfl) (by kernel_rfl) ?_
        intro w4 hb4
        simp only [stagesOfK, getLK, pickLK]
        have HD4 := hide (HDA.out.below hb4)
        have HB4 := hide (HBA.out.then hb4)
        have HP4 := hide (HPA.out.then hb4)
        have v4 := ((bl b0 HB4.out.below).cell (p := ⟨b, off + j, none⟩) hblt).trans (((bl b0 HBA.out.below).cell (p := ⟨b, off + j, none⟩) hblt).symm.trans vA)
        have inh : Nonempty (GrK (fun z => z = b) w4) := GrK.some _ w4
        have q1 := fun y : GrK (fun z => z = b) w4 => y.cell (a := ⟨b, off + j, none⟩) rfl v4
        refine wpG_stageK ?_
        repeat (go_big_quiet_step (fail))
        refine wpQuiet_nil ?_
        clear q1 inh hb4
        go_wp2_with fail
        refine (write_dk HD4.out Dsk.rB x (by decide) (by omega)).mono ?_
        rintro e w6 ⟨rfl, hg6⟩
        obtain ⟨F, e6, hF⟩ : ∃ F e6, Dsk.write Dsk.rB x.data.toList E = (F, e6) := ⟨(Dsk.write Dsk.rB x.data.toList E).1, (Dsk.write Dsk.rB x.data.toList E).2, rfl⟩
        have hnx := HNX.out
        rw [hF] at hnx hg6 ⊢
        have HDF : Hid (IsDk _ w6 q F _) := hide hg6.dk
        have HBF := hide (HB4.out.next hg6.only)
        have HPF := hide (HP4.out.next hg6.only)
        have k6 := hg6.kept (B := fun z => z = b) (fun z e => by
          subst e
          have := (bl b0 HB4.out.below).size
          exact ⟨by omega, fun hh => by have := HB4.out.all _ hh; have := b0.size; omega⟩)
        go_wp2
        refine OnToK.mk k6 (Sub.refl _) ?_
        clear hg6 hF HNX k6
        have v6 := ((bl b0 HBF.out.below).cell (p := ⟨b, off + j, none⟩) hblt).trans (((bl b0 HB4.out.below).cell (p := ⟨b, off + j, none⟩) hblt).symm.trans v4)
        rcases hnx with ⟨e0, h1⟩ | ⟨e0, h1⟩
        · have e0 : e6 = 0 := e0
          subst e0
          have H1 := hide h1
          clear h1
          have inh : Nonempty (GrK (fun z => z = b) w6) := GrK.some _ w6
          refine wpG_lastK ?_
          repeat (go_big_quiet_step (fail))
          refine wpQuiet_nil ?_
          clear inh
          have f1 := frozen_of HPF.out.b1
          have c1 := cell_of HPF.out.b1 1 rfl
          have HPG := hide (HPF.out.set1 1 x (y0 := u0) (y1 := x) rfl)
          have HDG := hide (isDk_set HDF.out HPF.out.n1 1 (.string x))
          have HBG := hide (own_set' HBF.out hg1 1 (.string x))
          obtain ⟨wG, hwG⟩ : ∃ wG, w6.setCell ⟨g1, 1, none⟩ (.string x) = wG := ⟨_, rfl⟩
          rw [hwG] at HPG HDG HBG
          go_wp2
          go_roundw
          case rel => exact ⟨j + 1, u0, x, F, _, _, by omega, by go_num, HDG, HBG, HPG, hide (by unfold duoAt; rw [if_pos (by omega)]; exact H1.out), by omega⟩
          case measure => simp [intOf]; omega
        · have e0b : (e6 != 0) = true := bne_iff_ne.2 e0
          have HEN : Hid (Dsk.Ends F Dsk.rA Dsk.rB (fun b => b = u0.data.toList) (fun b => b = u1.data.toList ∨ b = x.data.toList)) := hide h1.swap
          clear h1 e0
          have inh : Nonempty (GrK (fun z => z = b) w6) := GrK.some _ w6
          refine wpG_lastK ?_
          repeat (go_big_quiet_step (fail))
          refine wpQuiet_nil ?_
          clear inh
          obtain ⟨⟨ba, hPa, ra⟩, bb, hPb, rb⟩ := HEN.out.crash HDF.out.ok k ks
          obtain ⟨za, hza⟩ : ∃ z, Num.bs ba = z := ⟨_, rfl⟩
          obtain ⟨zb, hzb⟩ : ∃ z, Num.bs bb = z := ⟨_, rfl⟩
          have RA := hide ra
          have RB := hide rb
          have ZA := hide hza
          have ZB := hide hzb
          have z0 := (HBF.out.below.cell (p := ⟨w.heap.size, 0, none⟩) s0).trans y0
          have z1 := (HBF.out.below.cell (p := ⟨w.heap.size, 1, none⟩) s0).trans y1
          clear ra rb
          have a1 : (za.toList == u0.toList) = true := by rw [Lab.eqB]; exact decide_eq_true (by rw [← hza, hPa]; exact Num.bs_of _)
          have hzz : zb = u1 ∨ zb = x := by
            rcases hPb with e | e
            · exact .inl (by rw [← hzb, e]; exact Num.bs_of _)
            · exact .inr (by rw [← hzb, e]; exact Num.bs_of _)
          by_cases hz0 : zb = u1
          · have b1 : (zb.toList == u1.toList) = true := by rw [Lab.eqB]; exact decide_eq_true hz0
            clear hz0 hzz
            clear hza hzb hPa hPb
            go_wp2_with fail
            refine (crash_dk HDF.out (by omega) k a cap ks (HKS.out.below (bl b0 HBF.out.below)) hkl).mono ?_
            rintro e w7 ⟨cq, rfl, hd7, hb7⟩
            have HD7 := hide hd7
            have HB7 := hide (HBF.out.then hb7)
            have hp7 := HPF.out.then hb7
            have q0 := cell_of hp7.b1 0 rfl
            have q1 := cell_of hp7.b1 1 rfl
            have q2 := cell_of hp7.b2 0 rfl
            have q3 := cell_of hp7.b2 1 rfl
            clear hd7 hb7 z0 z1 hp7
            go_wp2_with fail
            refine (read_dk HD7.out Dsk.rA (by decide)).mono ?_
            rintro e w8 ⟨rfl, hw⟩
            rw [hw, RA.out, ZA.out]
            clear hw
            go_wp2_with fail
            refine (read_dk HD7.out Dsk.rB (by decide)).mono ?_
            rintro e w9 ⟨rfl, hw⟩
            rw [hw, RB.out, ZB.out]
            clear hw
            go_wp2
            go_ret
            exact ⟨rfl, bl b0 HB7.out.below⟩
          · have b1 : (zb.toList == u1.toList) = false := by rw [Lab.eqB]; exact decide_eq_false hz0
            have b2 : (zb.toList == x.toList) = true := by rw [Lab.eqB]; exact decide_eq_true (hzz.resolve_left hz0)
            clear hz0 hzz
            clear hza hzb hPa hPb
            go_wp2_with fail
            refine (crash_dk HDF.out (by omega) k a cap ks (HKS.out.below (bl b0 HBF.out.below)) hkl).mono ?_
            rintro e w7 ⟨cq, rfl, hd7, hb7⟩
            have HD7 := hide hd7
            have HB7 := hide (HBF.out.then hb7)
            have hp7 := HPF.out.then hb7
            have q0 := cell_of hp7.b1 0 rfl
            have q1 := cell_of hp7.b1 1 rfl
            have q2 := cell_of hp7.b2 0 rfl
            have q3 := cell_of hp7.b2 1 rfl
            clear hd7 hb7 z0 z1 hp7
            go_wp2_with fail
            refine (read_dk HD7.out Dsk.rA (by decide)).mono ?_
            rintro e w8 ⟨rfl, hw⟩
            rw [hw, RA.out, ZA.out]
            clear hw
            go_wp2_with fail
            refine (read_dk HD7.out Dsk.rB (by decide)).mono ?_
            rintro e w9 ⟨rfl, hw⟩
            rw [hw, RB.out, ZB.out]
            clear hw
            go_wp2
            go_ret
            exact ⟨rfl, bl b0 HB7.out.below⟩
    · obtain rfl : j = len := by omega
      have HEN := hide (duo_ends HDU.out)
      obtain ⟨⟨ba, hPa, ra⟩, bb, hPb, rb⟩ := HEN.out.crash HDE.out.ok k ks
      obtain ⟨za, hza⟩ : ∃ z, Num.bs ba = z := ⟨_, rfl⟩
      obtain ⟨zb, hzb⟩ : ∃ z, Num.bs bb = z := ⟨_, rfl⟩
      have RA := hide ra
      have RB := hide rb
      have ZA := hide hza
      have ZB := hide hzb
      have z0 := (HBE.out.below.cell (p := ⟨w.heap.size, 0, none⟩) s0).trans y0
      have z1 := (HBE.out.below.cell (p := ⟨w.heap.size, 1, none⟩) s0).trans y1
      clear ra rb
      have a1 : (za.toList == u0.toList) = true := by rw [Lab.eqB]; exact decide_eq_true (by rw [← hza, hPa]; exact Num.bs_of _)
      have b1 : (zb.toList == u1.toList) = true := by rw [Lab.eqB]; exact decide_eq_true (by rw [← hzb, hPb]; exact Num.bs_of _)
      clear hza hzb hPa hPb
      go_wp2_with fail
      refine (crash_dk HDE.out (by omega) k a cap ks (HKS.out.below (bl b0 HBE.out.below)) hkl).mono ?_
      rintro e w7 ⟨cq, rfl, hd7, hb7⟩
      have HD7 := hide hd7
      have HB7 := hide (HBE.out.then hb7)
      have hp7 := HPR.out.then hb7
      have q0 := cell_of hp7.b1 0 rfl
      have q1 := cell_of hp7.b1 1 rfl
      have q2 := cell_of hp7.b2 0 rfl
      have q3 := cell_of hp7.b2 1 rfl
      clear hd7 hb7 z0 z1 hp7
      go_wp2_with fail
      refine (read_dk HD7.out Dsk.rA (by decide)).mono ?_
      rintro e w8 ⟨rfl, hw⟩
      rw [hw, RA.out, ZA.out]
      clear hw
      go_wp2_with fail
      refine (read_dk HD7.out Dsk.rB (by decide)).mono ?_
      rintro e w9 ⟨rfl, hw⟩
      rw [hw, RB.out, ZB.out]
      clear hw
      go_wp2
      go_ret
      exact ⟨rfl, bl b0 HB7.out.below⟩

end Go.Proofs.Ytaheckbdmkendaa
