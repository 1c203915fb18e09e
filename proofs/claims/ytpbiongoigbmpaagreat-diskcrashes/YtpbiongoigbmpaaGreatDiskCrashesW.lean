/-
  What is there when the power went, and what goes on with it.
-/
import Derived.Test.YtpbiongoigbmpaaGreatDskAlikeW
import Derived.Test.YtpbiongoigbmpaaGreatRefCrashW
import Derived.Test.YtpbiongoigbmpaaGreatDskKinds
namespace Go.Proofs.YtpbiongoigbmpaaGreat
open Go.RowKit
open Dsk (By Dk)

theorem acSum_pre8 (l : List Ac) (j : Nat) : acSum (l.take j) ≤ acSum l := by
  conv => rhs; rw [← List.take_append_drop j l]
  unfold acSum
  rw [List.map_append, List.sum_append]
  omega
def nB8 : ByteArray := ⟨#[98]⟩
set_option maxRecDepth 100000 in
set_option maxHeartbeats 1600000 in
theorem walkDiskCrashes (room : Int) (a0 : Option Addr) (cap0 : Nat) (l : List Ac) (k : Int) (ka : Option Addr) (kc : Nat) (ks : List Int) (a1 : Option Addr) (cap1 : Nat) (m : List Ac) (w : World) (hr : -9223372036854775808 ≤ room ∧ room ≤ 9223372036854775807) (ha : ActsAt w a0 l) (hl : l.length ≤ 9223372036854775807) (hok : ∀ p ∈ l, AcOk p)
    (hks : KeepAt w ka ks) (hkl : ks.length ≤ 9223372036854775807) (ha1 : ActsAt w a1 m) (hl1 : m.length ≤ 9223372036854775807) (hok1 : ∀ p ∈ m, AcOk p) :
    Calls Tryz.prog 4 #[.int .i64 room, .slice a0 l.length cap0, .agg #[.int .i64 k, .slice ka ks.length kc], .slice a1 m.length cap1] w fun e w' => e = .returned (.bool true) ∧ Below w.heap.size w w' := by
  have HA := hide ha
  have HOK := hide hok
  have HM := hide ha1
  have HOM := hide hok1
  have HKS := hide hks
  have bK : ∀ o, Below w.heap.size w (w.alloc o) := fun o => (Below.refl _ w).alloc (Nat.le_refl _) o
  have HBK := hide bK
  clear ha hok hks bK ha1 hok1
  go_enter Tryz.func4, Tryz.ntmps4
  go_wp2_with fail
  have y0 : (w.alloc (.cells #[.int .i64 k, .slice ka ks.length kc] 36)).cell? ⟨w.heap.size, 0, none⟩ = some (.int .i64 k) := by simp
  have y1 : (w.alloc (.cells #[.int .i64 k, .slice ka ks.length kc] 36)).cell? ⟨w.heap.size, 1, none⟩ = some (.slice ka ks.length kc) := by simp
  have b0 := HBK.out (.cells #[.int .i64 k, .slice ka ks.length kc] 36)
  have s0 : w.heap.size < (w.alloc (.cells #[.int .i64 k, .slice ka ks.length kc] 36)).heap.size := by simp
  obtain ⟨w0, hw0⟩ : ∃ w0, w.alloc (.cells #[.int .i64 k, .slice ka ks.length kc] 36) = w0 := ⟨_, rfl⟩
  obtain ⟨kb, hkb⟩ : ∃ kb, w.heap.size = kb := ⟨_, rfl⟩
  rw [hw0] at y0 y1 b0 s0 ⊢
  rw [hkb] at y0 y1 s0 ⊢
  clear hw0
  refine (dshown_any _).mono ?_
  rintro e w1 ⟨rfl, hb1⟩
  have HB0 := hide b0
  have Y0 := hide y0
  have Y1 := hide y1
  have HKB := hide hkb
  clear b0 y0 y1 hkb
  go_wp2_with fail
  refine (light_any cap0 (HA.out.below (bl HB0.out hb1)) hl HOK.out).mono ?_
  rintro e w2 ⟨b, rfl, hli, hb2⟩
  have HLI := hide hli
  have HB2 := hide (bl hb1 hb2)
  clear hb1 hb2 hli
  go_wp2_with fail
  refine (light_any cap1 (HM.out.below (bl HB0.out HB2.out)) hl1 HOM.out).mono ?_
  rintro e w3 ⟨b', rfl, hli, hb3⟩
  have HLM := hide hli
  have HB3 := hide (bl HB2.out hb3)
  clear hb3 hli HB2
  go_wp2_with fail
  refine (new_dk room _ hr.2).mono ?_
  rintro e w4 ⟨rfl, hd4, hb4⟩
  obtain ⟨pd, hpd⟩ : ∃ q, w3.heap.size + 1 = q := ⟨_, rfl⟩
  rw [hpd] at hd4 ⊢
  have HD4 := hide hd4
  have HB4 := hide hb4
  clear hd4 hb4 hpd
  go_wp2_with fail
  refine (rnew_dk room _ hr.2).mono ?_
  rintro e w5 ⟨pr, rfl, hd5, hb5⟩
  have hdr : DR w3 pd pr (more noneS w3 w4) (more noneS w4 w5) w5 (Dsk.fresh room) (Dsk.fresh room) 0 :=
    ⟨HD4.out.below hb5, hd5, fun b h1 h2 => by have := more_lt _ h1; have := more_ge h2; omega, (Own.new HB4.out).then hb5, fun b h => Nat.le_trans HB4.out.size (more_ge h)⟩
  have HR5 := hide hdr
  clear hd5 hb5 hdr HD4 HB4
  cases b with
  | false =>
    go_wp2
    go_ret
    exact ⟨rfl, bl HB0.out (bl HB3.out HR5.out.od.below)⟩
  | true =>
  cases b' with
  | false =>
    go_wp2
    go_ret
    exact ⟨rfl, bl HB0.out (bl HB3.out HR5.out.od.below)⟩
  | true =>
    obtain ⟨l1, l2⟩ := HLI.out rfl
    obtain ⟨m1, m2⟩ := HLM.out rfl
    go_wp2
    go_loopw [14] (fun v wr => ∃ (j : Nat) (D : Dk) (c : Nat) (S T : Nat → Prop), j ≤ l.length ∧ v = .int .i64 (j : Int) ∧ Hid (DR w3 pd pr S T wr D D c) ∧ c ≤ j + acSum (l.take j)) (fun v _ => l.length - (intOf v).toNat)
    case atStart => exact ⟨0, _, _, _, _, Nat.zero_le _, rfl, HR5, Nat.zero_le _⟩
    case round =>
      obtain ⟨j, D, c, S, T, hj, rfl, HR, hc⟩ := hrel
      clear HR5
      have hsum0 : acSum (l.take j) ≤ 1000 := Nat.le_trans (acSum_pre8 l j) l2
      by_cases hlt : j < l.length
      · obtain ⟨g, o, rfl, hg, hcell⟩ := HA.out j hlt
        have hcy := hcell j hlt
        have e0 := acSum_take hlt
        have hx := HOK.out _ (List.getElem_mem hlt)
        obtain ⟨⟨op, nm, to, N, raw, tx⟩, hy⟩ : ∃ y, l[j] = y := ⟨_, rfl⟩
        rw [hy] at hcy e0 hx
        have hsum : acSum (l.take (j + 1)) ≤ 1000 := Nat.le_trans (acSum_pre8 l (j + 1)) l2
        have ACS := hide e0
        have htx : tx.size ≤ 1000 := by simp only at e0; omega
        have hcW := hcy.below (bl HB0.out (bl HB3.out HR.out.od.below)) hg
        obtain ⟨c0, c1, c2, c3, c4, c5⟩ := hcW
        clear e0 hy hcell
        go_wp2_with fail
        refine (does_any HR.out ⟨op, nm, to, N, raw, tx⟩ hx (by first | omega | (simp only; omega))).mono ?_
        rintro e w6 ⟨S', T', rfl, dr, _, _, _⟩
        have HR6 := hide dr
        clear dr c0 c1 c2 c3 c4 c5
        go_wp2
        go_roundw
        case rel => exact ⟨j + 1, _, _, _, _, by omega, by go_num, HR6, by have := ACS.out; first | omega | (simp only at this; omega) | (simp only at this ⊢; omega)⟩
        case measure => simp [intOf]; omega
      · have hc1 : c ≤ 1100 := by omega
        have HBR := hide (bl HB3.out HR.out.od.below)
        have y0 := (HBR.out.cell (p := ⟨kb, 0, none⟩) s0).trans Y0.out
        have y1 := (HBR.out.cell (p := ⟨kb, 1, none⟩) s0).trans Y1.out
        obtain ⟨wo, hwo⟩ : ∃ wo, wo = wr := ⟨_, rfl⟩
        subst hwo
        clear hc hsum0
        go_wp2_with fail
        refine (crash_dk HR.out.d (by omega) k ka kc ks (HKS.out.below (bl HB0.out HBR.out)) hkl).mono ?_
        rintro e w6 ⟨pc, rfl, hd6, hb6⟩
        have HD6 := hide hd6
        have HR6 := hide (HR.out.then hb6)
        have HB6 := hide hb6
        clear hd6 hb6
        have y0' := (HB6.out.cell (p := ⟨kb, 0, none⟩) (by have := HBR.out.size; show kb < _; omega)).trans y0
        have y1' := (HB6.out.cell (p := ⟨kb, 1, none⟩) (by have := HBR.out.size; show kb < _; omega)).trans y1
        clear y0 y1
        go_wp2_with fail
        refine (rcrash_dk HR6.out.r (by omega) k ka kc ks (HKS.out.below (bl HB0.out (bl HBR.out HB6.out))) hkl).mono ?_
        rintro e w7 ⟨pq, rfl, hd7, hb7⟩
        have hdc : DR wo pc pq (more noneS wo w6) (more noneS w6 w7) w7 (Dsk.crash k ks D) (Dsk.crash k ks D) c :=
          ⟨HD6.out.below hb7, hd7, fun b h1 h2 => by have := more_lt _ h1; have := more_ge h2; omega, (Own.new HB6.out).then hb7, fun b h => Nat.le_trans HB6.out.size (more_ge h)⟩
        have HC7 := hide hdc
        have HR7 := hide (HR6.out.then hb7)
        clear hd7 hb7 hdc HD6 HR6 HB6 y0' y1'
        go_wp2_with fail
        refine (alike_any HC7.out nA (by decide) (by omega)).mono ?_
        rintro e w8 ⟨rfl, hb8⟩
        have HC8 := hide (HC7.out.then hb8)
        have HR8 := hide (HR7.out.then hb8)
        clear hb8
        go_wp2_with fail
        refine (alike_any HR8.out nA (by decide) (by omega)).mono ?_
        rintro e w9 ⟨rfl, hb9⟩
        have HC9 := hide (HC8.out.then hb9)
        clear hb9 HC7 HC8 HR7 HR8
        go_wp2
        go_loopw [19] (fun v wr => ∃ (j : Nat) (C : Dk) (c' : Nat) (S T : Nat → Prop), j ≤ m.length ∧ v = .int .i64 (j : Int) ∧ Hid (DR wo pc pq S T wr C C c') ∧ c' ≤ c + (j + acSum (m.take j))) (fun v _ => m.length - (intOf v).toNat)
        case atStart => exact ⟨0, _, _, _, _, Nat.zero_le _, rfl, HC9, Nat.le_add_right _ _⟩
        case round =>
          obtain ⟨j, C, c', S', T', hj, rfl, HC, hc⟩ := hrel
          have hsum0 : acSum (m.take j) ≤ 1000 := Nat.le_trans (acSum_pre8 m j) m2
          have HBC := hide (bl HBR.out HC.out.od.below)
          by_cases hlt : j < m.length
          · obtain ⟨g, o, rfl, hg, hcell⟩ := HM.out j hlt
            have hcy := hcell j hlt
            have e0 := acSum_take hlt
            have hx := HOM.out _ (List.getElem_mem hlt)
            obtain ⟨⟨op, nm, to, N, raw, tx⟩, hy⟩ : ∃ y, m[j] = y := ⟨_, rfl⟩
            rw [hy] at hcy e0 hx
            have hsum : acSum (m.take (j + 1)) ≤ 1000 := Nat.le_trans (acSum_pre8 m (j + 1)) m2
            have ACS := hide e0
            have htx : tx.size ≤ 1000 := by simp only at e0; omega
            have hcW := hcy.below (bl HB0.out HBC.out) hg
            obtain ⟨c0, c1, c2, c3, c4, c5⟩ := hcW
            clear e0 hy hcell
            go_wp2_with fail
            refine (does_any HC.out ⟨op, nm, to, N, raw, tx⟩ hx (by first | omega | (simp only; omega))).mono ?_
            rintro e w6 ⟨S'', T'', rfl, dr, _, _, _⟩
            have HC6 := hide dr
            clear dr c0 c1 c2 c3 c4 c5
            go_wp2
            go_roundw
            case rel => exact ⟨j + 1, _, _, _, _, by omega, by go_num, HC6, by have := ACS.out; first | omega | (simp only at this; omega) | (simp only at this ⊢; omega)⟩
            case measure => simp [intOf]; omega
          · have hc2 : c' ≤ 3000 := by omega
            have y0 := (HBC.out.cell (p := ⟨kb, 0, none⟩) s0).trans Y0.out
            have y1 := (HBC.out.cell (p := ⟨kb, 1, none⟩) s0).trans Y1.out
            clear hc hsum0
            go_wp2_with fail
            refine (crash_dk HC.out.d (by omega) k ka kc ks (HKS.out.below (bl HB0.out HBC.out)) hkl).mono ?_
            rintro e w10 ⟨pe, rfl, hd10, hb10⟩
            have HD10 := hide hd10
            have HC10 := hide (HC.out.then hb10)
            have HB10 := hide hb10
            clear hd10 hb10
            have y0' := (HB10.out.cell (p := ⟨kb, 0, none⟩) (by have := HBC.out.size; show kb < _; omega)).trans y0
            have y1' := (HB10.out.cell (p := ⟨kb, 1, none⟩) (by have := HBC.out.size; show kb < _; omega)).trans y1
            clear y0 y1
            go_wp2_with fail
            refine (rcrash_dk HC10.out.r (by omega) k ka kc ks (HKS.out.below (bl HB0.out (bl HBC.out HB10.out))) hkl).mono ?_
            rintro e w11 ⟨pf, rfl, hd11, hb11⟩
            have hde : DR wr pe pf (more noneS wr w10) (more noneS w10 w11) w11 (Dsk.crash k ks C) (Dsk.crash k ks C) c' :=
              ⟨HD10.out.below hb11, hd11, fun b h1 h2 => by have := more_lt _ h1; have := more_ge h2; omega, (Own.new HB10.out).then hb11, fun b h => Nat.le_trans HB10.out.size (more_ge h)⟩
            have HE := hide hde
            clear hd11 hb11 hde HD10 HC10 HB10 y0' y1'
            go_wp2_with fail
            refine (alike_any HE.out nB8 (by decide) (by omega)).mono ?_
            rintro e w12 ⟨rfl, hb12⟩
            have HF := hide (bl HB0.out (bl HBC.out (bl HE.out.od.below hb12)))
            clear hb12
            go_wp2
            go_ret
            exact ⟨rfl, HF.out⟩

end Go.Proofs.YtpbiongoigbmpaaGreat
