/-
  What each act tells, and leaves, and what is left of it when the power went.
-/
import Derived.Test.YtleomppgkikhnaaGreatSwpDoesW
import Derived.Test.YtleomppgkikhnaaGreatSwpAlikeW
import Derived.Test.YtleomppgkikhnaaGreatSwpShownW
import Derived.Test.YtleomppgkikhnaaGreatRefCrashW
import Derived.Test.YtleomppgkikhnaaGreatDskKinds
namespace Go.Proofs.YtleomppgkikhnaaGreat
open Go.RowKit
open Dsk (By Dk)

set_option maxRecDepth 100000 in
set_option maxHeartbeats 1600000 in
theorem walkSwapPlays (room : Int) (a0 : Option Addr) (cap0 : Nat) (l : List A8) (k : Int) (ka : Option Addr) (kc : Nat) (ks : List Int) (w : World) (hr : -9223372036854775808 ≤ room ∧ room ≤ 9223372036854775807) (ha : A8sAt w a0 l) (hl : l.length ≤ 9223372036854775807) (hok : ∀ p ∈ l, A8Ok p)
    (hks : KeepAt w ka ks) (hkl : ks.length ≤ 9223372036854775807) :
    Calls Tryz.prog 3 #[.int .i64 room, .slice a0 l.length cap0, .agg #[.int .i64 k, .slice ka ks.length kc]] w fun e w' => e = .returned (.bool true) ∧ Below w.heap.size w w' := by
  have HA := hide ha
  have HOK := hide hok
  have HKS := hide hks
  have bK : ∀ o, Below w.heap.size w (w.alloc o) := fun o => (Below.refl _ w).alloc (Nat.le_refl _) o
  have HBK := hide bK
  clear ha hok hks bK
  go_enter Tryz.func3, Tryz.ntmps3
  go_wp2_with fail
  have y0 : (w.alloc (.cells #[.int .i64 k, .slice ka ks.length kc] 25)).cell? ⟨w.heap.size, 0, none⟩ = some (.int .i64 k) := by simp
  have y1 : (w.alloc (.cells #[.int .i64 k, .slice ka ks.length kc] 25)).cell? ⟨w.heap.size, 1, none⟩ = some (.slice ka ks.length kc) := by simp
  have b0 := HBK.out (.cells #[.int .i64 k, .slice ka ks.length kc] 25)
  have s0 : w.heap.size < (w.alloc (.cells #[.int .i64 k, .slice ka ks.length kc] 25)).heap.size := by simp
  obtain ⟨w0, hw0⟩ : ∃ w0, w.alloc (.cells #[.int .i64 k, .slice ka ks.length kc] 25) = w0 := ⟨_, rfl⟩
  obtain ⟨kb, hkb⟩ : ∃ kb, w.heap.size = kb := ⟨_, rfl⟩
  rw [hw0] at y0 y1 b0 s0 ⊢
  rw [hkb] at y0 y1 s0 ⊢
  clear hw0
  refine (sshown_any _).mono ?_
  rintro e w1 ⟨rfl, hb1⟩
  have HB0 := hide b0
  have Y0 := hide y0
  have Y1 := hide y1
  have HKB := hide hkb
  clear b0 y0 y1 hkb
  go_wp2_with fail
  refine (a8light_any cap0 (HA.out.below (bl HB0.out hb1)) hl HOK.out).mono ?_
  rintro e w2 ⟨b, rfl, hli, hb2⟩
  have HLI := hide hli
  have HB2 := hide (bl hb1 hb2)
  clear hb1 hb2 hli
  have HB3 := HB2
  clear HB2
  go_wp2_with fail
  refine (new_dk room _ hr.2).mono ?_
  rintro e w4 ⟨rfl, hd4, hb4⟩
  obtain ⟨pd, hpd⟩ : ∃ q, w2.heap.size + 1 = q := ⟨_, rfl⟩
  rw [hpd] at hd4 ⊢
  have HD4 := hide hd4
  have HB4 := hide hb4
  clear hd4 hb4 hpd
  go_wp2_with fail
  refine (rnew_dk room _ hr.2).mono ?_
  rintro e w5 ⟨pr, rfl, hd5, hb5⟩
  have hdr : DR w2 pd pr (more noneS w2 w4) (more noneS w4 w5) w5 (Dsk.fresh room) (Dsk.fresh room) 0 :=
    ⟨HD4.out.below hb5, hd5, fun b h1 h2 => by have := more_lt _ h1; have := more_ge h2; omega, (Own.new HB4.out).then hb5, fun b h => Nat.le_trans HB4.out.size (more_ge h)⟩
  have HR5 := hide hdr
  clear hd5 hb5 hdr HD4 HB4
  cases b with
  | false =>
    go_wp2
    go_ret
    exact ⟨rfl, bl HB0.out (bl HB3.out HR5.out.od.below)⟩
  | true =>
    obtain ⟨l1, l2⟩ := HLI.out rfl
    go_wp2
    go_loopw [11] (fun v wr => ∃ (j : Nat) (D : Dk) (c : Nat) (S T : Nat → Prop), j ≤ l.length ∧ v = .int .i64 (j : Int) ∧ Hid (DR w2 pd pr S T wr D D c) ∧ c ≤ 130 * j + a8Sum (l.take j) ∧ (Dsk.list D).length ≤ 2 * j) (fun v _ => l.length - (intOf v).toNat)
    case atStart => exact ⟨0, _, _, _, _, Nat.zero_le _, rfl, HR5, Nat.zero_le _, Nat.zero_le _⟩
    case round =>
      obtain ⟨j, D, c, S, T, hj, rfl, HR, hc, hn⟩ := hrel
      clear HR5
      have hsum0 : a8Sum (l.take j) ≤ 600 := Nat.le_trans (a8Sum_pre l j) l2
      by_cases hlt : j < l.length
      · obtain ⟨g, o, rfl, hg, hcell⟩ := HA.out j hlt
        have hcy := hcell j hlt
        have e0 := a8Sum_take hlt
        have hx := HOK.out _ (List.getElem_mem hlt)
        obtain ⟨⟨op, nm, N, raw, tx⟩, hy⟩ : ∃ y, l[j] = y := ⟨_, rfl⟩
        rw [hy] at hcy e0 hx
        have hsum : a8Sum (l.take (j + 1)) ≤ 600 := Nat.le_trans (a8Sum_pre l (j + 1)) l2
        have ACS := hide e0
        have htx : tx.size ≤ 600 := by simp only at e0; omega
        have hcW := hcy.below (bl HB0.out (bl HB3.out HR.out.od.below)) hg
        obtain ⟨c0, c1, c2, c3, c4⟩ := hcW
        clear e0 hy hcell
        go_wp2_with fail
        refine (does8_any HR.out ⟨op, nm, N, raw, tx⟩ hx hn (by first | omega | (simp only; omega))).mono ?_
        rintro e w6 ⟨S', T', rfl, dr, _, _, _⟩
        have HR6 := hide dr
        clear dr c0 c1 c2 c3 c4
        have hn6 : (Dsk.list (doA8 ⟨op, nm, N, raw, tx⟩ D).1).length ≤ 2 * (j + 1) := by
          have h1 := Dsk.grows_does8 (pk op 10) (nameOf8 (pk nm 5) raw) tx.data.toList N D
          rw [Dsk.list_len'] at hn ⊢
          have h2 : (Dsk.dir (doA8 ⟨op, nm, N, raw, tx⟩ D).1).length ≤ (Dsk.dir D).length + 2 := h1
          omega
        go_wp2_with fail
        refine (alike8_any HR6.out (by first | omega | (simp only; omega))).mono ?_
        rintro e w7 ⟨rfl, hb7⟩
        have HR7 := hide (HR6.out.then hb7)
        clear hb7
        go_wp2
        go_roundw
        case rel => exact ⟨j + 1, _, _, _, _, by omega, by go_num, HR7, by have := ACS.out; first | omega | (simp only at this; omega) | (simp only at this ⊢; omega), hn6⟩
        case measure => simp [intOf]; omega
      · have hc1 : c ≤ 10000 := by omega
        have HBR := hide (bl HB3.out HR.out.od.below)
        have y0 := (HBR.out.cell (p := ⟨kb, 0, none⟩) s0).trans Y0.out
        have y1 := (HBR.out.cell (p := ⟨kb, 1, none⟩) s0).trans Y1.out
        obtain ⟨wo, hwo⟩ : ∃ wo, wo = wr := ⟨_, rfl⟩
        subst hwo
        clear hc hsum0 hn
        go_wp2_with fail
        refine (crash_dk HR.out.d (by omega) k ka kc ks (HKS.out.below (bl HB0.out HBR.out)) hkl).mono ?_
        rintro e w6 ⟨pc, rfl, hd6, hb6⟩
        have HD6 := hide hd6
        have HR6 := hide (HR.out.then hb6)
        have HB6 := hide hb6
        clear hd6 hb6
        have y0' := (HB6.out.cell (p := ⟨kb, 0, none⟩) (by have := HBR.out.size; show kb < _; omega)).trans y0
        have y1' := (HB6.out.cell (p := ⟨kb, 1, none⟩) (by have := HBR.out.size; show kb < _; omega)).trans y1
        clear y0 y1
        go_wp2_with fail
        refine (rcrash_dk HR6.out.r (by omega) k ka kc ks (HKS.out.below (bl HB0.out (bl HBR.out HB6.out))) hkl).mono ?_
        rintro e w7 ⟨pq, rfl, hd7, hb7⟩
        have hdc : DR wo pc pq (more noneS wo w6) (more noneS w6 w7) w7 (Dsk.crash k ks D) (Dsk.crash k ks D) c :=
          ⟨HD6.out.below hb7, hd7, fun b h1 h2 => by have := more_lt _ h1; have := more_ge h2; omega, (Own.new HB6.out).then hb7, fun b h => Nat.le_trans HB6.out.size (more_ge h)⟩
        have HC7 := hide hdc
        clear hd7 hb7 hdc HD6 HR6 HB6 y0' y1'
        go_wp2_with fail
        refine (alike8_any HC7.out (by omega)).mono ?_
        rintro e w8 ⟨rfl, hb8⟩
        have HF := hide (bl HB0.out (bl HBR.out (bl HC7.out.od.below hb8)))
        clear hb8
        go_wp2
        go_ret
        exact ⟨rfl, HF.out⟩

end Go.Proofs.YtleomppgkikhnaaGreat
