/-
  What each act tells, and what there is behind it.
-/
import Derived.Test.YtpbiongoigbmpaaGreatDskAlikeW
namespace Go.Proofs.YtpbiongoigbmpaaGreat
open Go.RowKit
open Dsk (By Dk)

theorem acSum_pre9 (l : List Ac) (j : Nat) : acSum (l.take j) ≤ acSum l := by
  conv => rhs; rw [← List.take_append_drop j l]
  unfold acSum
  rw [List.map_append, List.sum_append]
  omega
set_option maxRecDepth 100000 in
set_option maxHeartbeats 800000 in
theorem walkDiskPlays (room : Int) (a0 : Option Addr) (cap0 : Nat) (l : List Ac) (w : World) (hr : -9223372036854775808 ≤ room ∧ room ≤ 9223372036854775807) (ha : ActsAt w a0 l) (hl : l.length ≤ 9223372036854775807) (hok : ∀ p ∈ l, AcOk p) :
    Calls Tryz.prog 3 #[.int .i64 room, .slice a0 l.length cap0] w fun e w' => e = .returned (.bool true) ∧ Below w.heap.size w w' := by
  have HA := hide ha
  have HOK := hide hok
  clear ha hok
  go_enter Tryz.func3, Tryz.ntmps3
  go_wp2_with fail
  refine (dshown_any _).mono ?_
  rintro e w1 ⟨rfl, hb1⟩
  go_wp2_with fail
  refine (light_any cap0 (HA.out.below hb1) hl HOK.out).mono ?_
  rintro e w2 ⟨b, rfl, hli, hb2⟩
  have HLI := hide hli
  have HB2 := hide (bl hb1 hb2)
  clear hli hb1 hb2
  go_wp2_with fail
  refine (new_dk room _ hr.2).mono ?_
  rintro e w3 ⟨rfl, hd3, hb3⟩
  obtain ⟨pd, hpd⟩ : ∃ q, w2.heap.size + 1 = q := ⟨_, rfl⟩
  rw [hpd] at hd3 ⊢
  have HD3 := hide hd3
  have HB3 := hide hb3
  clear hd3 hb3 hpd
  go_wp2_with fail
  refine (rnew_dk room _ hr.2).mono ?_
  rintro e w4 ⟨pr, rfl, hd4, hb4⟩
  have hdr : DR w2 pd pr (more noneS w2 w3) (more noneS w3 w4) w4 (Dsk.fresh room) (Dsk.fresh room) 0 :=
    ⟨HD3.out.below hb4, hd4, fun b h1 h2 => by have := more_lt _ h1; have := more_ge h2; omega, (Own.new HB3.out).then hb4, fun b h => Nat.le_trans HB3.out.size (more_ge h)⟩
  have HR4 := hide hdr
  clear hd4 hb4 hdr HD3 HB3
  cases b with
  | false =>
    go_wp2
    go_ret
    exact ⟨rfl, bl HB2.out HR4.out.od.below⟩
  | true =>
    obtain ⟨l1, l2⟩ := HLI.out rfl
    go_wp2
    go_loopw [9] (fun v wr => ∃ (j : Nat) (D : Dk) (c : Nat) (S T : Nat → Prop), j ≤ l.length ∧ v = .int .i64 (j : Int) ∧ Hid (DR w2 pd pr S T wr D D c) ∧ c ≤ j + acSum (l.take j)) (fun v _ => l.length - (intOf v).toNat)
    case atStart => exact ⟨0, _, _, _, _, Nat.zero_le _, rfl, HR4, Nat.zero_le _⟩
    case round =>
      obtain ⟨j, D, c, S, T, hj, rfl, HR, hc⟩ := hrel
      have hsum0 : acSum (l.take j) ≤ 1000 := Nat.le_trans (acSum_pre9 l j) l2
      by_cases hlt : j < l.length
      · obtain ⟨g, o, rfl, hg, hcell⟩ := HA.out j hlt
        have hcy := hcell j hlt
        have e0 := acSum_take hlt
        have hx := HOK.out _ (List.getElem_mem hlt)
        obtain ⟨⟨op, nm, to, N, raw, tx⟩, hy⟩ : ∃ y, l[j] = y := ⟨_, rfl⟩
        rw [hy] at hcy e0 hx
        have hsum : acSum (l.take (j + 1)) ≤ 1000 := Nat.le_trans (acSum_pre9 l (j + 1)) l2
        have ACS := hide e0
        have htx : tx.size ≤ 1000 := by simp only at e0; omega
        have hraw : raw.size ≤ 140737488351232 := hx.raw
        have hcW := hcy.below (bl HB2.out HR.out.od.below) hg
        obtain ⟨c0, c1, c2, c3, c4, c5⟩ := hcW
        clear e0 hy hcell
        go_wp2_with fail
        refine (does_any HR.out ⟨op, nm, to, N, raw, tx⟩ hx (by first | omega | (simp only; omega))).mono ?_
        rintro e w6 ⟨S', T', rfl, dr, _, _, _⟩
        have HR6 := hide dr
        clear dr c0 c1 c2 c3 c4 c5
        have hcW := hcy.below (bl HB2.out HR6.out.od.below) hg
        obtain ⟨c0, c1, c2, c3, c4, c5⟩ := hcW
        go_wp2_with fail
        refine (alike_any HR6.out raw hraw (by first | omega | (simp only; omega))).mono ?_
        rintro e w7 ⟨rfl, hb7⟩
        have HR7 := hide (HR6.out.then hb7)
        clear hb7 c0 c1 c2 c3 c4 c5
        go_wp2
        go_roundw
        case rel => exact ⟨j + 1, _, _, _, _, by omega, by go_num, HR7, by have := ACS.out; first | omega | (simp only at this; omega) | (simp only at this ⊢; omega)⟩
        case measure => simp [intOf]; omega
      · go_wp2
        go_ret
        exact ⟨rfl, bl HB2.out HR.out.od.below⟩

end Go.Proofs.YtpbiongoigbmpaaGreat
