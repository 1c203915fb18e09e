/-
  Three files, of which one is renamed to another one.
-/
import Derived.Test.YtkheiaecfcdnlaaDskShownW
import Derived.Test.YtkheiaecfcdnlaaDskAct2W
import Derived.Test.YtkheiaecfcdnlaaDskAct3W
import Derived.Test.YtkheiaecfcdnlaaDskRenM
import Derived.Test.YtkheiaecfcdnlaaDskKinds
namespace Go.Proofs.Ytkheiaecfcdnlaa
open Go.RowKit
open Dsk (By Dk)

theorem renN (j : Nat) : (Dsk.nameN j).size ≤ 1 := by
  unfold Dsk.nameN
  match j with
  | 0 => decide
  | 1 => decide
  | 2 => decide
  | _ + 3 => exact Nat.le_refl _
def txtN (s t u : ByteArray) (j : Nat) : ByteArray := [s, t, u].getD j s
structure Rows3 (g1 g2 : Nat) (s t u : ByteArray) (S : Nat → Prop) (w : World) : Prop where
  n1 : ¬ S g1
  n2 : ¬ S g2
  l1 : g1 < w.heap.size
  l2 : g2 < w.heap.size
  at_ : ∀ j, j < 3 → w.cell? ⟨g1, j, none⟩ = some (.string (Dsk.nameN j)) ∧ w.cell? ⟨g2, j, none⟩ = some (.string (txtN s t u j))
theorem Rows3.next {g1 g2 : Nat} {s t u : ByteArray} {S : Nat → Prop} {w w' : World} (h : Rows3 g1 g2 s t u S w) (ho : Only S w w') : Rows3 g1 g2 s t u (more S w w') w' :=
  ⟨fun k => by rcases k with k | k; exact h.n1 k; have := h.l1; omega, fun k => by rcases k with k | k; exact h.n2 k; have := h.l2; omega, Nat.lt_of_lt_of_le h.l1 ho.size, Nat.lt_of_lt_of_le h.l2 ho.size,
    fun j hj => ⟨(ho.cell (a := ⟨g1, j, none⟩) h.l1 h.n1).trans (h.at_ j hj).1, (ho.cell (a := ⟨g2, j, none⟩) h.l2 h.n2).trans (h.at_ j hj).2⟩⟩
theorem Rows3.then {g1 g2 : Nat} {s t u : ByteArray} {S : Nat → Prop} {w w' : World} (h : Rows3 g1 g2 s t u S w) (hb : Below w.heap.size w w') : Rows3 g1 g2 s t u S w' :=
  ⟨h.n1, h.n2, Nat.lt_of_lt_of_le h.l1 hb.size, Nat.lt_of_lt_of_le h.l2 hb.size, fun j hj => ⟨(hb.cell (p := ⟨g1, j, none⟩) h.l1).trans (h.at_ j hj).1, (hb.cell (p := ⟨g2, j, none⟩) h.l2).trans (h.at_ j hj).2⟩⟩
theorem kept_only {B S : Nat → Prop} {w w' : World} (h : Only S w w') (k : ∀ b, B b → b < w.heap.size ∧ ¬ S b) : Kept B w w' := ⟨h.os, h.tape, h.output, h.size, fun i hi => h.block i (k i hi).1 (k i hi).2⟩
theorem Rows3.kept {g1 g2 : Nat} {s t u : ByteArray} {S : Nat → Prop} {w w' : World} (h : Rows3 g1 g2 s t u S w) (ho : Only S w w') : Kept (fun b => b = g1 ∨ b = g2) w w' :=
  kept_only ho (fun b e => by rcases e with rfl | rfl; exact ⟨h.l1, h.n1⟩; exact ⟨h.l2, h.n2⟩)
theorem txt_list (s t u : ByteArray) {j : Nat} (hj : j < 3) : (txtN s t u j).data.toList = [s.data.toList, t.data.toList, u.data.toList].getD j [] := by
  match j, hj with
  | 0, _ => rfl
  | 1, _ => rfl
  | 2, _ => rfl
theorem txt_size (s t u : ByteArray) {j : Nat} (hj : j < 3) (h : s.size + t.size + u.size ≤ 1000) : (txtN s t u j).size ≤ 1000 := by
  match j, hj with
  | 0, _ => show s.size ≤ 1000; omega
  | 1, _ => show t.size ≤ 1000; omega
  | 2, _ => show u.size ≤ 1000; omega
set_option maxRecDepth 100000 in
set_option maxHeartbeats 800000 in
theorem walkDiskRename (s t u : ByteArray) (k : Int) (a : Option Addr) (cap : Nat) (ks : List Int) (w : World) (hs : s.size ≤ 140737488351232) (ht : t.size ≤ 140737488351232) (hu : u.size ≤ 140737488351232) (hks : KeepAt w a ks) (hkl : ks.length ≤ 9223372036854775807) :
    Calls Try.prog 6 #[.string s, .string t, .string u, .agg #[.int .i64 k, .slice a ks.length cap]] w fun e w' => e = .returned (.bool true) ∧ Below w.heap.size w w' := by
  have bK : ∀ o, Below w.heap.size w (w.alloc o) := fun o => (Below.refl _ w).alloc (Nat.le_refl _) o
  have HBK := hide bK
  clear bK
  by_cases hb0 : 1000 < s.size + t.size + u.size
  · have hbi : (1000 : Int) < (s.size : Int) + (t.size : Int) + (u.size : Int) := by omega
    go_enter Try.func6, Try.ntmps6
    go_wp2_with fail
    refine (dshown_any _).mono ?_
    rintro e w1 ⟨rfl, hb1⟩
    go_wp2_with fail
    refine (new_dk 10000 _ (by omega)).mono ?_
    rintro e w2 ⟨rfl, _, hb2⟩
    go_wp2
    go_ret
    exact ⟨rfl, bl (bl (HBK.out _) hb1) hb2⟩
  have hbi : (s.size : Int) + (t.size : Int) + (u.size : Int) ≤ 1000 := by omega
  have HKS := hide hks
  clear hks
  go_enter Try.func6, Try.ntmps6
  go_wp2_with fail
  have y0 : (w.alloc (.cells #[.int .i64 k, .slice a ks.length cap] 33)).cell? ⟨w.heap.size, 0, none⟩ = some (.int .i64 k) := by simp
  have y1 : (w.alloc (.cells #[.int .i64 k, .slice a ks.length cap] 33)).cell? ⟨w.heap.size, 1, none⟩ = some (.slice a ks.length cap) := by simp
  have b0 := HBK.out (.cells #[.int .i64 k, .slice a ks.length cap] 33)
  have s0 : w.heap.size < (w.alloc (.cells #[.int .i64 k, .slice a ks.length cap] 33)).heap.size := by simp
  obtain ⟨w0, hw0⟩ : ∃ w0, w.alloc (.cells #[.int .i64 k, .slice a ks.length cap] 33) = w0 := ⟨_, rfl⟩
  rw [hw0] at y0 y1 b0 s0 ⊢
  clear hw0
  refine (dshown_any _).mono ?_
  rintro e w1 ⟨rfl, hb1⟩
  go_wp2_with fail
  refine (new_dk 10000 _ (by omega)).mono ?_
  rintro e w2 ⟨rfl, hd2, hb2⟩
  obtain ⟨q, hq⟩ : ∃ q, w1.heap.size + 1 = q := ⟨_, rfl⟩
  rw [hq] at hd2 ⊢
  have HD2 := hide hd2
  have HB2 : Hid (Own w0 (more noneS w1 w2) w2) := hide ⟨bl hb1 hb2, noneS_in hb1.size⟩
  have hR2 : Rows3 w2.heap.size (w2.heap.size + 1) s t u (more noneS w1 w2) ((w2.alloc (.cells #[.string ⟨#[97]⟩, .string ⟨#[98]⟩, .string ⟨#[99]⟩] 9)).alloc (.cells #[.string s, .string t, .string u] 9)) := by
    refine ⟨fun h => ?_, fun h => ?_, by simp; omega, by simp, fun j hj => ?_⟩
    · have := more_lt _ h; omega
    · have := more_lt _ h; omega
    · match j, hj with
      | 0, _ => exact ⟨by simp [Dsk.nameN, Dsk.rA], by simp [txtN]⟩
      | 1, _ => exact ⟨by simp [Dsk.nameN, Dsk.rB], by simp [txtN]⟩
      | 2, _ => exact ⟨by simp [Dsk.nameN, Dsk.rC], by simp [txtN]⟩
  have b23 : Below w2.heap.size w2 ((w2.alloc (.cells #[.string ⟨#[97]⟩, .string ⟨#[98]⟩, .string ⟨#[99]⟩] 9)).alloc (.cells #[.string s, .string t, .string u] 9)) := ((Below.refl _ w2).alloc (Nat.le_refl _) _).alloc (by simp) _
  have HD3 := hide (HD2.out.below b23)
  have HB3 := hide (HB2.out.then b23)
  have HR3 := hide hR2
  clear hd2 hq hb1 hb2 hR2 b23
  go_wp2
  obtain ⟨w3, hw3⟩ : ∃ w3, (w2.alloc (.cells #[.string ⟨#[97]⟩, .string ⟨#[98]⟩, .string ⟨#[99]⟩] 9)).alloc (.cells #[.string s, .string t, .string u] 9) = w3 := ⟨_, rfl⟩
  rw [hw3] at HD3 HB3 HR3 ⊢
  clear hw3
  obtain ⟨g1, hg1⟩ : ∃ g1, w2.heap.size = g1 := ⟨_, rfl⟩
  obtain ⟨g2, hg2⟩ : ∃ g2, g1 + 1 = g2 := ⟨_, rfl⟩
  rw [hg1] at HR3 ⊢
  rw [hg2] at HR3 ⊢
  clear hg1 hg2
  go_loopw [13] (fun v13 wr => ∃ (j : Nat) (D : Dk) (c : Nat) (S : Nat → Prop) (ds : List Dsk.Row), j ≤ 3 ∧ v13 = .int .i64 (j : Int) ∧ Hid (IsDk S wr q D c) ∧ Hid (Dsk.At D 10000 (([s.data.toList, t.data.toList, u.data.toList].take j).map (fun x => [x])) (ds ++ [Dsk.rowN j])) ∧ Hid (Own w0 S wr) ∧ Hid (Rows3 g1 g2 s t u S wr) ∧ c ≤ 1003 * j) (fun v13 _ => 3 - (intOf v13).toNat)
  case atStart => exact ⟨0, _, _, _, [], Nat.zero_le _, rfl, HD3, hide (Dsk.at_fresh 10000), HB3, HR3, Nat.zero_le _⟩
  case round =>
    obtain ⟨j, D, c, S, ds, hj, rfl, HD, HA, HB, HR, hc⟩ := hrel
    by_cases hlt : j < 3
    · obtain ⟨n1, n2, n3, n4⟩ := Dsk.ren_next (s := s.data.toList) (t := t.data.toList) (u := u.data.toList) (by simpa using Nat.le_of_not_lt hb0) hlt HA.out
      rw [← txt_list s t u hlt] at n2 n3 n4
      have hxs := txt_size s t u hlt (by omega)
      have hns := renN j
      obtain ⟨n, hn⟩ : ∃ n, Dsk.nameN j = n := ⟨_, rfl⟩
      obtain ⟨x, hx⟩ : ∃ x, txtN s t u j = x := ⟨_, rfl⟩
      have hat : ∀ (S : Nat → Prop) (wx : World), Rows3 g1 g2 s t u S wx → wx.cell? ⟨g1, j, none⟩ = some (.string n) ∧ wx.cell? ⟨g2, j, none⟩ = some (.string x) := fun _ _ h => by
        have := h.at_ j hlt
        rwa [hn, hx] at this
      rw [hn] at n1 n2 n3 n4 hns
      rw [hx] at n2 n3 n4 hxs
      have HAT := hide hat
      have N1 := hide n1
      have N2 := hide n2
      have N3 := hide n3
      have N4 := hide n4
      have hnl : n.size ≤ maxLen := by unfold maxLen; omega
      clear n1 n2 n3 n4 hn hx hat
      have hji : (j : Int) < 3 := by omega
      go_wp2_with fail
      refine wp_region_growK (fun b => b = g1 ∨ b = g2) [([0, 1, 2, 3, 4], 5), ([6, 7, 8, 9, 10, 11, 12, 13, 14, 15, 16], 17), ([18, 19, 20, 21, 22, 23, 24, 25], 26)] [27, 28] [] (by kernel_rfl) (by kernel_rfl) (by kernel_rfl) (by kernel_rfl) ?_
      intro w4 hb4
      simp only [stagesOfK, getLK, pickLK]
      have HD4 := hide (HD.out.below hb4)
      have HB4 := hide (HB.out.then hb4)
      have HR4 := hide (HR.out.then hb4)
      obtain ⟨c1, c2⟩ := HAT.out _ _ HR4.out
      have inh : Nonempty (GrK (fun b => b = g1 ∨ b = g2) w4) := GrK.some _ w4
      have q1 := fun x : GrK (fun b => b = g1 ∨ b = g2) w4 => x.cell (a := ⟨g1, j, none⟩) (.inl rfl) c1
      refine wpG_stageK ?_
      repeat (go_big_quiet_step (fail))
      refine wpQuiet_nil ?_
      clear q1 inh hb4 c1 c2
      go_wp2_with fail
      refine (create_dk HD4.out n (by unfold maxLen at hnl; omega) (by omega)).mono ?_
      rintro e w5 ⟨rfl, hd5, ho5⟩
      rw [N1.out]
      have HD5 := hide hd5
      have HB5 := hide (HB4.out.next ho5)
      have HR5 := hide (HR4.out.next ho5)
      go_wp2
      refine OnToK.mk (HR4.out.kept ho5) (Sub.refl _) ?_
      clear hd5 ho5
      obtain ⟨c1, c2⟩ := HAT.out _ _ HR5.out
      have inh : Nonempty (GrK (fun b => b = g1 ∨ b = g2) w5) := GrK.some _ w5
      have q1 := fun x : GrK (fun b => b = g1 ∨ b = g2) w5 => x.cell (a := ⟨g1, j, none⟩) (.inl rfl) c1
      have q2 := fun x : GrK (fun b => b = g1 ∨ b = g2) w5 => x.cell (a := ⟨g2, j, none⟩) (.inr rfl) c2
      refine wpG_stageK ?_
      repeat (go_big_quiet_step (fail))
      refine wpQuiet_nil ?_
      clear q1 q2 inh c1 c2
      go_wp2_with fail
      refine (append_dk HD5.out n x hnl (by omega)).mono ?_
      rintro e w6 ⟨rfl, hd6, ho6⟩
      rw [N2.out]
      have HD6 := hide hd6
      have HB6 := hide (HB5.out.next ho6)
      have HR6 := hide (HR5.out.next ho6)
      go_wp2
      refine OnToK.mk (HR5.out.kept ho6) (Sub.refl _) ?_
      clear hd6 ho6
      obtain ⟨c1, c2⟩ := HAT.out _ _ HR6.out
      have inh : Nonempty (GrK (fun b => b = g1 ∨ b = g2) w6) := GrK.some _ w6
      have q1 := fun x : GrK (fun b => b = g1 ∨ b = g2) w6 => x.cell (a := ⟨g1, j, none⟩) (.inl rfl) c1
      refine wpG_stageK ?_
      repeat (go_big_quiet_step (fail))
      refine wpQuiet_nil ?_
      clear q1 inh c1 c2
      go_wp2_with fail
      refine (sync_dk HD6.out n hnl (by omega)).mono ?_
      rintro e w7 ⟨rfl, hd7, ho7⟩
      rw [N3.out]
      have HD7 := hide hd7
      have HB7 := hide (HB6.out.next ho7)
      have HR7 := hide (HR6.out.next ho7)
      go_wp2
      refine OnToK.mk (HR6.out.kept ho7) (Sub.refl _) ?_
      clear hd7 ho7
      have inh : Nonempty (GrK (fun b => b = g1 ∨ b = g2) w7) := GrK.some _ w7
      refine wpG_lastK ?_
      repeat (go_big_quiet_step (fail))
      refine wpQuiet_nil ?_
      clear inh
      go_wp2
      go_roundw
      case rel => exact ⟨j + 1, _, _, _, _, by omega, by go_num, HD7, N4, HB7, HR7, by omega⟩
      case measure => simp [intOf]; omega
    · obtain rfl : j = 3 := by omega
      obtain ⟨m1, m2, m3⟩ := Dsk.ren_end HA.out
      have M1 := hide m1
      have M2 := hide m2
      have M3 := hide m3
      clear m1 m2 m3
      go_wp2_with fail
      refine (syncDir_dk HD.out (by omega)).mono ?_
      rintro e w4 ⟨rfl, hd4, ho4⟩
      rw [M1.out]
      have HD4 := hide hd4
      have HB4 := hide (HB.out.next ho4)
      clear hd4 ho4
      go_wp2_with fail
      refine (rename_dk HD4.out Dsk.rA Dsk.rB (by decide) (by decide) (by omega)).mono ?_
      rintro e w5 ⟨rfl, hd5, ho5⟩
      rw [M2.out]
      have HD5 := hide hd5
      have HB5 := hide (HB4.out.next ho5)
      clear hd5 ho5
      have r1 : Dsk.read Dsk.rB _ = (s.data.toList, 0) := M3.out.read Dsk.rB
      have r2 : Dsk.read Dsk.rC _ = (u.data.toList, 0) := M3.out.read Dsk.rC
      have r3 : Dsk.read Dsk.rA _ = ([], 5) := M3.out.read Dsk.rA
      have hus : ((Dsk.used (Dsk.rename Dsk.rA Dsk.rB (Dsk.syncDir D).1).1 : Nat) : Int) = (s.size : Int) + (u.size : Int) := by
        rw [M3.out.used]
        show (((u.data.toList.length + (s.data.toList.length + 0) : Nat)) : Int) = _
        simp
        omega
      obtain ⟨k1, k2, k3⟩ := Dsk.ren_crash M3.out HD5.out.ok k ks
      have R1 := hide r1
      have R2 := hide r2
      have R3 := hide r3
      have HUS := hide hus
      have K1 := hide k1
      have K2 := hide k2
      have K3 := hide k3
      have y0 := (HB5.out.below.cell (p := ⟨w.heap.size, 0, none⟩) s0).trans y0
      have y1 := (HB5.out.below.cell (p := ⟨w.heap.size, 1, none⟩) s0).trans y1
      clear r1 r2 r3 hus k1 k2 k3
      go_wp2_with fail
      refine (read_dk HD5.out Dsk.rB (by decide)).mono ?_
      rintro e wx ⟨rfl, hw⟩
      rw [hw, R1.out, Num.bs_of]
      clear hw
      go_wp2_with fail
      refine (read_dk HD5.out Dsk.rC (by decide)).mono ?_
      rintro e wx ⟨rfl, hw⟩
      rw [hw, R2.out, Num.bs_of]
      clear hw
      go_wp2_with fail
      refine (read_dk HD5.out Dsk.rA (by decide)).mono ?_
      rintro e wx ⟨rfl, hw⟩
      rw [hw, R3.out]
      clear hw
      go_wp2_with fail
      refine (used_dk HD5.out).mono ?_
      rintro e wx ⟨rfl, hw⟩
      rw [hw, HUS.out]
      clear hw
      go_wp2_with fail
      refine (crash_dk HD5.out (by omega) k a cap ks (HKS.out.below (bl b0 HB5.out.below)) hkl).mono ?_
      rintro e w6 ⟨cq, rfl, hd6, hb6⟩
      have HD6 := hide hd6
      have HB6 := hide (HB5.out.then hb6)
      have y0 := (HB6.out.below.cell (p := ⟨w.heap.size, 0, none⟩) s0).trans ((HB5.out.below.cell (p := ⟨w.heap.size, 0, none⟩) s0).symm.trans y0)
      clear hd6 hb6
      by_cases hk1 : k < 1
      · obtain ⟨ka, kb⟩ := K2.out hk1
        have KA := hide ka
        have KB := hide kb
        clear ka kb
        go_wp2_with fail
        refine (read_dk HD6.out Dsk.rA (by decide)).mono ?_
        rintro e wx ⟨rfl, hw⟩
        rw [hw, KA.out, Num.bs_of]
        clear hw
        go_wp2_with fail
        refine (read_dk HD6.out Dsk.rB (by decide)).mono ?_
        rintro e wx ⟨rfl, hw⟩
        rw [hw, KB.out, Num.bs_of]
        clear hw
        go_wp2_with fail
        refine (read_dk HD6.out Dsk.rC (by decide)).mono ?_
        rintro e wx ⟨rfl, hw⟩
        rw [hw, K1.out, Num.bs_of]
        clear hw
        go_wp2
        go_ret
        exact ⟨rfl, bl b0 HB6.out.below⟩
      · obtain ⟨ka, kb⟩ := K3.out (by omega)
        have KA := hide ka
        have KB := hide kb
        clear ka kb
        go_wp2_with fail
        refine (read_dk HD6.out Dsk.rA (by decide)).mono ?_
        rintro e wx ⟨rfl, hw⟩
        rw [hw, KA.out]
        clear hw
        go_wp2_with fail
        refine (read_dk HD6.out Dsk.rB (by decide)).mono ?_
        rintro e wx ⟨rfl, hw⟩
        rw [hw, KB.out, Num.bs_of]
        clear hw
        go_wp2_with fail
        refine (read_dk HD6.out Dsk.rC (by decide)).mono ?_
        rintro e wx ⟨rfl, hw⟩
        rw [hw, K1.out, Num.bs_of]
        clear hw
        go_wp2
        go_ret
        exact ⟨rfl, bl b0 HB6.out.below⟩

end Go.Proofs.Ytkheiaecfcdnlaa
