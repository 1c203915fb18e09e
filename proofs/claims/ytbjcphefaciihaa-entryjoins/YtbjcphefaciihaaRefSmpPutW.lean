/-
  The document's own Put.
-/
import Derived.Test.YtbjcphefaciihaaSmpPutW
import Derived.Test.YtbjcphefaciihaaRefPutW
namespace Go.Proofs.Ytbjcphefaciihaa
open Go.RowKit
open Smp (Sm)

theorem step_at (a : Option Addr) (cap : Nat) (a0 : Sm) (r : List Sm) (w : World) (hp : SmpsAt w a (a0 :: r)) (hl : r.length ≤ 100) (k : Nat) (hk : k ≤ r.length) :
    Calls Try.prog 61 #[.slice a (r.length + 1) cap, .int .i64 (k : Int)] w fun e w' => e = .returned (.int .u64 (Smp.stA a0 0 r k)) ∧ Below w.heap.size w w' := by
  cases k with
  | zero => exact step_zero a _ cap w
  | succ k =>
    have := step_succ a cap (a0 :: r) w hp (by simp; omega) k (by simp; omega)
    rw [← gt_at (by simp; omega), ← gt_at (by simp; omega)] at this
    exact this
theorem step_at' (a : Option Addr) (cap : Nat) (a0 : Sm) (r : List Sm) (w : World) (hp : SmpsAt w a (a0 :: r)) (hl : r.length ≤ 100) (k : Nat) (hk : k < r.length) :
    Calls Try.prog 61 #[.slice a (r.length + 1) cap, .int .i64 ((k : Int) + 1)] w fun e w' => e = .returned (.int .u64 (Smp.stA a0 0 r (k + 1))) ∧ Below w.heap.size w w' :=
  step_at a cap a0 r w hp hl (k + 1) (by omega)

set_option maxRecDepth 100000 in
set_option maxHeartbeats 800000 in
theorem refPut_bad (a : Option Addr) (cap : Nat) (ss : List Sm) (w : World) (hp : SmpsAt w a ss) (hl : ss.length ≤ 9223372036854775807) (hbad : Smp.check ss ≠ 0) :
    Calls Try.prog 34 #[.slice a ss.length cap] w fun e w' => e = .returned (putV ss) ∧ Below w.heap.size w w' := by
  have HP := hide hp
  clear hp
  have hne : (Smp.check ss == 0) = false := beq_eq_false_iff_ne.2 hbad
  have HB := hide hbad
  clear hbad
  go_enter Try.func34, Try.ntmps34
  go_wp2_with fail
  refine (srefCheck_any _ _ _ _ HP.out hl).mono ?_
  rintro e w1 ⟨rfl, hb1⟩
  go_wp2
  go_ret2
  exact ⟨ret_v (putV_no HB.out).symm, hb1⟩

set_option maxRecDepth 100000 in
set_option maxHeartbeats 1600000 in
theorem refPut_good (a : Option Addr) (cap : Nat) (a0 : Sm) (r : List Sm) (w : World) (hp : SmpsAt w a (a0 :: r)) (hok : Smp.check (a0 :: r) = 0) (ho : ∀ x ∈ a0 :: r, Smp.Ok x) :
    Calls Try.prog 34 #[.slice a (r.length + 1) cap] w fun e w' => e = .returned (putV (a0 :: r)) ∧ Below w.heap.size w w' := by
  have hr : r.length < 20 := by have := (Smp.of_check hok).2.1; simp at this; omega
  obtain ⟨b, off, rfl, hbl, hcell⟩ := hp 0 (by simp)
  have hc0 := hcell 0 (by simp)
  simp only [List.getElem_cons_zero] at hc0
  have HP := hide hp
  have HO := hide ho
  have HK := hide hok
  have oka := ho a0 (List.mem_cons_self ..)
  have HPL := hide (fun k => Smp.pfx_len (r := r) oka hr k)
  obtain ⟨a1, a2, a3, a4⟩ := oka
  obtain ⟨t0, v0⟩ := a0
  clear hp ho hok hcell
  have p1 : (Num.bs (Num.put (r.length + 1))).size ≤ 10 := by rw [Num.bs_size]; exact Num.put_len10 (by omega)
  have p2 : (Num.bs (Num.put t0.toNat)).size ≤ 10 := by rw [Num.bs_size]; exact Num.put_len10 (by omega)
  have p3 : (Num.bs (Num.put (Num.zig v0))).size ≤ 10 := by rw [Num.bs_size]; exact Num.put_len10 (Num.zig_lt a3 a4)
  go_enter Try.func34, Try.ntmps34
  go_wp2_with fail
  refine (srefCheck_any _ _ ((t0, v0) :: r) _ HP.out (by simp; omega)).mono ?_
  rintro e w1 ⟨rfl, hb1⟩
  rw [HK.out]
  have x1 : w1.cell? ⟨b, off, none⟩ = some (.int .u64 t0) := by have := (hb1.cell (p := ⟨b, off + 0 * 2, none⟩) hbl).trans hc0.1; simpa using this
  have x2 : w1.cell? ⟨b, off + 1, none⟩ = some (.int .i64 v0) := by have := (hb1.cell (p := ⟨b, off + 0 * 2 + 1, none⟩) hbl).trans hc0.2; simpa using this
  clear hc0
  have inh : Nonempty (Ext w1) := Ext.some w1
  have y1 : ∀ x : Ext w1, x.w.cell? ⟨b, off, none⟩ = some (.int .u64 t0) := fun x => x.cell x1
  have y2 : ∀ x : Ext w1, x.w.cell? ⟨b, off + 1, none⟩ = some (.int .i64 v0) := fun x => x.cell x2
  have hwl : IntKind.u64.wrap ((r.length : Int) + 1) = (r.length : Int) + 1 := by rw [IntKind.wrap_u64]; omega
  have hlz : (0 : Int) < (r.length : Int) + 1 := by omega
  go_wp2_with fail
  refine wp_region_calm (by kernel_rfl) (by kernel_rfl) ?_
  repeat (go_big_quiet_step (first | (go_at_call 39; exact calm_of (refPut_int _ _ (by omega) (by omega))) | (go_at_call 60; exact calm_of (refPutInt_any _ _ (by omega) (by omega)))))
  refine wpQuiet_nil ?_
  intro _ hw'
  obtain ⟨xq, rfl⟩ := hw'
  have hbx := bl hb1 xq.below
  clear x1 x2 y1 y2 inh
  generalize xq.w = wc at *
  have H0 : Hid (Num.bs (Num.put (r.length + 1)) ++ Num.bs (Num.put t0.toNat) ++ Num.bs (Num.put (Num.zig v0)) = Num.bs (Smp.pfx (t0, v0) r 0)) := by
    rw [Smp.pfx_zero, bs_two, bs_two]; simp [Hid]
  go_wp2
  go_loopw [6, 5] (fun i o wr => ∃ k : Nat, k ≤ r.length ∧ i = .int .i64 ((k : Int) + 1) ∧ o = .string (Num.bs (Smp.pfx (t0, v0) r k)) ∧ Below w.heap.size w wr)
    (fun i _ _ => r.length + 1 - (intOf i).toNat)
  case atStart => exact ⟨0, Nat.zero_le _, rfl, by rw [← H0.out], hbx⟩
  case round =>
    obtain ⟨k, hk, rfl, rfl, hnx⟩ := hrel
    have hsz := hnx.size
    by_cases hlt : k < r.length
    · obtain ⟨b', off', t, v, t', v', hab, _, hz, hz', x3, x4, x5, x6, x7, x8⟩ := HP.out.get2 hnx (k := k) (by simp; omega)
      simp only [Option.some.injEq, Addr.mk.injEq, and_true] at hab
      obtain ⟨rfl, rfl⟩ := hab
      have inh : Nonempty (Ext wr) := Ext.some wr
      have y1 : ∀ x : Ext wr, x.w.cell? ⟨b, off + k * 2 + 1, none⟩ = some (.int .i64 v) := fun x => x.cell x4
      have y2 : ∀ x : Ext wr, x.w.cell? ⟨b, off + (k + 1) * 2 + 1, none⟩ = some (.int .i64 v') := fun x => x.cell x8
      have hkl : (k : Int) < (r.length : Int) := by omega
      have hkl2 : (k : Int) < (r.length : Int) + 1 := by omega
      have hwr : IntKind.i64.wrap (k : Int) = (k : Int) := by rw [IntKind.wrap_i64]; omega
      have hg0 : Smp.gt ((t0, v0) :: r) k = (t, v) := by rw [gt_at (by simp; omega)]; exact hz
      have hg1 : Smp.gt ((t0, v0) :: r) (k + 1) = (t', v') := by rw [gt_at (by simp; omega)]; exact hz'
      have HN := hide (Smp.pfx_next (a := (t0, v0)) hlt)
      have hpl := HPL.out k
      have hpl' := HPL.out (k + 1)
      have HS1 := hide (fun (x : Ext wr) => step_at' (some ⟨b, off, none⟩) cap (t0, v0) r x.w (HP.out.below (bl hnx x.below)) (by omega) k hlt)
      have HS2 := hide (fun (x : Ext wr) => step_at (some ⟨b, off, none⟩) cap (t0, v0) r x.w (HP.out.below (bl hnx x.below)) (by omega) k (by omega))
      have HG0 := hide hg0
      have HG1 := hide hg1
      clear hz hz' x3 x5 x6 x7 hg0 hg1
      obtain ⟨dd, hdd⟩ : ∃ dd, wrap64 (IntKind.u64.wrap (Smp.stA (t0, v0) 0 r (k + 1) - Smp.stA (t0, v0) 0 r k)) = dd := ⟨_, rfl⟩
      obtain ⟨de, hde⟩ : ∃ de, wrap64 (v' - v) = de := ⟨_, rfl⟩
      have HD : Hid (dd = Smp.i (Smp.stp (Smp.gt ((t0, v0) :: r) k) (Smp.gt ((t0, v0) :: r) (k + 1)) - Smp.stA (t0, v0) 0 r k)) := by
        rw [← hdd, wu, w64, i_u]; exact rfl
      have HE : Hid (de = Smp.i ((Smp.gt ((t0, v0) :: r) (k + 1)).2 - (Smp.gt ((t0, v0) :: r) k).2)) := by
        rw [← hde, w64, HG0.out, HG1.out]; exact rfl
      have d1 : -9223372036854775808 ≤ dd ∧ dd ≤ 9223372036854775807 := by rw [HD.out]; exact Smp.i_bd _
      have d2 : -9223372036854775808 ≤ de ∧ de ≤ 9223372036854775807 := by rw [HE.out]; exact Smp.i_bd _
      obtain ⟨d1, d3⟩ := d1
      obtain ⟨d2, d4⟩ := d2
      have HN2 : Hid (Smp.pfx (t0, v0) r (k + 1) = Smp.pfx (t0, v0) r k ++ (Num.put (Num.zig dd) ++ Num.put (Num.zig de))) := by
        rw [HN.out, HD.out, HE.out]; exact rfl
      have l1 : (Num.bs (Smp.pfx (t0, v0) r k)).size ≤ 500 := by rw [Num.bs_size]; exact hpl
      have l2 : (Num.bs (Num.put (Num.zig dd))).size ≤ 10 := by rw [Num.bs_size]; exact Num.put_len10 (Num.zig_lt d1 d3)
      have l3 : (Num.bs (Num.put (Num.zig de))).size ≤ 10 := by rw [Num.bs_size]; exact Num.put_len10 (Num.zig_lt d2 d4)
      clear hpl hpl'
      go_wp2_with fail
      refine wp_region_calm (by kernel_rfl) (by kernel_rfl) ?_
      repeat (go_big_quiet_step (first | (go_at_call 61; first | with_reducible exact calm_of (HS1.out _) | with_reducible exact calm_of (HS2.out _)) | (go_at_call 60; exact calm_of (refPutInt_any _ _ (by assumption) (by assumption)))))
      refine wpQuiet_nil ?_
      intro _ hw'
      obtain ⟨xq, rfl⟩ := hw'
      have hbq := bl hnx xq.below
      clear x4 x8 y1 y2 inh HS1 HS2
      generalize xq.w = wd at *
      go_wp2
      go_roundw
      case rel =>
        refine ⟨k + 1, by omega, by go_num, ?_, hbq⟩
        rw [HN2.out, ← bs_two, ← bs_two]
        simp only [ByteArray.append_assoc]
      case measure => simp [intOf]; omega
    · go_wp2
      go_ret2
      exact ⟨sret_put HK.out (Smp.pfx_end (k := k) (by omega)), hnx⟩

theorem refPut_call (a : Option Addr) (cap : Nat) (ss : List Sm) (w : World) (hp : SmpsAt w a ss) (hl : ss.length ≤ 9223372036854775807) (ho : ∀ x ∈ ss, Smp.Ok x) :
    Calls Try.prog 34 #[.slice a ss.length cap] w fun e w' => e = .returned (putV ss) ∧ Below w.heap.size w w' := by
  by_cases h : Smp.check ss = 0
  · match ss, (Smp.of_check h).1, hp, h, ho with
    | a0 :: r, _, hp, h, ho => exact refPut_good a cap a0 r w hp h ho
  · exact refPut_bad a cap ss w hp hl h

end Go.Proofs.Ytbjcphefaciihaa
