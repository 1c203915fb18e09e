/-
  Put.
-/
import Derived.Test.YtbjcphefaciihaaSmpKeepW
namespace Go.Proofs.Ytbjcphefaciihaa
open Go.RowKit
open Smp (Sm)

def putV (ss : List Sm) : Value := if Smp.check ss = 0 then .tuple #[.string (Num.bs (Smp.putS ss)), .int .i64 0] else .tuple #[.string ⟨#[]⟩, .int .i64 (Smp.check ss)]
theorem putV_ok {ss : List Sm} (h : Smp.check ss = 0) : putV ss = .tuple #[.string (Num.bs (Smp.putS ss)), .int .i64 0] := by unfold putV; rw [if_pos h]
theorem putV_no {ss : List Sm} (h : Smp.check ss ≠ 0) : putV ss = .tuple #[.string ⟨#[]⟩, .int .i64 (Smp.check ss)] := by unfold putV; rw [if_neg h]
theorem ret_v {a b : Value} (h : a = b) : Ending.returned a = .returned b := by rw [h]
theorem sret_put {ss : List Sm} {x : List UInt8} (hk : Smp.check ss = 0) (h : x = Smp.putS ss) : Ending.returned (.tuple #[.string (Num.bs x), .int .i64 0]) = .returned (putV ss) := by rw [putV_ok hk, h]
theorem gt_at {ss : List Sm} {k : Nat} (h : k < ss.length) : Smp.gt ss k = ss[k] := by simp [Smp.gt, h]

set_option maxRecDepth 100000 in
set_option maxHeartbeats 800000 in
theorem put_bad (a : Option Addr) (cap : Nat) (ss : List Sm) (w : World) (hp : SmpsAt w a ss) (hc : ss.length ≤ cap) (hl : ss.length ≤ 9223372036854775807) (hbad : Smp.check ss ≠ 0) :
    Calls Try.prog 31 #[.slice a ss.length cap] w fun e w' => e = .returned (putV ss) ∧ Below w.heap.size w w' := by
  have HP := hide hp
  clear hp
  have hne : (Smp.check ss == 0) = false := beq_eq_false_iff_ne.2 hbad
  have HB := hide hbad
  clear hbad
  go_enter Try.func31, Try.ntmps31
  go_wp2_with fail
  refine (scheck_any _ _ _ _ HP.out hc hl).mono ?_
  rintro e w1 ⟨rfl, hb1⟩
  go_wp2
  go_ret2
  exact ⟨ret_v (putV_no HB.out).symm, hb1⟩

set_option maxRecDepth 100000 in
set_option maxHeartbeats 1600000 in
theorem put_good (a : Option Addr) (cap : Nat) (a0 : Sm) (r : List Sm) (w : World) (hp : SmpsAt w a (a0 :: r)) (hc : r.length + 1 ≤ cap) (hok : Smp.check (a0 :: r) = 0) (ho : ∀ x ∈ a0 :: r, Smp.Ok x) :
    Calls Try.prog 31 #[.slice a (r.length + 1) cap] w fun e w' => e = .returned (putV (a0 :: r)) ∧ Below w.heap.size w w' := by
  have hr : r.length < 20 := by have := (Smp.of_check hok).2.1; simp at this; omega
  obtain ⟨b, off, rfl, hbl, hcell⟩ := hp 0 (by simp)
  have hc0 := hcell 0 (by simp)
  simp only [List.getElem_cons_zero] at hc0
  have HP := hide hp
  have HO := hide ho
  have HK := hide hok
  have oka := ho a0 (List.mem_cons_self ..)
  have HPL := hide (fun k => Smp.pfx_len (r := r) oka hr k)
  obtain ⟨a1, a2, a3, a4⟩ := oka
  obtain ⟨t0, v0⟩ := a0
  clear hp ho hok hcell
  have p1 : (Num.bs (Num.put (r.length + 1))).size ≤ 10 := by rw [Num.bs_size]; exact Num.put_len10 (by omega)
  have p2 : (Num.bs (Num.put t0.toNat)).size ≤ 10 := by rw [Num.bs_size]; exact Num.put_len10 (by omega)
  have p3 : (Num.bs (Num.put (Num.zig v0))).size ≤ 10 := by rw [Num.bs_size]; exact Num.put_len10 (Num.zig_lt a3 a4)
  go_enter Try.func31, Try.ntmps31
  go_wp2_with fail
  refine (scheck_any _ _ ((t0, v0) :: r) _ HP.out (by simpa using hc) (by simp; omega)).mono ?_
  rintro e w1 ⟨rfl, hb1⟩
  rw [HK.out]
  have e1 : w1.cell? ⟨b, off, none⟩ = some (.int .u64 t0) := by have := (hb1.cell (p := ⟨b, off + 0 * 2, none⟩) hbl).trans hc0.1; simpa using this
  have e2 : w1.cell? ⟨b, off + 1, none⟩ = some (.int .i64 v0) := by have := (hb1.cell (p := ⟨b, off + 0 * 2 + 1, none⟩) hbl).trans hc0.2; simpa using this
  clear hc0
  have hal := hb1.alloc hb1.size (Obj.cells #[.int .u64 t0, .int .i64 v0] 67)
  go_wp2_with fail
  obtain ⟨wa, hwa⟩ : ∃ wa, wa = w1.alloc (Obj.cells #[.int .u64 t0, .int .i64 v0] 67) := ⟨_, rfl⟩
  have x1 : wa.cell? ⟨w1.heap.size, 0, none⟩ = some (.int .u64 t0) := by rw [hwa]; simp
  have x2 : wa.cell? ⟨w1.heap.size, 1, none⟩ = some (.int .i64 v0) := by rw [hwa]; simp
  rw [← hwa] at hal ⊢
  clear hwa
  have inh : Nonempty (Ext wa) := Ext.some wa
  have y1 : ∀ x : Ext wa, x.w.cell? ⟨w1.heap.size, 0, none⟩ = some (.int .u64 t0) := fun x => x.cell x1
  have y2 : ∀ x : Ext wa, x.w.cell? ⟨w1.heap.size, 1, none⟩ = some (.int .i64 v0) := fun x => x.cell x2
  have hwl : IntKind.u64.wrap ((r.length : Int) + 1) = (r.length : Int) + 1 := by rw [IntKind.wrap_u64]; omega
  refine wp_region_calm (by kernel_rfl) (by kernel_rfl) ?_
  repeat (go_big_quiet_step (first | (go_at_call 50; exact calm_of (put_int _ _ (by omega) (by omega))) | (go_at_call 52; exact calm_of (putInt_any _ _ (by omega) (by omega)))))
  refine wpQuiet_nil ?_
  intro _ hw'
  obtain ⟨xq, rfl⟩ := hw'
  have hbx := bl hal xq.below
  have z1 := xq.cell x1
  have z2 := xq.cell x2
  clear x1 x2 y1 y2 inh
  generalize xq.w = wc at *
  go_wp2_with fail
  refine (changesFrom_any t0 v0 wc).mono ?_
  rintro e w2 ⟨A, A', rfl, hA, hA', hkeep, hb2⟩
  have hb3 := bl hbx hb2
  have hAw : w.heap.size ≤ A := Nat.le_trans hbx.size hA
  have hAw' : w.heap.size ≤ A' := Nat.le_trans hbx.size hA'
  have H0 : Hid (Num.bs (Num.put (r.length + 1)) ++ Num.bs (Num.put t0.toNat) ++ Num.bs (Num.put (Num.zig v0)) = Num.bs (Smp.pfx (t0, v0) r 0)) := by
    rw [Smp.pfx_zero, bs_two, bs_two]; simp [Hid]
  have hbelow := hb3
  clear hal hbx hb2 hA hA' z1 z2 hb1 e1 e2
  by_cases hc1 : cap = 1
  · have hr0 : (r.length : Int) ≤ 0 := by omega
    subst hc1
    go_wp2
    go_loopw [35, 6] (fun i o wr => i = .int .i64 0 ∧ o = .string (Num.bs (Smp.pfx (t0, v0) r 0)) ∧ wr = w2) (fun _ _ _ => 0)
    case atStart => exact ⟨rfl, by rw [← H0.out], rfl⟩
    case round =>
      obtain ⟨rfl, rfl, rfl⟩ := hrel
      go_wp2
      go_ret2
      exact ⟨sret_put HK.out (Smp.pfx_end (k := 0) (by omega)), hbelow⟩
  · go_wp2
    go_loopw [35, 6] (fun i o wr => ∃ k : Nat, k ≤ r.length ∧ i = .int .i64 (k : Int) ∧ o = .string (Num.bs (Smp.pfx (t0, v0) r k)) ∧ Keep wr A A' (Smp.gt ((t0, v0) :: r) k) (Smp.stA (t0, v0) 0 r k) ∧ Below w.heap.size w wr)
      (fun i _ _ => r.length - (intOf i).toNat)
    case atStart => exact ⟨0, Nat.zero_le _, rfl, by rw [← H0.out], hkeep, hbelow⟩
    case round =>
      obtain ⟨k, hk, rfl, rfl, hkp, hnx⟩ := hrel
      have hsz := hnx.size
      by_cases hlt : k < r.length
      · obtain ⟨b', off', t, v, t', v', hab, _, hz, hz', _, _, c3, c4, _, _⟩ := HP.out.get2 hnx (k := k) (by simp; omega)
        simp only [Option.some.injEq, Addr.mk.injEq, and_true] at hab
        obtain ⟨rfl, rfl⟩ := hab
        have hkl : (k : Int) < (r.length : Int) := by omega
        have hal := hnx.alloc hsz (Obj.cells #[.int .u64 t', .int .i64 v'] 67)
        have hg1 : Smp.gt ((t0, v0) :: r) (k + 1) = (t', v') := by rw [gt_at (by simp; omega)]; exact hz'
        have hkp' := hkp.below ((Below.refl wr.heap.size wr).alloc (Nat.le_refl _) (Obj.cells #[.int .u64 t', .int .i64 v'] 67))
        have HN := hide (Smp.pfx_next (a := (t0, v0)) hlt)
        have hpl := HPL.out k
        have hpl' := HPL.out (k + 1)
        have hlA := hkp.lt
        clear hz hz' hkp
        go_wp2_with fail
        refine (change_any A A' _ _ (t', v') _ hkp').mono ?_
        rintro e w3 ⟨rfl, hU⟩
        obtain ⟨d1, d2⟩ := Smp.i_bd (Smp.stp (Smp.gt ((t0, v0) :: r) k) (t', v') - Smp.stA (t0, v0) 0 r k)
        obtain ⟨d3, d4⟩ := Smp.i_bd (v' - (Smp.gt ((t0, v0) :: r) k).2)
        have hbu := hU.below (B := w.heap.size) (by simp; omega) hAw hAw'
        have hb4 := hal.trans hbu
        have hkq := hU.1
        have HN2 : Hid (Smp.pfx (t0, v0) r (k + 1) = Smp.pfx (t0, v0) r k ++ (Num.put (Num.zig (Smp.i (Smp.stp (Smp.gt ((t0, v0) :: r) k) (t', v') - Smp.stA (t0, v0) 0 r k))) ++ Num.put (Num.zig (Smp.i (v' - (Smp.gt ((t0, v0) :: r) k).2))))) := by
          rw [HN.out, hg1]; exact rfl
        have HST : Hid (Smp.stp (Smp.gt ((t0, v0) :: r) k) (t', v') = Smp.stA (t0, v0) 0 r (k + 1)) := by
          rw [← hg1]; exact rfl
        have HG := hide hg1
        generalize Smp.stp (Smp.gt ((t0, v0) :: r) k) (t', v') = st' at *
        generalize Smp.i (st' - Smp.stA (t0, v0) 0 r k) = dd at *
        generalize Smp.i (v' - (Smp.gt ((t0, v0) :: r) k).2) = de at *
        clear hU hbu hkp' hg1 hal
        go_wp2_with fail
        refine (putChange_any dd de _ d1 d2 d3 d4).mono ?_
        rintro e w5 ⟨rfl, hb5⟩
        have hb6 := bl hb4 hb5
        have hkr := hkq.below hb5
        have l1 : (Num.bs (Smp.pfx (t0, v0) r k)).size ≤ 500 := by rw [Num.bs_size]; exact hpl
        have l2 : (Num.bs (Num.put (Num.zig dd) ++ Num.put (Num.zig de))).size ≤ 500 := by
          rw [Num.bs_size]
          rw [HN2.out, List.length_append] at hpl'
          omega
        clear hb4 hb5 hkq hpl hpl'
        go_wp2
        go_roundw
        case rel =>
          refine ⟨k + 1, by omega, by go_num, ?_, ?_, hb6⟩
          · rw [HN2.out, bs_two]
          · rw [HG.out, ← HST.out]; exact hkr
        case measure => simp [intOf]; omega
      · go_wp2
        go_ret2
        exact ⟨sret_put HK.out (Smp.pfx_end (k := k) (by omega)), hnx⟩

theorem put_call (a : Option Addr) (cap : Nat) (ss : List Sm) (w : World) (hp : SmpsAt w a ss) (hc : ss.length ≤ cap) (hl : ss.length ≤ 9223372036854775807) (ho : ∀ x ∈ ss, Smp.Ok x) :
    Calls Try.prog 31 #[.slice a ss.length cap] w fun e w' => e = .returned (putV ss) ∧ Below w.heap.size w w' := by
  by_cases h : Smp.check ss = 0
  · match ss, (Smp.of_check h).1, hp, hc, h, ho with
    | a0 :: r, _, hp, hc, h, ho => exact put_good a cap a0 r w hp (by simpa using hc) h ho
  · exact put_bad a cap ss w hp hc hl h

end Go.Proofs.Ytbjcphefaciihaa
