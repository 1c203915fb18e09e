/-
  Check, the document's own Check.
-/
import Derived.Test.YtbjcphefaciihaaSmpW
import Derived.BigQuiet
namespace Go.Proofs.Ytbjcphefaciihaa
open Go.RowKit
open Smp (Sm)

theorem up_next {ss : List Sm} {k : Nat} (h : ∀ j (hj : j + 1 < ss.length), j < k → (ss[j]).1 < (ss[j + 1]).1) (hk : k + 1 < ss.length) (h1 : (ss[k]).1 < (ss[k + 1]).1) : ∀ j (hj : j + 1 < ss.length), j < k + 1 → (ss[j]).1 < (ss[j + 1]).1 := by
  intro j hj hjk
  by_cases e : j = k
  · subst e; exact h1
  · exact h j hj (by omega)
theorem up_end {ss : List Sm} {k : Nat} (h : ∀ j (hj : j + 1 < ss.length), j < k → (ss[j]).1 < (ss[j + 1]).1) (hk : ¬ k + 1 < ss.length) : Smp.riseB ss = true :=
  (Smp.riseB_iff ss).2 fun j hj => h j hj (by omega)

theorem sbelow_drewN {B : Nat} {a w : World} (h : Below B a w) (n : Nat) : Below B a (w.drewN n) := ⟨h.os, h.tape, h.output, h.size, h.block⟩

set_option maxRecDepth 100000 in
set_option maxHeartbeats 1600000 in
theorem scheck_any (a : Option Addr) (cap : Nat) (ss : List Sm) (w : World) (hp : SmpsAt w a ss) (hc : ss.length ≤ cap) (hl : ss.length ≤ 9223372036854775807) :
    Calls Try.prog 42 #[.slice a ss.length cap] w fun e w' => e = .returned (.int .i64 (Smp.check ss)) ∧ Below w.heap.size w w' := by
  by_cases hm : ss.length = 0 ∨ 20 < ss.length
  · have HM := hide (Smp.check_many hm)
    rcases hm with h0 | h20
    · rw [h0]
      go_enter Try.func42, Try.ntmps42
      go_wp2
      go_ret
      exact ⟨sret_i HM.out.symm, Below.refl _ _⟩
    · have hb0 : ((ss.length : Int) == 0) = false := beq_eq_false_iff_ne.2 (by omega)
      go_enter Try.func42, Try.ntmps42
      go_wp2
      go_ret
      exact ⟨sret_i HM.out.symm, Below.refl _ _⟩
  · have HM := hide hm
    have h1 : 1 ≤ ss.length := by omega
    have h2 : ss.length ≤ 20 := by omega
    have hb0 : ((ss.length : Int) == 0) = false := beq_eq_false_iff_ne.2 (by omega)
    obtain ⟨b, off, rfl, hbl, _⟩ := hp 0 (by omega)
    have HP := hide hp
    clear hp
    by_cases hc1 : cap = 1
    · have hs1 : ss.length = 1 := by omega
      have HE : Hid (Smp.riseB ss = true) := hide ((Smp.riseB_iff ss).2 fun k hk => by omega)
      subst hc1
      rw [hs1]
      go_enter Try.func42, Try.ntmps42
      go_wp2
      go_loopw [16] (fun i wr => i = .int .i64 0 ∧ wr = w) (fun _ _ => 0)
      case atStart => exact ⟨rfl, rfl⟩
      case round =>
        obtain ⟨rfl, rfl⟩ := hrel
        go_wp2
        go_ret
        exact ⟨sret_i (Smp.check_ok HM.out HE.out).symm, Below.refl _ _⟩
    · go_enter Try.func42, Try.ntmps42
      go_wp2
      go_loopw [16] (fun i wr => ∃ k : Nat, k + 1 ≤ ss.length ∧ i = .int .i64 (k : Int) ∧ Hid (∀ j (hj : j + 1 < ss.length), j < k → (ss[j]).1 < (ss[j + 1]).1) ∧ Below w.heap.size w wr)
        (fun i _ => ss.length - (intOf i).toNat)
      case atStart => exact ⟨0, by omega, rfl, hide fun j hj h => by omega, Below.refl _ _⟩
      case round =>
        obtain ⟨k, hk, rfl, hup, hnx⟩ := hrel
        have hsz := hnx.size
        by_cases hlt : k + 1 < ss.length
        · obtain ⟨b', off', t, v, t', v', hab, hbl', hz, hz', c1, c2, c3, c4, _, _⟩ := HP.out.get2 hnx hlt
          simp only [Option.some.injEq, Addr.mk.injEq, and_true] at hab
          obtain ⟨rfl, rfl⟩ := hab
          have hal := hnx.alloc hsz (Obj.cells #[.int .u64 t', .int .i64 v'] 67)
          have c1' : ∀ nq, ((wr.alloc (Obj.cells #[.int .u64 t', .int .i64 v'] 67)).drewN nq).cell? ⟨b, off + k * 2, none⟩ = some (.int .u64 t) := fun nq => by simp; exact (((Below.refl wr.heap.size wr).alloc (Nat.le_refl _) _).cell (p := ⟨b, off + k * 2, none⟩) (by show b < _; omega)).trans c1
          have hkl : (k : Int) < ((ss.length - 1 : Nat) : Int) := by omega
          have hkl2 : (k : Int) < (ss.length : Int) := by omega
          have HZ := hide hz
          have HZ' := hide hz'
          clear hz hz'
          by_cases hle : t' ≤ t
          · have HB : Hid (Smp.riseB ss = false) := hide (Smp.riseB_no hlt (by rw [HZ.out, HZ'.out]; exact hle))
            go_wp2_with fail
            go_quiet (fail)
            go_wp2
            go_ret
            exact ⟨sret_i (Smp.check_order HM.out HB.out).symm, sbelow_drewN hal _⟩
          · go_wp2_with fail
            go_quiet (fail)
            go_wp2
            go_roundw
            case rel => exact ⟨k + 1, by omega, by go_num, hide (up_next hup.out hlt (by rw [HZ.out, HZ'.out]; show t < t'; omega)), sbelow_drewN hal _⟩
            case measure => simp [intOf]; omega
        · have HR := hide (up_end hup.out hlt)
          go_wp2
          go_ret
          exact ⟨sret_i (Smp.check_ok HM.out HR.out).symm, hnx⟩

set_option maxRecDepth 100000 in
set_option maxHeartbeats 1600000 in
theorem srefCheck_any (a : Option Addr) (cap : Nat) (ss : List Sm) (w : World) (hp : SmpsAt w a ss) (hl : ss.length ≤ 9223372036854775807) :
    Calls Try.prog 44 #[.slice a ss.length cap] w fun e w' => e = .returned (.int .i64 (Smp.check ss)) ∧ Below w.heap.size w w' := by
  by_cases hm : ss.length = 0 ∨ 20 < ss.length
  · have HM := hide (Smp.check_many hm)
    rcases hm with h0 | h20
    · rw [h0]
      go_enter Try.func44, Try.ntmps44
      go_wp2
      go_ret
      exact ⟨sret_i HM.out.symm, Below.refl _ _⟩
    · go_enter Try.func44, Try.ntmps44
      go_wp2
      go_ret
      exact ⟨sret_i HM.out.symm, Below.refl _ _⟩
  · have HM := hide hm
    have h1 : 1 ≤ ss.length := by omega
    have h2 : ss.length ≤ 20 := by omega
    have HP := hide hp
    clear hp
    go_enter Try.func44, Try.ntmps44
    go_wp2
    go_loopw [3] (fun i wr => ∃ k : Nat, k + 1 ≤ ss.length ∧ i = .int .i64 ((k : Int) + 1) ∧ Hid (∀ j (hj : j + 1 < ss.length), j < k → (ss[j]).1 < (ss[j + 1]).1) ∧ Below w.heap.size w wr)
      (fun i _ => ss.length - (intOf i).toNat)
    case atStart => exact ⟨0, by omega, rfl, hide fun j hj h => by omega, Below.refl _ _⟩
    case round =>
      obtain ⟨k, hk, rfl, hup, hnx⟩ := hrel
      have hsz := hnx.size
      by_cases hlt : k + 1 < ss.length
      · obtain ⟨b, off, t, v, t', v', rfl, hbl', hz, hz', c1, c2, c3, c4, c5, c6⟩ := HP.out.get2 hnx hlt
        have hkl : (k : Int) + 1 < (ss.length : Int) := by omega
        have hkl2 : (k : Int) < (ss.length : Int) := by omega
        have hwr : IntKind.i64.wrap (k : Int) = (k : Int) := by rw [IntKind.wrap_i64]; omega
        have HZ := hide hz
        have HZ' := hide hz'
        clear hz hz'
        by_cases hle : t' ≤ t
        · have HB : Hid (Smp.riseB ss = false) := hide (Smp.riseB_no hlt (by rw [HZ.out, HZ'.out]; exact hle))
          go_wp2_with fail
          go_quiet (fail)
          go_wp2
          go_ret
          exact ⟨sret_i (Smp.check_order HM.out HB.out).symm, sbelow_drewN hnx _⟩
        · go_wp2_with fail
          go_quiet (fail)
          go_wp2
          go_roundw
          case rel => exact ⟨k + 1, by omega, by go_num, hide (up_next hup.out hlt (by rw [HZ.out, HZ'.out]; show t < t'; omega)), sbelow_drewN hnx _⟩
          case measure => simp [intOf]; omega
      · have HR := hide (up_end hup.out hlt)
        go_wp2
        go_ret
        exact ⟨sret_i (Smp.check_ok HM.out HR.out).symm, hnx⟩

theorem ret_u {a b : Int} (h : a = b) : Ending.returned (.int .u64 a) = .returned (.int .u64 b) := by rw [h]
set_option maxRecDepth 100000 in
set_option maxHeartbeats 400000 in
theorem step_zero (a : Option Addr) (len cap : Nat) (w : World) :
    Calls Try.prog 61 #[.slice a len cap, .int .i64 0] w fun e w' => e = .returned (.int .u64 0) ∧ Below w.heap.size w w' := by
  go_enter Try.func61, Try.ntmps61
  go_wp2
  go_ret
  exact ⟨rfl, Below.refl _ _⟩
set_option maxRecDepth 100000 in
set_option maxHeartbeats 400000 in
theorem step_succ (a : Option Addr) (cap : Nat) (ss : List Sm) (w : World) (hp : SmpsAt w a ss) (hl : ss.length ≤ 9223372036854775807) (k : Nat) (hk : k + 1 < ss.length) :
    Calls Try.prog 61 #[.slice a ss.length cap, .int .i64 ((k : Int) + 1)] w fun e w' => e = .returned (.int .u64 (Smp.stp ss[k] ss[k + 1])) ∧ Below w.heap.size w w' := by
  obtain ⟨b, off, t, v, t', v', rfl, hbl', hz, hz', c1, c2, c3, c4, c5, c6⟩ := hp.get2 (Below.refl _ _) hk
  have hkl : (k : Int) + 1 < (ss.length : Int) := by omega
  have hkl2 : (k : Int) < (ss.length : Int) := by omega
  have hwr : IntKind.i64.wrap (k : Int) = (k : Int) := by rw [IntKind.wrap_i64]; omega
  have hne : (((k : Int) + 1) == 0) = false := beq_eq_false_iff_ne.2 (by omega)
  have HZ := hide hz
  have HZ' := hide hz'
  clear hz hz' hp
  go_enter Try.func61, Try.ntmps61
  go_wp2_with fail
  go_quiet (fail)
  go_wp2
  go_ret
  exact ⟨ret_u (by rw [HZ.out, HZ'.out, wu]; rfl), sbelow_drewN (Below.refl _ _) _⟩

theorem under_smp : Try.prog.underlying 67 = some (.struct (Try.prog.fieldsOf 67)) := by kernel_rfl
theorem fields_smp : ((Try.prog.fieldsOf 67).toList.map fun f => (f.name, f.type, f.offset)) = [("At", 38, 0), ("Value", 2, 1)] := by kernel_rfl
theorem guard_smp (w : World) (x y : Operand) (xs ys : Array Value) : (eqGuard .neq 67 x y (.agg xs) (.agg ys)).run Try.prog w = .ok () w :=
  run_eqGuard_agg w .neq 67 x y xs ys (by kernel_rfl)
theorem neq_smp (w : World) (a b c d : Int) : (binOp .neq 67 (.agg #[.int .u64 a, .int .i64 b]) (.agg #[.int .u64 c, .int .i64 d])).run Try.prog w = .ok (.bool (!(a == c && b == d))) w := by
  rw [run_neq_struct, run_equalIn_agg w 9999 67 _ _ under_smp (by kernel_rfl)]
  have h := fields_smp
  generalize (Try.prog.fieldsOf 67).toList = fs at h ⊢
  rw [List.map_eq_cons_iff] at h
  obtain ⟨f, fs', rfl, hf, h⟩ := h
  rw [List.map_eq_cons_iff] at h
  obtain ⟨g, fs'', rfl, hg, h⟩ := h
  rw [List.map_eq_nil_iff] at h
  subst h
  simp only [Prod.mk.injEq] at hf hg
  obtain ⟨n1, t1, o1⟩ := hf
  obtain ⟨n2, t2, o2⟩ := hg
  simp [Op.eqFields, n1, t1, o1, n2, t2, o2, go_sem]
  by_cases h1 : a = c <;> by_cases h2 : b = d <;> simp [h1, h2]

theorem ssame_step {la lb : List Sm} (hn : la.length = lb.length) {k : Nat} (hk : k < la.length) (h : la.take k = lb.take k) (e : la[k] = lb[k]) : la.take (k + 1) = lb.take (k + 1) := by
  rw [List.take_succ_eq_append_getElem hk, List.take_succ_eq_append_getElem (hn ▸ hk), h, e]
theorem ssame_bad {la lb : List Sm} (hn : la.length = lb.length) {k : Nat} (hk : k < la.length) (e : la[k] ≠ lb[k]'(hn ▸ hk)) : false = decide (la = lb) := by
  symm
  refine decide_eq_false fun h => e ?_
  subst h; rfl

set_option maxRecDepth 100000 in
set_option maxHeartbeats 1600000 in
theorem ssame_any (a : Option Addr) (ca : Nat) (la : List Sm) (b : Option Addr) (cb : Nat) (lb : List Sm) (w : World) (hp : SmpsAt w a la) (hq : SmpsAt w b lb) (hl : la.length ≤ 9223372036854775807) (_hl2 : lb.length ≤ 9223372036854775807) :
    Calls Try.prog 29 #[.slice a la.length ca, .slice b lb.length cb] w fun e w' => e = .returned (.bool (decide (la = lb))) ∧ Below w.heap.size w w' := by
  by_cases hn : la.length = lb.length
  · have HN := hide hn
    have HP := hide hp
    have HQ := hide hq
    rw [← hn]
    clear hp hq hn
    go_enter Try.func29, Try.ntmps29
    go_wp2
    go_loopw [5] (fun i wr => ∃ k : Nat, k ≤ la.length ∧ i = .int .i64 (k : Int) ∧ la.take k = lb.take k ∧ Below w.heap.size w wr)
      (fun i _ => la.length - (intOf i).toNat)
    case atStart => exact ⟨0, Nat.zero_le _, rfl, rfl, Below.refl _ _⟩
    case round =>
      obtain ⟨k, hk, rfl, hta, hnx⟩ := hrel
      have HT := hide hta
      clear hta
      by_cases hlt : k < la.length
      · obtain ⟨b1, off1, zn, zv, rfl, hbl1, hz, hc1, hc2⟩ := (unhide HP).get hnx hlt
        obtain ⟨b2, off2, yn, yv, rfl, hbl2, hy, hd1, hd2⟩ := (unhide HQ).get hnx (show k < lb.length by have := HN.out; omega)
        have HZ := hide hz
        have HY := hide hy
        clear hz hy
        have hki : (k : Int) < (la.length : Int) := by omega
        have hq1 := fun wx x y => guard_smp wx x y #[.int .u64 zn, .int .i64 zv] #[.int .u64 yn, .int .i64 yv]
        have hq2 := fun wx => neq_smp wx zn zv yn yv
        by_cases he : zn = yn ∧ zv = yv
        · have hb : (zn == yn && zv == yv) = true := by simp [he.1, he.2]
          rw [hb] at hq2
          have HE : Hid (la[k] = lb[k]'(HN.out ▸ hlt)) := by rw [HZ.out, HY.out, he.1, he.2]; exact rfl
          clear hb he
          go_wp2_with fail
          go_quiet (fail)
          go_wp2
          go_roundw
          case rel => exact ⟨k + 1, by omega, by go_num, ssame_step HN.out hlt HT.out HE.out, sbelow_drewN hnx _⟩
          case measure => simp [intOf]; omega
        · have hb : (zn == yn && zv == yv) = false := by
            refine Bool.eq_false_iff.2 fun h => he ?_
            simpa using h
          rw [hb] at hq2
          have HE : Hid (la[k] ≠ lb[k]'(HN.out ▸ hlt)) := by
            rw [HZ.out, HY.out]
            refine hide fun e => he ?_
            injection e with e1 e2
            rw [e1, e2]; exact ⟨rfl, rfl⟩
          clear hb he
          go_wp2_with fail
          go_quiet (fail)
          go_wp2
          go_ret
          exact ⟨sret_b (ssame_bad HN.out hlt HE.out), sbelow_drewN hnx _⟩
      · go_wp2
        go_ret
        refine ⟨sret_b (Eq.symm (decide_eq_true ?_)), hnx⟩
        have := HT.out
        rwa [List.take_of_length_le (by omega), List.take_of_length_le (by have := HN.out; omega)] at this
  · have hne : ((la.length : Int) == (lb.length : Int)) = false := beq_eq_false_iff_ne.2 (by omega)
    go_enter Try.func29, Try.ntmps29
    go_wp2
    go_ret
    exact ⟨sret_b (decide_eq_false (fun e => hn (by rw [e]))).symm, Below.refl _ _⟩

end Go.Proofs.Ytbjcphefaciihaa
