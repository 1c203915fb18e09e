/-
  The statements' own 'few' (it answers something), and the document's 'Same'.
-/
import Derived.Test.YtbjcphefaciihaaPairsW
import Derived.Test.YtbjcphefaciihaaCalm
namespace Go.Proofs.Ytbjcphefaciihaa
open Go.RowKit
open Lab (Pr)


theorem under_pair : Try.prog.underlying 53 = some (.struct (Try.prog.fieldsOf 53)) := by kernel_rfl
theorem fields_pair : ((Try.prog.fieldsOf 53).toList.map fun f => (f.name, f.type, f.offset)) = [("Name", 9, 0), ("Value", 9, 1)] := by kernel_rfl
theorem guard_pair (w : World) (x y : Operand) (xs ys : Array Value) : (eqGuard .neq 53 x y (.agg xs) (.agg ys)).run Try.prog w = .ok () w :=
  run_eqGuard_agg w .neq 53 x y xs ys (by kernel_rfl)
theorem neq_pair (w : World) (a b c d : ByteArray) : (binOp .neq 53 (.agg #[.string a, .string b]) (.agg #[.string c, .string d])).run Try.prog w = .ok (.bool (!(a.toList == c.toList && b.toList == d.toList))) w := by
  rw [run_neq_struct, run_equalIn_agg w 9999 53 _ _ under_pair (by kernel_rfl)]
  have h := fields_pair
  generalize (Try.prog.fieldsOf 53).toList = fs at h ⊢
  rw [List.map_eq_cons_iff] at h
  obtain ⟨f, fs', rfl, hf, h⟩ := h
  rw [List.map_eq_cons_iff] at h
  obtain ⟨g, fs'', rfl, hg, h⟩ := h
  rw [List.map_eq_nil_iff] at h
  subst h
  simp only [Prod.mk.injEq] at hf hg
  obtain ⟨n1, t1, o1⟩ := hf
  obtain ⟨n2, t2, o2⟩ := hg
  simp [Op.eqFields, n1, t1, o1, n2, t2, o2, go_sem]
  by_cases h1 : a.toList = c.toList <;> by_cases h2 : b.toList = d.toList <;> simp [h1, h2]

theorem same_step {la lb : List Pr} (hn : la.length = lb.length) {k : Nat} (hk : k < la.length) (h : la.take k = lb.take k) (e : la[k] = lb[k]) : la.take (k + 1) = lb.take (k + 1) := by
  rw [List.take_succ_eq_append_getElem hk, List.take_succ_eq_append_getElem (hn ▸ hk), h, e]
theorem same_bad {la lb : List Pr} (hn : la.length = lb.length) {k : Nat} (hk : k < la.length) (e : la[k] ≠ lb[k]'(hn ▸ hk)) : false = decide (la = lb) := by
  symm
  refine decide_eq_false fun h => e ?_
  subst h; rfl

set_option maxRecDepth 100000 in
set_option maxHeartbeats 1600000 in
theorem same_any (a : Option Addr) (ca : Nat) (la : List Pr) (b : Option Addr) (cb : Nat) (lb : List Pr) (w : World) (hp : PairsAt w a la) (hq : PairsAt w b lb) (hl : la.length ≤ 9223372036854775807) (_hl2 : lb.length ≤ 9223372036854775807) :
    Calls Try.prog 28 #[.slice a la.length ca, .slice b lb.length cb] w fun e w' => e = .returned (.bool (decide (la = lb))) ∧ Below w.heap.size w w' := by
  by_cases hn : la.length = lb.length
  · have HN := hide hn
    have HP := hide hp
    have HQ := hide hq
    rw [← hn]
    clear hp hq hn
    go_enter Try.func28, Try.ntmps28
    go_wp2
    go_loopw [5] (fun i wr => ∃ k : Nat, k ≤ la.length ∧ i = .int .i64 (k : Int) ∧ la.take k = lb.take k ∧ Below w.heap.size w wr)
      (fun i _ => la.length - (intOf i).toNat)
    case atStart => exact ⟨0, Nat.zero_le _, rfl, rfl, Below.refl _ _⟩
    case round =>
      obtain ⟨k, hk, rfl, hta, hnx⟩ := hrel
      have HT := hide hta
      clear hta
      by_cases hlt : k < la.length
      · obtain ⟨b1, off1, zn, zv, rfl, hbl1, hz, hc1, hc2⟩ := (unhide HP).get hnx hlt
        obtain ⟨b2, off2, yn, yv, rfl, hbl2, hy, hd1, hd2⟩ := (unhide HQ).get hnx (show k < lb.length by have := HN.out; omega)
        have HZ := hide hz
        have HY := hide hy
        clear hz hy
        have hki : (k : Int) < (la.length : Int) := by omega
        have hq1 := fun wx x y => guard_pair wx x y #[.string zn, .string zv] #[.string yn, .string yv]
        have hq2 := fun wx => neq_pair wx zn zv yn yv
        by_cases he : zn.toList = yn.toList ∧ zv.toList = yv.toList
        · have hb : (zn.toList == yn.toList && zv.toList == yv.toList) = true := by simp [he.1, he.2]
          rw [hb] at hq2
          have HE : Hid (la[k] = lb[k]'(HN.out ▸ hlt)) := by rw [HZ.out, HY.out, Lab.bytes_ext he.1, Lab.bytes_ext he.2]; exact rfl
          clear hb he
          go_wp2_with fail
          go_quiet (fail)
          go_wp2
          go_roundw
          case rel => exact ⟨k + 1, by omega, by go_num, same_step HN.out hlt HT.out HE.out, ⟨hnx.os, hnx.tape, hnx.output, hnx.size, hnx.block⟩⟩
          case measure => simp [intOf]; omega
        · have hb : (zn.toList == yn.toList && zv.toList == yv.toList) = false := by
            refine Bool.eq_false_iff.2 fun h => he ?_
            simpa using h
          rw [hb] at hq2
          have HE : Hid (la[k] ≠ lb[k]'(HN.out ▸ hlt)) := by
            rw [HZ.out, HY.out]
            refine hide fun e => he ?_
            injection e with e1 e2
            rw [e1, e2]; exact ⟨rfl, rfl⟩
          clear hb he
          go_wp2_with fail
          go_quiet (fail)
          go_wp2
          go_ret
          exact ⟨ret_b (same_bad HN.out hlt HE.out), ⟨hnx.os, hnx.tape, hnx.output, hnx.size, hnx.block⟩⟩
      · go_wp2
        go_ret
        refine ⟨ret_b (Eq.symm (decide_eq_true ?_)), hnx⟩
        have := HT.out
        rwa [List.take_of_length_le (by omega), List.take_of_length_le (by have := HN.out; omega)] at this
  · have hne : ((la.length : Int) == (lb.length : Int)) = false := beq_eq_false_iff_ne.2 (by omega)
    go_enter Try.func28, Try.ntmps28
    go_wp2
    go_ret
    exact ⟨ret_b (decide_eq_false (fun e => hn (by rw [e]))).symm, Below.refl _ _⟩

end Go.Proofs.Ytbjcphefaciihaa
