/-
  The document's disk: names, but for one; Used, Read, Fail, Stop, New.
-/
import Derived.Test.YtleomppgkikhnaaGreatFirsts
import Derived.Test.YtleomppgkikhnaaGreatDskAct4W
namespace Go.Proofs.YtleomppgkikhnaaGreat
open Go.RowKit
open Dsk (By Dk)

theorem nmd_info : ∃ i, Tryz.prog.info? 77 = some i ∧ i.zero = some (.agg #[.string ByteArray.empty, .int .i64 0]) ∧ i.size = 2 ∧ i.bytes = 24 := by
  have h : (Tryz.prog.info? 77).map (fun i => (i.zero, i.size, i.bytes)) = some (some (.agg #[.string ByteArray.empty, .int .i64 0]), 2, 24) := by kernel_rfl
  obtain ⟨i, hi, e⟩ := Option.map_eq_some_iff.1 h
  simp only [Prod.mk.injEq] at e
  exact ⟨i, hi, e.1, e.2.1, e.2.2⟩
theorem unmds : Tryz.prog.underlying 75 = some (.slice 77) := by kernel_rfl
theorem grown_below {w w' : World} {base : Nat} {v : Value} {o : Obj} (hb : base ≤ w.heap.size) (hg : (w.alloc o).grownBy w' v.ownBlock) (hv : ∀ g, v.ownBlock = some g → base ≤ g) : Below base w w' := by
  have k : ∀ b, b < base → w'.heap[b]? = w.heap[b]? := fun b hb' => by
    rw [hg.block b (by simp; omega) (fun e => by have := hv b e.symm; omega), Below.heap_alloc _ _ b (by omega)]
  have hz := hg.size
  simp at hz
  exact ⟨hg.os, hg.tape, hg.output, by omega, k⟩
theorem two_new2 (w : World) (x y : Value) (t : TypeId) : ∀ j u, [x, y][j]? = some u → (w.alloc (.cells #[x, y] t)).cell? ((⟨w.heap.size, 0, none⟩ : Addr).add j) = some u := by
  intro j u hj
  rw [Addr.add_lit, Nat.zero_add]
  match j, hj with
  | 0, hj => simp at hj ⊢; exact hj
  | 1, hj => simp at hj ⊢; exact hj
/-- 'append(l, Named{..})': a row of the call's own. -/
theorem nmd_app {w : World} {base : Nat} {v : Value} {l : Dsk.Row} (h : w.ownsRow base 77 2 v l.length (nmdV l)) (n : ByteArray) (i : Nat) (hl : l.length ≤ 1000000000000) (hb : base ≤ w.heap.size) (ty : TypeId) :
    ∃ v' w', (Builtin.append_ #[75, 75] ty #[v, .slice (some ⟨w.heap.size, 0, none⟩) 1 1]).run Tryz.prog (w.alloc (.cells #[.string n, .int .i64 (i : Int)] 77)) = .ok v' w' ∧
      w'.ownsRow base 77 2 v' (l ++ [(n, i)]).length (nmdV (l ++ [(n, i)])) ∧ Below base w w' := by
  obtain ⟨ti, hi, hz, hs, hby⟩ := nmd_info
  obtain ⟨v', w', hr, ho, hg, _⟩ := app_own (w.alloc (.cells #[.string n, .int .i64 (i : Int)] 77)) base 75 ty 77 ti _ 2 24 unmds hi hz hs hby rfl (by decide) v l.length (nmdV l) (h.alloc _) ⟨w.heap.size, 0, none⟩ 1 1
    [.string n, .int .i64 (i : Int)] rfl (two_new2 _ _ _ _) (fun u hu => by simp at hu; rcases hu with rfl | rfl <;> rfl) (by unfold maxLen; omega) (by omega) (by simp; omega)
  refine ⟨v', w', hr, ?_, grown_below hb hg (fun g e => (h.lt g e).1)⟩
  rw [nmdV_app, List.length_append]
  exact ho
theorem wo_take {r : Dsk.Row} {k : Nat} (h : k < r.length) (n : ByteArray) : Dsk.without (r.take (k + 1)) n = Dsk.without (r.take k) n ++ (if r[k].1 = n then [] else [(r[k].1, r[k].2)]) := by
  unfold Dsk.without
  rw [List.take_succ_eq_append_getElem h, List.filter_append]
  congr 1
  by_cases e : r[k].1 = n <;> simp [e]
set_option maxRecDepth 100000 in
set_option maxHeartbeats 600000 in
theorem rwithout_at {w : World} {base0 : Nat} {v : Value} {r : Dsk.Row} (hv : w.ownsRow base0 77 2 v r.length (nmdV r)) (hr : r.length ≤ 1000000000000) (n : ByteArray) :
    Calls Tryz.prog 62 #[v, .string n] w fun e w' => ∃ v', e = .returned v' ∧ w'.ownsRow w.heap.size 77 2 v' (Dsk.without r n).length (nmdV (Dsk.without r n)) ∧ Below w.heap.size w w' := by
  obtain ⟨a, c, rfl⟩ := own_slice hv
  have HV := hide hv
  clear hv
  go_enter Tryz.func62, Tryz.ntmps62
  go_wp2
  go_loopw [5, 6] (fun v5 v6 wr => ∃ k : Nat, k ≤ r.length ∧ v6 = .int .i64 (k : Int) ∧ Hid (wr.ownsRow w.heap.size 77 2 v5 (Dsk.without (r.take k) n).length (nmdV (Dsk.without (r.take k) n))) ∧ Hid (Below w.heap.size w wr)) (fun _ v6 _ => r.length - (intOf v6).toNat)
  case atStart => exact ⟨0, Nat.zero_le _, rfl, hide (World.ownsRow_nil _ _ _ _), hide (Below.refl _ _)⟩
  case round =>
    obtain ⟨k, hk, rfl, HO, HB⟩ := hrel
    by_cases hlt : k < r.length
    · obtain ⟨g, c', e, hg, hcell, _, _⟩ := own_view HV.out (by omega)
      simp only [Value.slice.injEq] at e
      obtain ⟨rfl, _, rfl⟩ := e
      obtain ⟨n1, n2⟩ := nmdV_at hlt
      have v1 := (HB.out.cell (p := ⟨g, k * 2, none⟩) hg).trans (hcell _ _ n1)
      have v2 := (HB.out.cell (p := ⟨g, k * 2 + 1, none⟩) hg).trans (hcell _ _ n2)
      have hwt := wo_take hlt n
      obtain ⟨x, hx⟩ : ∃ x, r[k].1 = x := ⟨_, rfl⟩
      obtain ⟨y, hy⟩ : ∃ y, r[k].2 = y := ⟨_, rfl⟩
      rw [hx] at v1
      rw [hy] at v2
      rw [hx, hy] at hwt
      have HWT := hide hwt
      have hle : (Dsk.without (r.take k) n).length ≤ 1000000000000 := by
        have := List.length_filter_le (fun p : ByteArray × Nat => decide (p.1 ≠ n)) (r.take k)
        rw [List.length_take] at this
        unfold Dsk.without
        omega
      clear hcell n1 n2 hx hy hwt
      by_cases heq : x = n
      · have hb : (x.toList == n.toList) = true := by rw [Lab.eqB]; exact decide_eq_true heq
        have HEQ := hide heq
        clear heq
        go_wp2
        go_roundw
        case rel =>
          refine ⟨k + 1, by omega, by go_num, ?_, HB⟩
          rw [HWT.out, if_pos HEQ.out, List.append_nil]
          exact HO
        case measure => simp [intOf]; omega
      · have hb : (x.toList == n.toList) = false := by rw [Lab.eqB]; exact decide_eq_false heq
        have HEQ := hide heq
        clear heq
        obtain ⟨lv', w3, hr3, ho3, hb3⟩ := nmd_app HO.out x y hle HB.out.size 75
        obtain ⟨la, lc, hl3⟩ := own_slice HO.out
        subst hl3
        have HRR := hide hr3
        have HO3 := hide ho3
        have HB3 := hide (HB.out.trans hb3)
        clear hr3 ho3 hb3
        go_wp2_with (at_builtin; refine wpList_app_run rfl _ _ _ _ rfl rfl rfl HRR.out ?_)
        go_roundw
        case rel =>
          refine ⟨k + 1, by omega, by go_num, ?_, HB3⟩
          rw [HWT.out, if_neg HEQ.out]
          exact HO3
        case measure => simp [intOf]; omega
    · obtain rfl : k = r.length := by omega
      have ho := HO.out
      rw [List.take_length] at ho
      obtain ⟨la, lc, hl3⟩ := own_slice ho
      have HO3 := hide ho
      clear ho
      go_wp2
      go_ret
      exact ⟨_, rfl, HO3.out, HB.out⟩

/-! ## Used, Read -/
def usedTo (D : Dk) (r : Dsk.Row) : Nat := (r.map (fun p => (Dsk.now D p.2).length)).sum
theorem usedTo_take (D : Dk) {r : Dsk.Row} {k : Nat} (h : k < r.length) : usedTo D (r.take (k + 1)) = usedTo D (r.take k) + (Dsk.now D r[k].2).length := by
  unfold usedTo
  rw [List.take_succ_eq_append_getElem h, List.map_append, List.sum_append]
  simp
theorem usedTo_le (D : Dk) (r : Dsk.Row) (k : Nat) : usedTo D (r.take k) ≤ usedTo D r := by
  conv => rhs; rw [← List.take_append_drop k r]
  unfold usedTo
  rw [List.map_append, List.sum_append]
  omega
set_option maxRecDepth 100000 in
set_option maxHeartbeats 600000 in
theorem rused_dk {S : Nat → Prop} {w : World} {p : Nat} {D : Dk} {c : Nat} (H : IsRef S w p D c) (hc : c ≤ 10000000) :
    Calls Tryz.prog 32 #[.pointer (some ⟨p, 0, none⟩)] w fun e w' => e = .returned (.int .i64 ((Dsk.used D : Nat) : Int)) ∧ Below w.heap.size w w' := by
  obtain ⟨ok, bud, lim, fl, fv, dv, fs, ds, H⟩ := H
  have hu : Dsk.used D = usedTo D (Dsk.dir D) := rfl
  have hub := bud.used ok
  have hcc : c * c ≤ 10000000 * 10000000 := Nat.mul_le_mul hc hc
  rw [hu] at hub ⊢
  have hdl := bud.dirs
  have hrl := bud.rows _ (Dsk.dir_mem ok.some)
  have hfl := bud.files
  have hlt : ∀ x ∈ Dsk.dir D, x.2 < D.files.length := fun x hx => (ok.row.1 x hx).2
  have hhs : ∀ i, i < D.files.length → (Dsk.hist D i).length ≤ 1000000000000 := fun i hi => by have := bud.hists _ (Dsk.hist_mem hi); omega
  have hnow : ∀ i, (Dsk.now D i).length ≤ 10000000 := fun i => Nat.le_trans (bud.now ok i) hc
  obtain ⟨r, hr⟩ : ∃ r, Dsk.dir D = r := ⟨_, rfl⟩
  rw [hr] at hub hrl hlt ⊢
  have HRE := hide hr
  have HH := hide H
  have HOK := hide ok
  have HLT := hide hlt
  have HHS := hide hhs
  have HNW := hide hnow
  clear H bud hlt hhs hnow hr
  go_enter Tryz.func32, Tryz.ntmps32
  go_wp2_with fail
  refine (rdir_at HH.out HOK.out (by omega)).mono ?_
  rintro e w1 ⟨v, rfl, hv, _, hb1⟩
  obtain ⟨a, cv, rfl⟩ := own_slice hv.1
  rw [HRE.out] at hv ⊢
  have HV := hide hv
  clear hv
  go_wp2
  go_loopw [3, 5] (fun v3 v5 wr => ∃ k : Nat, k ≤ r.length ∧ v5 = .int .i64 (k : Int) ∧ v3 = .int .i64 ((usedTo D (r.take k) : Nat) : Int) ∧ Hid (Below w.heap.size w wr)) (fun _ v5 _ => r.length - (intOf v5).toNat)
  case atStart => exact ⟨0, Nat.zero_le _, rfl, rfl, hide hb1⟩
  case round =>
    obtain ⟨k, hk, rfl, rfl, HB⟩ := hrel
    by_cases hlt : k < r.length
    · obtain ⟨g, c', e, hg, hcell, _, _⟩ := own_view HV.out.1 (by omega)
      simp only [Value.slice.injEq] at e
      obtain ⟨rfl, _, rfl⟩ := e
      obtain ⟨n1, n2⟩ := nmdV_at hlt
      have v2 := (HB.out.cell (p := ⟨g, k * 2 + 1, none⟩) hg).trans (hcell _ _ n2)
      have hut := usedTo_take D hlt
      have hyl := HLT.out _ (List.getElem_mem hlt)
      obtain ⟨y, hy⟩ : ∃ y, r[k].2 = y := ⟨_, rfl⟩
      rw [hy] at v2 hyl hut
      have hue := usedTo_le D r (k + 1)
      have HUT := hide hut
      obtain ⟨u, hu⟩ : ∃ u, usedTo D (r.take k) = u := ⟨_, rfl⟩
      have hu2 : u + (Dsk.now D y).length ≤ 1000000000000000 := by omega
      rw [hu]
      have HU := hide hu
      have hns : (Num.bs (Dsk.now D y)).size = (Dsk.now D y).length := Num.bs_size _
      have HNS := hide hns
      obtain ⟨s, hs⟩ : ∃ s, Num.bs (Dsk.now D y) = s := ⟨_, rfl⟩
      have hss : s.size = (Dsk.now D y).length := by rw [← hs]; exact hns
      have hsl : u + s.size ≤ 1000000000000000 := by omega
      have HS := hide hs
      have HSS := hide hss
      clear hcell n1 n2 hy hut hue hu hns hs hss hu2
      go_wp2_with fail
      refine (rnow_at (HH.out.below HB.out) HOK.out hyl (by omega) (HHS.out y hyl)).mono ?_
      rintro e w3 ⟨rfl, hb3⟩
      rw [HS.out]
      have HB3 := hide (bl HB.out hb3)
      clear hb3
      go_wp2
      go_roundw
      case rel => exact ⟨k + 1, by omega, by go_num, by rw [HUT.out, HU.out, ← HSS.out]; go_num, HB3⟩
      case measure => simp [intOf]; omega
    · obtain rfl : k = r.length := by omega
      rw [List.take_length]
      go_wp2
      go_ret
      exact ⟨rfl, HB.out⟩
theorem num_some (i : Nat) : numV (some i) = (i : Int) := rfl
set_option maxRecDepth 100000 in
set_option maxHeartbeats 600000 in
theorem rread_dk {S : Nat → Prop} {w : World} {p : Nat} {D : Dk} {c : Nat} (H : IsRef S w p D c) (n : ByteArray) (hc : c ≤ 10000000) :
    Calls Tryz.prog 33 #[.pointer (some ⟨p, 0, none⟩), .string n] w fun e w' => e = .returned (.tuple #[.string (Num.bs (Dsk.read n D).1), .int .i64 (Dsk.read n D).2]) ∧ Below w.heap.size w w' := by
  obtain ⟨ok, bud, lim, fl, fv, dv, fs, ds, H⟩ := H
  obtain ⟨_, _, _, _, _, c5, _⟩ := H.look
  have hdl := bud.dirs
  have hrl := bud.rows _ (Dsk.dir_mem ok.some)
  have hfl := bud.files
  by_cases h0 : D.left = 0
  · have e : Dsk.read n D = ([], 11) := by unfold Dsk.read; rw [if_pos h0]
    rw [e]
    rw [h0] at c5
    clear H e
    go_enter Tryz.func33, Tryz.ntmps33
    go_wp2
    go_ret2
    exact ⟨rfl, Below.refl _ _⟩
  have h0b : (D.left == 0) = false := beq_eq_false_iff_ne.2 h0
  have HH := hide H
  have HOK := hide ok
  cases hf : Dsk.find (Dsk.dir D) n with
  | none =>
    have e : Dsk.read n D = ([], 5) := by unfold Dsk.read; rw [if_neg h0, hf]
    rw [e]
    have HF := hide hf
    clear H e hf
    go_enter Tryz.func33, Tryz.ntmps33
    go_wp2_with fail
    refine (rnumber_at HH.out HOK.out (by omega) (by omega) n).mono ?_
    rintro e w1 ⟨rfl, hb1⟩
    rw [HF.out]
    have hnn : numV none < 0 := by decide
    go_wp2
    go_ret2
    exact ⟨rfl, hb1⟩
  | some i =>
    have e : Dsk.read n D = (Dsk.now D i, 0) := by unfold Dsk.read; rw [if_neg h0, hf]
    rw [e]
    have hil := Dsk.find_lt ok hf
    have hhs := bud.hists _ (Dsk.hist_mem hil)
    have HF := hide hf
    clear H e hf
    go_enter Tryz.func33, Tryz.ntmps33
    go_wp2_with fail
    refine (rnumber_at HH.out HOK.out (by omega) (by omega) n).mono ?_
    rintro e w1 ⟨rfl, hb1⟩
    rw [HF.out, num_some]
    have HB1 := hide hb1
    clear hb1
    go_wp2_with fail
    refine (rnow_at (HH.out.below HB1.out) HOK.out hil (by omega) (by omega)).mono ?_
    rintro e w2 ⟨rfl, hb2⟩
    have HB2 := hide (bl HB1.out hb2)
    clear hb2
    go_wp2
    go_ret2
    exact ⟨rfl, HB2.out⟩
set_option maxRecDepth 100000 in
set_option maxHeartbeats 600000 in
theorem rfail_dk {S : Nat → Prop} {w : World} {p : Nat} {D : Dk} {c : Nat} (H : IsRef S w p D c) (n : Int) (hn : n ≤ 9223372036854775807) :
    Calls Tryz.prog 26 #[.pointer (some ⟨p, 0, none⟩), .int .i64 n] w fun e w' => e = .returned (.tuple #[]) ∧ IsRef S w' p (Dsk.setFail n D) c ∧ Only S w w' := by
  obtain ⟨ok, bud, lim, fl, fv, dv, fs, ds, H⟩ := H
  obtain ⟨c0, c1, c2, c3, c4, c5, cf, hp⟩ := H.look
  obtain ⟨m, hm⟩ : ∃ m, n.toNat = m := ⟨_, rfl⟩
  have fin : IsRef S (w.setCell ⟨p, 4, none⟩ (.int .i64 (m : Int))) p (Dsk.setFail n D) c ∧ Only S w (w.setCell ⟨p, 4, none⟩ (.int .i64 (m : Int))) := by
    refine ⟨⟨Dsk.setFail_ok n ok, Dsk.bud_setFail n bud, ⟨lim.room, lim.left⟩, by show n.toNat ≤ _; omega, fv, dv, fs, ds, ?_⟩, H.only _ _⟩
    exact H.set (D' := Dsk.setFail n D) 4 _ (by simp [refArr, Dsk.setFail, hm]) rfl
  have FIN := hide fin
  clear fin H ok bud lim
  by_cases h0 : n < 0
  · obtain rfl : m = 0 := by omega
    go_enter Tryz.func26, Tryz.ntmps26
    go_wp2
    go_end0
    exact ⟨rfl, FIN.out⟩
  · obtain rfl : n = (m : Int) := by omega
    go_enter Tryz.func26, Tryz.ntmps26
    go_wp2
    go_end0
    exact ⟨rfl, FIN.out⟩
set_option maxRecDepth 100000 in
set_option maxHeartbeats 600000 in
theorem rstop_dk {S : Nat → Prop} {w : World} {p : Nat} {D : Dk} {c : Nat} (H : IsRef S w p D c) (n : Int) (hn : n ≤ 9223372036854775807) :
    Calls Tryz.prog 28 #[.pointer (some ⟨p, 0, none⟩), .int .i64 n] w fun e w' => e = .returned (.tuple #[]) ∧ IsRef S w' p (Dsk.setStop n D) c ∧ Only S w w' := by
  obtain ⟨ok, bud, lim, fl, fv, dv, fs, ds, H⟩ := H
  obtain ⟨c0, c1, c2, c3, c4, c5, cf, hp⟩ := H.look
  obtain ⟨m, hm⟩ : ∃ m, max n (-1) = m := ⟨_, rfl⟩
  have fin : IsRef S (w.setCell ⟨p, 5, none⟩ (.int .i64 m)) p (Dsk.setStop n D) c ∧ Only S w (w.setCell ⟨p, 5, none⟩ (.int .i64 m)) := by
    refine ⟨⟨Dsk.setStop_ok n ok, Dsk.bud_setStop n bud, ⟨lim.room, by show max n (-1) ≤ _; omega⟩, fl, fv, dv, fs, ds, ?_⟩, H.only _ _⟩
    exact H.set (D' := Dsk.setStop n D) 5 _ (by simp [refArr, Dsk.setStop, hm]) rfl
  have FIN := hide fin
  clear fin H ok bud lim
  by_cases h0 : n < -1
  · obtain rfl : m = -1 := by omega
    go_enter Tryz.func28, Tryz.ntmps28
    go_wp2
    go_end0
    exact ⟨rfl, FIN.out⟩
  · obtain rfl : n = m := by omega
    go_enter Tryz.func28, Tryz.ntmps28
    go_wp2
    go_end0
    exact ⟨rfl, FIN.out⟩
/-- A row of one. -/
theorem own_one {w : World} {g : Nat} {v : Value} {t : TypeId} (h : w.heap[g]? = some (.cells #[v] t (0, 0))) : w.ownsRow 0 t 1 (.slice (some ⟨g, 0, none⟩) 1 1) 1 [v] :=
  ⟨rfl, .inr ⟨g, 1, #[v], rfl, Nat.zero_le _, h, Nat.le_refl _, by unfold maxLen; omega, rfl, rfl⟩⟩
set_option maxRecDepth 100000 in
set_option maxHeartbeats 600000 in
theorem rnew_dk (room : Int) (w : World) (hr : room ≤ 9223372036854775807) :
    Calls Tryz.prog 7 #[.int .i64 room] w fun e w' => ∃ q, e = .returned (.pointer (some ⟨q, 0, none⟩)) ∧ IsRef (more noneS w w') w' q (Dsk.fresh room) 0 ∧ Below w.heap.size w w' := by
  have fin : ∀ (r : Nat), r = room.toNat → IsRef (more noneS w ((w.alloc (.cells #[.slice none 0 0] 75)).alloc (.cells (refArr ⟨r, [], [[]], 0, 0, -1⟩ (.slice none 0 0) (.slice (some ⟨w.heap.size, 0, none⟩) 1 1)) 53)))
      ((w.alloc (.cells #[.slice none 0 0] 75)).alloc (.cells (refArr ⟨r, [], [[]], 0, 0, -1⟩ (.slice none 0 0) (.slice (some ⟨w.heap.size, 0, none⟩) 1 1)) 53)) (w.heap.size + 1) (Dsk.fresh room) 0 := by
    intro r hrr
    have e : Dsk.fresh room = ⟨r, [], [[]], 0, 0, -1⟩ := by unfold Dsk.fresh; rw [hrr]
    rw [e]
    refine ⟨by rw [← e]; exact Dsk.fresh_ok room, by rw [← e]; exact Dsk.bud_fresh room, ⟨by show r ≤ _; omega, by show (-1 : Int) ≤ _; omega⟩, Nat.zero_le _, .slice none 0 0, .slice (some ⟨w.heap.size, 0, none⟩) 1 1, [], [.slice none 0 0], ?_⟩
    have hb1 : ((w.alloc (.cells #[.slice none 0 0] 75)).alloc (.cells (refArr ⟨r, [], [[]], 0, 0, -1⟩ (.slice none 0 0) (.slice (some ⟨w.heap.size, 0, none⟩) 1 1)) 53)).heap[w.heap.size]? = some (.cells #[.slice none 0 0] 75 (0, 0)) := by
      rw [Below.heap_alloc _ _ _ (by simp)]
      exact heap_new _ _
    refine ⟨?_, World.ownsRow_nil _ _ _ _, own_one hb1, fun i hi => absurd hi (Nat.not_lt_zero _), fun i hi => ?_, fun i j u v _ h => (by simp at h), .inr (by simp), fun g h => (by cases h), fun g h => ?_, fun b hb => ?_⟩
    · have := heap_new (w.alloc (.cells #[.slice none 0 0] 75)) (.cells (refArr ⟨r, [], [[]], 0, 0, -1⟩ (.slice none 0 0) (.slice (some ⟨w.heap.size, 0, none⟩) 1 1)) 53)
      rw [World.size_alloc] at this
      exact this
    · have hi : i = 0 := by simpa using hi
      subst hi
      exact ⟨.slice none 0 0, rfl, World.ownsRow_nil _ _ _ _, fun g h => by cases h⟩
    · have h : some w.heap.size = some g := h
      cases h
      exact .inr (by simp; omega)
    · rcases hb with hb | hb
      · exact hb.elim
      · exact hb.2
  have bel : ∀ o1 o2, Below w.heap.size w ((w.alloc o1).alloc o2) := fun o1 o2 => ((Below.refl _ w).alloc (Nat.le_refl _) _).alloc (by simp) _
  have FIN := hide fin
  have BEL := hide bel
  clear fin bel
  by_cases h0 : room < 0
  · go_enter Tryz.func7, Tryz.ntmps7
    go_wp2
    go_ret
    exact ⟨_, rfl, FIN.out 0 (by omega), BEL.out _ _⟩
  · obtain ⟨r, rfl⟩ : ∃ r : Nat, room = (r : Int) := ⟨room.toNat, by omega⟩
    go_enter Tryz.func7, Tryz.ntmps7
    go_wp2
    go_ret
    exact ⟨_, rfl, FIN.out r (by omega), BEL.out _ _⟩

end Go.Proofs.YtleomppgkikhnaaGreat
