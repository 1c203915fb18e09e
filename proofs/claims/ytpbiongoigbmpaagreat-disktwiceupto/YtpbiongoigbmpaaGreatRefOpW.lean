/-
  The document's disk: dir, number, now, begin, fails, Used, Read, Fail, Stop.
-/
import Derived.Test.YtpbiongoigbmpaaGreatRefDkW
namespace Go.Proofs.YtpbiongoigbmpaaGreat
open Go.RowKit
open Dsk (By Dk)

theorem RefAt.hist {S : Nat → Prop} {w : World} {p : Nat} {D : Dk} {fv dv : Value} {fs ds : List Value} (H : RefAt S w p D fv dv fs ds) {i : Nat} (hi : i < D.files.length) : ∃ v, fs[i]? = some v ∧ StrAt S w v (Dsk.hist D i) := by
  obtain ⟨v, h1, h2⟩ := H.file i hi
  refine ⟨v, h1, ?_⟩
  unfold Dsk.hist
  rw [List.getD_eq_getElem?_getD, List.getElem?_eq_getElem hi]
  exact h2
theorem RefAt.last {S : Nat → Prop} {w : World} {p : Nat} {D : Dk} {fv dv : Value} {fs ds : List Value} (H : RefAt S w p D fv dv fs ds) (ok : Dsk.Ok D) : ∃ v, ds[D.dirs.length - 1]? = some v ∧ NmdAt S w v (Dsk.dir D) := by
  have hl : 0 < D.dirs.length := List.length_pos_iff.2 ok.some
  obtain ⟨v, h1, h2⟩ := H.dir (D.dirs.length - 1) (by omega)
  refine ⟨v, h1, ?_⟩
  have : Dsk.dir D = D.dirs[D.dirs.length - 1] := by
    unfold Dsk.dir
    rw [List.getLastD_eq_getLast?, List.getLast?_eq_getElem?, List.getElem?_eq_getElem (by omega)]
    rfl
  rw [this]
  exact h2

theorem dn_below {n : Nat} {a w : World} (h : Below n a w) (k : Nat) : Below n a (w.drewN k) := ⟨h.os, h.tape, h.output, h.size, h.block⟩
set_option maxRecDepth 100000 in
set_option maxHeartbeats 600000 in
theorem rdir_at {S : Nat → Prop} {w : World} {p : Nat} {D : Dk} {fv dv : Value} {fs ds : List Value} (H : RefAt S w p D fv dv fs ds) (ok : Dsk.Ok D) (hd : D.dirs.length ≤ 1000000000000) :
    Calls Tryz.prog 62 #[.pointer (some ⟨p, 0, none⟩)] w fun e w' => ∃ v, e = .returned v ∧ NmdAt S w v (Dsk.dir D) ∧ ds[D.dirs.length - 1]? = some v ∧ Below w.heap.size w w' := by
  obtain ⟨v, h1, h2⟩ := H.last ok
  have hl : 0 < D.dirs.length := List.length_pos_iff.2 ok.some
  obtain ⟨g, c, rfl, hg, hcell, _, hnc⟩ := own_view H.dirs hl
  obtain ⟨_, _, c2, _⟩ := H.look
  have v1 := hcell _ _ h1
  obtain ⟨m, hm⟩ : ∃ m, D.dirs.length = m + 1 := ⟨D.dirs.length - 1, by omega⟩
  rw [hm] at c2 v1 hd
  simp only [Nat.add_sub_cancel] at v1
  have HX := hide (And.intro h1 h2)
  clear H h1 h2 hcell hm
  go_enter Tryz.func62, Tryz.ntmps62
  go_wp2_with fail
  go_quiet (fail)
  go_wp2
  go_ret
  exact ⟨v, rfl, HX.out.2, HX.out.1, dn_below (Below.refl _ _) _⟩

def numV : Option Nat → Int
  | none => -1
  | some i => (i : Int)
theorem find_take {r : Dsk.Row} {n : ByteArray} {k : Nat} (hk : k < r.length) (h : ∀ x ∈ r.take k, x.1 ≠ n) : Dsk.find r n = if r[k].1 = n then some r[k].2 else Dsk.find (r.drop (k + 1)) n := by
  have e : r = r.take k ++ (r[k] :: r.drop (k + 1)) := by rw [List.getElem_cons_drop, List.take_append_drop]
  have h0 := Dsk.find_none.2 h
  conv => lhs; rw [e, Dsk.find_app, h0]
  simp only [Option.none_or, Dsk.find]
set_option maxRecDepth 100000 in
set_option maxHeartbeats 600000 in
theorem rnumber_at {S : Nat → Prop} {w : World} {p : Nat} {D : Dk} {fv dv : Value} {fs ds : List Value} (H : RefAt S w p D fv dv fs ds) (ok : Dsk.Ok D) (hd : D.dirs.length ≤ 1000000000000) (hr : (Dsk.dir D).length ≤ 1000000000000) (n : ByteArray) :
    Calls Tryz.prog 60 #[.pointer (some ⟨p, 0, none⟩), .string n] w fun e w' => e = .returned (.int .i64 (numV (Dsk.find (Dsk.dir D) n))) ∧ Below w.heap.size w w' := by
  have HH := hide H
  obtain ⟨o, ho⟩ : ∃ o, Dsk.find (Dsk.dir D) n = o := ⟨_, rfl⟩
  rw [ho]
  have HO := hide ho
  clear H ho
  go_enter Tryz.func60, Tryz.ntmps60
  go_wp2_with fail
  refine (rdir_at HH.out ok hd).mono ?_
  rintro e w1 ⟨v, rfl, hv, _, hb1⟩
  obtain ⟨a, c, rfl⟩ := own_slice hv.1
  obtain ⟨r, hre⟩ : ∃ r, Dsk.dir D = r := ⟨_, rfl⟩
  rw [hre] at hv hr HO ⊢
  have HV := hide hv
  clear hv hre
  go_wp2
  go_loopw [6] (fun i wr => ∃ k : Nat, k ≤ r.length ∧ i = .int .i64 (k : Int) ∧ Hid (∀ x ∈ r.take k, x.1 ≠ n) ∧ Below w.heap.size w wr) (fun i _ => r.length - (intOf i).toNat)
  case atStart => exact ⟨0, Nat.zero_le _, rfl, by simp [Hid], hb1⟩
  case round =>
    obtain ⟨k, hk, rfl, HT, hnx⟩ := hrel
    by_cases hlt : k < r.length
    · obtain ⟨g, c', e, hg, hcell, _, _⟩ := own_view HV.out.1 (by omega)
      simp only [Value.slice.injEq] at e
      obtain ⟨rfl, _, rfl⟩ := e
      obtain ⟨n1, n2⟩ := nmdV_at hlt
      have v1 := (hnx.cell (p := ⟨g, k * 2, none⟩) hg).trans (hcell _ _ n1)
      have v2 := (hnx.cell (p := ⟨g, k * 2 + 1, none⟩) hg).trans (hcell _ _ n2)
      have hft := find_take hlt HT.out
      obtain ⟨x, hx⟩ : ∃ x, r[k].1 = x := ⟨_, rfl⟩
      obtain ⟨y, hy⟩ : ∃ y, r[k].2 = y := ⟨_, rfl⟩
      rw [hx] at v1
      rw [hy] at v2
      rw [hx, hy] at hft
      have HX := hide hx
      have HF := hide hft
      clear hcell n1 n2 hx hy hft
      by_cases heq : (x.toList == n.toList) = true
      · go_wp2
        go_ret
        refine ⟨?_, hnx⟩
        have := HF.out
        rw [if_pos (Lab.eqB_true heq), HO.out] at this
        rw [this]
        rfl
      · have heq' : (x.toList == n.toList) = false := by simpa using heq
        clear heq
        go_wp2
        go_roundw
        case rel =>
          refine ⟨k + 1, by omega, by go_num, hide (fun z hz => ?_), hnx⟩
          rw [List.take_succ_eq_append_getElem hlt] at hz
          rcases List.mem_append.1 hz with hz | hz
          · exact HT.out z hz
          · simp at hz
            subst hz
            rw [HX.out]
            exact Lab.eqB_false heq'
        case measure => simp [intOf]; omega
    · have hz : o = none := by
        rw [← HO.out]
        refine Dsk.find_none.2 ?_
        have := HT.out
        rwa [List.take_of_length_le (by omega)] at this
      subst hz
      go_wp2
      go_ret
      exact ⟨rfl, hnx⟩

theorem now_last {D : Dk} (ok : Dsk.Ok D) {i : Nat} (hi : i < D.files.length) : ∃ m, (Dsk.hist D i).length = m + 1 ∧ (strsV (Dsk.hist D i))[m]? = some (.string (Num.bs (Dsk.now D i))) := by
  have h := ok.hists _ (Dsk.hist_mem hi)
  have hl : 0 < (Dsk.hist D i).length := List.length_pos_iff.2 h
  refine ⟨(Dsk.hist D i).length - 1, by omega, ?_⟩
  unfold strsV Dsk.now
  rw [List.getElem?_map, ← List.getLast?_eq_getElem?, List.getLastD_eq_getLast?, List.getLast?_eq_some_getLast h]
  rfl
set_option maxRecDepth 100000 in
set_option maxHeartbeats 600000 in
theorem rnow_at {S : Nat → Prop} {w : World} {p : Nat} {D : Dk} {fv dv : Value} {fs ds : List Value} (H : RefAt S w p D fv dv fs ds) (ok : Dsk.Ok D) {i : Nat} (hi : i < D.files.length) (hf : D.files.length ≤ 1000000000000) (hh : (Dsk.hist D i).length ≤ 1000000000000) :
    Calls Tryz.prog 64 #[.pointer (some ⟨p, 0, none⟩), .int .i64 (i : Int)] w fun e w' => e = .returned (.string (Num.bs (Dsk.now D i))) ∧ Below w.heap.size w w' := by
  obtain ⟨v, h1, h2⟩ := H.hist hi
  obtain ⟨g, c, rfl, hg, hcell, _, hnc⟩ := own_view H.files (by omega)
  obtain ⟨m, hm, hml⟩ := now_last ok hi
  obtain ⟨g2, c2, rfl, hg2, hcell2, _, hnc2⟩ := own_view h2.1 (by omega)
  obtain ⟨_, c1, _⟩ := H.look
  have v1 := hcell _ _ h1
  have v2 := hcell2 _ _ hml
  obtain ⟨s, hs⟩ : ∃ s, Num.bs (Dsk.now D i) = s := ⟨_, rfl⟩
  rw [hs] at v2 ⊢
  obtain ⟨N, hN⟩ : ∃ N, D.files.length = N := ⟨_, rfl⟩
  rw [hN] at c1 hi hf
  rw [hm] at v1 hh
  clear H h1 h2 hcell hcell2 hm hml hN hs hnc hnc2
  go_enter Tryz.func64, Tryz.ntmps64
  go_wp2_with fail
  go_quiet (fail)
  go_wp2
  go_ret
  exact ⟨rfl, dn_below (Below.refl _ _) _⟩

set_option maxRecDepth 100000 in
set_option maxHeartbeats 600000 in
theorem rbegin_dead {S : Nat → Prop} {w : World} {p : Nat} {D : Dk} {fv dv : Value} {fs ds : List Value} (H : RefAt S w p D fv dv fs ds) (h0 : D.left = 0) :
    Calls Tryz.prog 58 #[.pointer (some ⟨p, 0, none⟩)] w fun e w' => e = .returned (.bool false) ∧ w' = w := by
  obtain ⟨_, _, _, _, _, c5, _⟩ := H.look
  rw [h0] at c5
  clear H
  go_enter Tryz.func58, Tryz.ntmps58
  go_wp2
  go_ret
  exact ⟨rfl, rfl⟩
set_option maxRecDepth 100000 in
set_option maxHeartbeats 600000 in
theorem rbegin_on {S : Nat → Prop} {w : World} {p : Nat} {D : Dk} {fv dv : Value} {fs ds : List Value} (H : RefAt S w p D fv dv fs ds) (h0 : D.left ≠ 0) (h1 : -1 ≤ D.left) (h2 : D.left ≤ 9223372036854775807) (ho : D.ops < 4611686018427387904) :
    Calls Tryz.prog 58 #[.pointer (some ⟨p, 0, none⟩)] w fun e w' => e = .returned (.bool true) ∧ RefAt S w' p (Dsk.on D) fv dv fs ds ∧ Only S w w' := by
  obtain ⟨c0, c1, c2, c3, c4, c5, cf, hp⟩ := H.look
  have HH := hide H
  clear H
  by_cases hm : D.left = -1
  · have e1 : Dsk.on D = { D with ops := D.ops + 1 } := by unfold Dsk.on; rw [if_neg (by omega)]
    rw [e1]
    clear e1 h0 h1 h2
    rw [hm] at c5
    have HM := hide hm
    clear hm
    go_enter Tryz.func58, Tryz.ntmps58
    go_wp2
    go_ret
    exact ⟨rfl, HH.out.set (D' := { D with ops := D.ops + 1 }) 3 _ rfl rfl, HH.out.only _ _⟩
  · have e1 : Dsk.on D = { D with ops := D.ops + 1, left := D.left - 1 } := by unfold Dsk.on; rw [if_pos (by omega)]
    rw [e1]
    clear e1
    have hp : 1 ≤ D.left := by omega
    clear h0 h1
    go_enter Tryz.func58, Tryz.ntmps58
    go_wp2
    go_ret
    have H1 := HH.out.set (D' := { D with left := D.left - 1 }) 5 (.int .i64 (D.left - 1)) rfl rfl
    exact ⟨rfl, H1.set (D' := { D with ops := D.ops + 1, left := D.left - 1 }) 3 _ rfl rfl, (HH.out.only _ _).trans' (H1.only _ _)⟩

set_option maxRecDepth 100000 in
set_option maxHeartbeats 600000 in
theorem rfails_at {S : Nat → Prop} {w : World} {p : Nat} {D : Dk} {fv dv : Value} {fs ds : List Value} (H : RefAt S w p D fv dv fs ds) (hf : D.fail ≤ 9223372036854775807) :
    Calls Tryz.prog 63 #[.pointer (some ⟨p, 0, none⟩)] w fun e w' => e = .returned (.bool (decide (D.fail = 1))) ∧ RefAt S w' p { D with fail := D.fail - 1 } fv dv fs ds ∧ Only S w w' := by
  obtain ⟨c0, c1, c2, c3, c4, c5, cf, hp⟩ := H.look
  have HH := hide H
  clear H
  by_cases h0 : D.fail = 0
  · have e1 : ({ D with fail := D.fail - 1 } : Dk) = D := by rw [h0]; cases D; simp at h0; subst h0; rfl
    rw [e1, show decide (D.fail = 1) = false from decide_eq_false (by omega)]
    rw [h0] at c4
    clear e1
    go_enter Tryz.func63, Tryz.ntmps63
    go_wp2
    go_ret
    exact ⟨rfl, HH.out, Only.refl _ _⟩
  · obtain ⟨x, hx⟩ : ∃ x, D.fail = x + 1 := ⟨D.fail - 1, by omega⟩
    have hd : decide (D.fail = 1) = decide ((x : Int) = 0) := by
      rw [hx]; simp
    rw [hd]
    have e1 : ({ D with fail := D.fail - 1 } : Dk) = { D with fail := x } := by rw [hx]; rfl
    rw [e1]
    rw [hx] at c4 hf
    have HX := hide hx
    clear e1 hd h0 hx
    go_enter Tryz.func63, Tryz.ntmps63
    go_wp2
    go_ret
    exact ⟨rfl, HH.out.set (D' := { D with fail := x }) 4 _ (by simp [refArr]) rfl, HH.out.only _ _⟩

end Go.Proofs.YtpbiongoigbmpaaGreat
