/-
  Clean of the program: as the chapter says.
-/
import Derived.Test.YtleomppgkikhnaaGreatSwpW
import Derived.Test.YtleomppgkikhnaaGreatDskListW
namespace Go.Proofs.YtleomppgkikhnaaGreat
open Go.RowKit
open Dsk (By Dk)

theorem enters_remove : Enters 55 := mv_enters Tryz.func55 (by kernel_rfl) (by kernel_rfl)
def remM (p : Nat) (n : ByteArray) : Mv := ⟨55, oth p n, Dsk.remove n, 1⟩
def cleanM (p : Nat) (l : List ByteArray) : List Mv := l.map (remM p)
def sdM (p : Nat) : Mv := ⟨45, .pointer (some ⟨p, 0, none⟩), Dsk.syncDir, 1⟩
theorem op_info : ∃ i z, Tryz.prog.info? 116 = some i ∧ i.zero = some z ∧ i.size = 1 ∧ i.bytes = 8 ∧ z.cells.size = 1 := by
  have h : (Tryz.prog.info? 116).map (fun i => (i.zero.map (fun z => z.cells.size), i.size, i.bytes)) = some (some 1, 1, 8) := by kernel_rfl
  obtain ⟨i, hi, e⟩ := Option.map_eq_some_iff.1 h
  simp only [Prod.mk.injEq] at e
  obtain ⟨z, hz, e1⟩ := Option.map_eq_some_iff.1 e.1
  exact ⟨i, z, hi, hz, e.2.1, e.2.2, e1⟩
theorem uops : Tryz.prog.underlying 91 = some (.slice 116) := by kernel_rfl
theorem own_row {w : World} {base e size n : Nat} {v : Value} {xs : List Value} (h : w.ownsRow base e size v n xs) (hn : 0 < n) : ∃ g c, v = .slice (some ⟨g, 0, none⟩) n c ∧ g < w.heap.size ∧ (∀ j u, xs[j]? = some u → w.cell? ⟨g, j, none⟩ = some u) ∧ (∀ j, w.frozen? ⟨g, j, none⟩ = false) ∧ n ≤ c := by
  rcases h.2 with ⟨_, h0⟩ | ⟨g, cap, cur, rfl, hb, hh, hnc, _⟩
  · omega
  · refine ⟨g, cap, rfl, (Array.getElem?_eq_some_iff.1 hh).1, fun j u hj => ?_, fun j => frozen_of hh j, hnc⟩
    have := h.cells (g := g) rfl j u hj
    rw [Addr.add_lit, Nat.zero_add] at this
    exact this
theorem Dsk.list_len' (d : Dk) : (Dsk.list d).length = (Dsk.dir d).length := by
  unfold Dsk.list
  rw [(Dsk.sortN_perm _).length_eq]
  unfold Dsk.names
  rw [List.length_map]
/-- 'l = append(l, x)': a row of method values of the call's own. -/
theorem op_app {w : World} {base : Nat} {v : Value} {l : List Mv} (h : w.ownsRow base 116 1 v l.length (l.map Mv.v)) (x : Mv) (hl : l.length ≤ 1000000000) (hb : base ≤ w.heap.size) (ty : TypeId) :
    ∃ v' w', (Builtin.append_ #[91, 91] ty #[v, .slice (some ⟨w.heap.size, 0, none⟩) 1 1]).run Tryz.prog (w.alloc (.cells #[x.v] 116)) = .ok v' w' ∧
      w'.ownsRow base 116 1 v' (l ++ [x]).length ((l ++ [x]).map Mv.v) ∧ Below base w w' := by
  obtain ⟨i, z, hi, hz, hs, hby, hzs⟩ := op_info
  obtain ⟨v', w', hr, ho, hg, _⟩ := app_own (w.alloc (.cells #[x.v] 116)) base 91 ty 116 i z 1 8 uops hi hz hs hby hzs (by decide) v l.length (l.map Mv.v) (h.alloc _) ⟨w.heap.size, 0, none⟩ 1 1
    [x.v] rfl (fun j u hj => by
      rw [Addr.add_lit, Nat.zero_add]
      match j, hj with
      | 0, hj => simp at hj ⊢; exact hj) (fun u hu => by simp at hu; subst hu; rfl) (by unfold maxLen; omega) (by omega) (by simp; omega)
  refine ⟨v', w', hr, ?_, ?_⟩
  · rw [List.map_append, List.length_append]
    exact ho
  · have k : ∀ b, b < base → w'.heap[b]? = w.heap[b]? := fun b hb' => by
      rw [hg.block b (by simp; omega) (fun e => by have := h.lt b e.symm; omega), Below.heap_alloc _ _ b (by omega)]
    have hz := hg.size
    simp at hz
    exact ⟨hg.os, hg.tape, hg.output, by omega, k⟩
theorem filter_take {l : List ByteArray} {j : Nat} (h : j < l.length) : (l.take (j + 1)).filter Dsk.endsT = (l.take j).filter Dsk.endsT ++ (if Dsk.endsT l[j] = true then [l[j]] else []) := by
  rw [List.take_succ_eq_append_getElem h, List.filter_append]
  congr 1
  simp [List.filter_cons]
theorem clean_acts (p : Nat) (D : Dk) : Dsk.inOrd (actsM (cleanM p ((Dsk.list D).filter Dsk.endsT) ++ [sdM p])) D = Dsk.clean D := by
  unfold Dsk.clean Dsk.cleanL actsM cleanM
  rw [List.map_append, List.map_map]
  rfl
theorem clean_sum (p : Nat) (l : List ByteArray) : sumM (cleanM p l ++ [sdM p]) = l.length + 1 := by
  unfold sumM cleanM
  rw [List.map_append, List.map_map, List.sum_append]
  have : (l.map ((fun x : Mv => x.m) ∘ remM p)).sum = l.length := by
    induction l with
    | nil => rfl
    | cons x r ih => simp only [List.map_cons, List.sum_cons, List.length_cons, ih]; show 1 + r.length = _; omega
  rw [this]
  rfl
set_option maxRecDepth 100000 in
set_option maxHeartbeats 800000 in
theorem clean_dkM {S : Nat → Prop} {w : World} {p : Nat} {D : Dk} {c m : Nat} (H : IsDk S w p D c) (hll : (Dsk.list D).length ≤ m) (hc : c + (m + 1) ≤ 1000000) :
    Calls Tryz.prog 19 #[.pointer (some ⟨p, 0, none⟩)] w fun e w' => e = .returned (.int .i64 (Dsk.clean D).2) ∧ Goes S w w' p (Dsk.clean D).1 (c + (m + 1)) := by
  have hmf : ∀ (fn : Fn) (first cap : Array Value) (w : World), (Instr.makeFunc fn first cap).run Tryz.prog w = .ok (.func fn first cap) w := fun _ _ _ _ => rfl
  have hnm : ∀ x ∈ Dsk.list D, x.size ≤ 24 := fun x hx => by
    obtain ⟨f, hf⟩ := Dsk.mem_list.1 hx
    have := (H.ok.row.1 _ hf).1
    unfold Dsk.isName at this
    rw [decide_eq_true_eq] at this
    exact this.2.2
  have HNM := hide hnm
  have HH := hide H
  clear H hnm
  go_enter Tryz.func19, Tryz.ntmps19
  go_wp2_with fail
  refine (list_dk HH.out (by omega)).mono ?_
  rintro e w1 ⟨v, rfl, ho, hb1⟩
  obtain ⟨a, cp, rfl⟩ := own_slice ho
  have HO := hide ho
  have HB1 := hide hb1
  clear ho hb1
  go_wp2
  go_loopw [3, 11] (fun v3 v11 wr => ∃ j : Nat, j ≤ (Dsk.list D).length ∧ v11 = .int .i64 (j : Int) ∧ Hid (wr.ownsRow w1.heap.size 116 1 v3 (cleanM p (((Dsk.list D).take j).filter Dsk.endsT)).length ((cleanM p (((Dsk.list D).take j).filter Dsk.endsT)).map Mv.v)) ∧ Hid (Below w1.heap.size w1 wr)) (fun _ v11 _ => (Dsk.list D).length - (intOf v11).toNat)
  case atStart => exact ⟨0, Nat.zero_le _, rfl, hide (World.ownsRow_nil _ _ _ _), hide (Below.refl _ _)⟩
  case round =>
    obtain ⟨j, hj, rfl, HR, HB⟩ := hrel
    have hcl : (cleanM p (((Dsk.list D).take j).filter Dsk.endsT)).length ≤ 1000000 := by
      unfold cleanM
      rw [List.length_map]
      have := List.length_filter_le Dsk.endsT ((Dsk.list D).take j)
      rw [List.length_take] at this
      omega
    by_cases hlt : j < (Dsk.list D).length
    · obtain ⟨g, c', hv, hg, hcell, _, _⟩ := own_row HO.out (by omega)
      simp only [Value.slice.injEq, true_and] at hv
      obtain ⟨rfl, rfl⟩ := hv
      have v0 : w1.cell? ⟨g, j, none⟩ = some (.string (Dsk.list D)[j]) := hcell j _ (by rw [List.getElem?_map, List.getElem?_eq_getElem hlt]; rfl)
      have v1 := (HB.out.cell (p := ⟨g, j, none⟩) hg).trans v0
      clear v0
      have hx24 := HNM.out _ (List.getElem_mem hlt)
      have hft := filter_take hlt
      obtain ⟨x, hx⟩ : ∃ x, (Dsk.list D)[j] = x := ⟨_, rfl⟩
      rw [hx] at v1 hx24 hft
      have HFT := hide hft
      clear hft hx hcell
      cases hen : Dsk.endsT x with
      | false =>
        have HEN := hide hen
        clear hen
        go_wp2_with fail
        refine (hasSuffix_any x _ (by omega)).mono ?_
        rintro e w2 ⟨rfl, hw⟩
        rw [hw, HEN.out]
        clear hw
        go_wp2
        go_roundw
        case rel =>
          refine ⟨j + 1, by omega, by go_num, ?_, HB⟩
          rw [HFT.out, HEN.out]
          simpa using HR
        case measure => simp [intOf]; omega
      | true =>
        have HEN := hide hen
        clear hen
        obtain ⟨lv', w3, hr3, ho3, hb3⟩ := op_app HR.out (remM p x) (by omega) HB.out.size 91
        obtain ⟨la, lc, hl3⟩ := own_slice HR.out
        subst hl3
        simp only [remM, Mv.v, oth] at hr3
        have HRR := hide hr3
        have HO3 := hide ho3
        have HB3 := hide (HB.out.trans hb3)
        clear hr3 ho3 hb3
        go_wp2_with fail
        refine (hasSuffix_any x _ (by omega)).mono ?_
        rintro e w2 ⟨rfl, hw⟩
        rw [hw, HEN.out]
        clear hw
        go_wp2_with (at_builtin; refine wpList_app_run rfl _ _ _ _ rfl rfl rfl HRR.out ?_)
        go_roundw
        case rel =>
          refine ⟨j + 1, by omega, by go_num, ?_, HB3⟩
          rw [HFT.out, HEN.out]
          have e : cleanM p (((Dsk.list D).take j).filter Dsk.endsT ++ [x]) = cleanM p (((Dsk.list D).take j).filter Dsk.endsT) ++ [remM p x] := by unfold cleanM; rw [List.map_append]; rfl
          rw [if_pos rfl, e]
          exact HO3
        case measure => simp [intOf]; omega
    · obtain rfl : j = (Dsk.list D).length := by omega
      rw [List.take_length] at HR hcl
      obtain ⟨lv', w3, hr3, ho3, hb3⟩ := op_app HR.out (sdM p) (by omega) HB.out.size 91
      obtain ⟨la, lc, hl3⟩ := own_slice HR.out
      subst hl3
      simp only [sdM, Mv.v] at hr3
      obtain ⟨g, c', rfl, hg, hcell, _, _⟩ := own_row ho3 (by simp)
      have hgb := (ho3.lt g rfl).1
      have b3 : Below w.heap.size w w3 := HB1.out.trans ((HB.out.trans hb3).mono HB1.out.size)
      have k3 := inOrder_dk p (cleanM p ((Dsk.list D).filter Dsk.endsT) ++ [sdM p]) (fun x hx => by
        rcases List.mem_append.1 hx with hx | hx
        · obtain ⟨y, hy, rfl⟩ := List.mem_map.1 hx
          exact ⟨oremove_does p y (by have := HNM.out y ((List.mem_filter.1 hy).1); unfold maxLen; omega), enters_remove⟩
        · simp at hx; subst hx; exact ⟨syncDir_does p, enters_syncDir⟩) (by simp; omega) g 0 c' (HH.out.below b3) (by
          rw [clean_sum]
          have := List.length_filter_le Dsk.endsT (Dsk.list D)
          omega) (fun _ => hg) (fun h => by have := HH.out.lt _ h; have := HB1.out.size; omega) (fun k hk => by
          rw [Nat.zero_add]
          exact hcell k _ (by rw [List.getElem?_map, List.getElem?_eq_getElem hk]; rfl))
      rw [clean_acts, clean_sum] at k3
      obtain ⟨N, hN⟩ : ∃ N, (cleanM p ((Dsk.list D).filter Dsk.endsT) ++ [sdM p]).length = N := ⟨_, rfl⟩
      simp only [sdM] at hN
      simp only [sdM] at k3
      rw [hN] at k3
      simp only [sdM] at hr3
      rw [hN] at hr3
      clear hN
      have K3 := hide k3
      have HRR := hide hr3
      have HB3 := hide b3
      have hfl := List.length_filter_le Dsk.endsT (Dsk.list D)
      clear hr3 ho3 hb3 k3 b3 hcell
      go_wp2_with (at_builtin; refine wpList_app_run rfl _ _ _ _ rfl rfl rfl HRR.out ?_)
      refine K3.out.mono ?_
      rintro e w4 ⟨rfl, hg4⟩
      have HG4 := hide (hg4.after HB3.out)
      clear hg4
      go_wp2
      go_ret
      exact ⟨rfl, HG4.out.mono (by omega)⟩

theorem clean_dk {S : Nat → Prop} {w : World} {p : Nat} {D : Dk} {c : Nat} (H : IsDk S w p D c) (hc : c + (c + 1) ≤ 1000000) :
    Calls Tryz.prog 19 #[.pointer (some ⟨p, 0, none⟩)] w fun e w' => e = .returned (.int .i64 (Dsk.clean D).2) ∧ Goes S w w' p (Dsk.clean D).1 (c + (c + 1)) :=
  clean_dkM H (by rw [Dsk.list_len']; exact H.bud.rows _ (Dsk.dir_mem H.ok.some)) hc

end Go.Proofs.YtleomppgkikhnaaGreat
