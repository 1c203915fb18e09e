/-
  slices.Delete of one destination; Leave.
-/
import Derived.Test.YtjbdofjheeljkaaLdgJoinW
import Derived.ArgAppend
namespace Go.Proofs.Ytjbdofjheeljkaa
open Go.RowKit
open Ldg (De Le Rd Rl)

theorem slice_dests (a : Option Addr) (l c i j m : Nat) (h1 : i ≤ j) (h2 : j ≤ m) (h3 : m ≤ c) : ∃ a' l' c', ∀ w, (Instr.slice 25 (.slice a l c) (some (.int .i64 (i : Int))) (some (.int .i64 (j : Int))) (some (.int .i64 (m : Int)))).run Try.prog w = .ok (.slice a' l' c') w :=
  ⟨_, _, _, fun w => by
    rw [run_slice_lhm (P := Try.prog) w 25 a l c destsE .i64 .i64 .i64 (i : Int) (j : Int) (m : Int) (by omega) (by omega) (by omega) (by omega), elem_dests, size_dest]
    rfl⟩
theorem from_dests (g l c n : Nat) (h : n ≤ l) (hlc : l ≤ c) : ∃ o, (∀ w, (Instr.slice 25 (.slice (some ⟨g, 0, none⟩) l c) (some (.int .i64 (n : Int))) none none).run Try.prog w = .ok (.slice (some ⟨g, o, none⟩) (l - n) (c - n)) w) ∧ (0 < l - n → o = n * 7) := by
  refine ⟨if c = n then 0 else n * 7, fun w => ?_, fun hh => by rw [if_neg (by omega)]⟩
  rw [run_slice_l (P := Try.prog) w 25 (some ⟨g, 0, none⟩) l c destsE .i64 (n : Int) (by omega) (by omega), elem_dests, size_dest]
  by_cases hc : c = n
  · simp [Result.andThen, sliced, hc]
  · by_cases h0 : n = 0
    · subst h0; simp [Result.andThen, sliced, Addr.add, hc]
    · simp [Result.andThen, sliced, Addr.add, hc, show ¬ n * 7 = 0 by omega]
theorem mid_dests (g l c n m : Nat) (h : n ≤ m) (hm : m ≤ c) (hn : n < c) (w : World) : (Instr.slice 25 (.slice (some ⟨g, 0, none⟩) l c) (some (.int .i64 (n : Int))) (some (.int .i64 (m : Int))) none).run Try.prog w = .ok (.slice (some ⟨g, n * 7, none⟩) (m - n) (c - n)) w := by
  rw [run_slice_lh (P := Try.prog) w 25 (some ⟨g, 0, none⟩) l c destsE .i64 .i64 (n : Int) (m : Int) (by omega) (by omega) (by omega), elem_dests, size_dest]
  by_cases h0 : n = 0
  · subst h0; simp [Result.andThen, sliced, Addr.add]
  · simp [Result.andThen, sliced, Addr.add, show ¬ c = n by omega, show ¬ n * 7 = 0 by omega]
theorem drows_take (ps : List DV) (k : Nat) (hk : k ≤ ps.length) : drows (ps.take k) = (drows ps).take (k * 7) := by
  have h := drows_app (ps.take k) (ps.drop k)
  rw [List.take_append_drop] at h
  have hlt : (drows (ps.take k)).length = k * 7 := by rw [drows_len, List.length_take, Nat.min_eq_left (by omega)]
  rw [h, List.take_append_of_le_length (by omega), List.take_of_length_le (l := drows (ps.take k)) (by omega)]
/-- 'append(s[:k], s[k+1:]...)' goes in place. -/
theorem run_del (w : World) (ty : TypeId) {B g n c k o : Nat} {ps : List DV} (h : OwnD w B (.slice (some ⟨g, 0, none⟩) n c) ps) (hk : k < ps.length) (ho : 0 < n - (k + 1) → o = (k + 1) * 7) :
    n ≤ c ∧ ∃ w', (Builtin.append_ #[25, 25] ty #[.slice (some ⟨g, 0, none⟩) k c, .slice (some ⟨g, o, none⟩) (n - (k + 1)) (c - (k + 1))]).run Try.prog w = .ok (.slice (some ⟨g, 0, none⟩) (n - 1) c) w' ∧
      OwnD w' B (.slice (some ⟨g, 0, none⟩) (n - 1) c) (ps.take k ++ ps.drop (k + 1)) ∧ Kept (fun b => b ≠ g) w w' ∧ ∃ cur, w'.heap[g]? = some (.cells cur 41 (0, 0)) ∧ n * 7 ≤ cur.size := by
  have hnl := own_len h
  subst hnl
  obtain ⟨i0, hi, hz0, hz1, hz2⟩ := info_parts info_dest
  rcases h.row.2 with ⟨h0, _⟩ | ⟨g', cap, cur, e1, hB, hh, hnc, hcm, hcs, ht⟩
  · cases h0
  · simp only [Value.slice.injEq, Option.some.injEq, Addr.mk.injEq, and_true, true_and] at e1
    obtain ⟨rfl, rfl⟩ := e1
    have hl : (drows (ps.drop (k + 1))).length = (ps.length - (k + 1)) * 7 := by rw [drows_len, List.length_drop]
    have hdl := drows_len ps
    have hnews : ∀ j u, (drows (ps.drop (k + 1)))[j]? = some u → w.cell? ((⟨g, o, none⟩ : Addr).add j) = some u := by
      intro j u hj
      have hjl := (List.getElem?_eq_some_iff.1 hj).1
      rw [hl] at hjl
      rw [Addr.add_lit, ho (by omega)]
      rw [World.ownsRow.cellAt h.row _ (by omega)]
      have e : ps = ps.take (k + 1) ++ ps.drop (k + 1) := (List.take_append_drop _ _).symm
      have hlt : (drows (ps.take (k + 1))).length = (k + 1) * 7 := by rw [drows_len, List.length_take, Nat.min_eq_left (by omega)]
      conv => lhs; rw [e]
      rw [drows_app, List.getElem?_append_right (by omega), hlt, show (k + 1) * 7 + j - (k + 1) * 7 = j by omega]
      exact hj
    have hone : ∀ u ∈ drows (ps.drop (k + 1)), u.oneCell' = true := by
      intro u hu
      obtain ⟨p, hp, hu⟩ := List.mem_flatMap.1 hu
      obtain ⟨a', c', ep, _⟩ := h.sls p (List.mem_of_mem_drop hp)
      simp only [drow, ep, List.mem_cons, List.not_mem_nil, or_false] at hu
      rcases hu with rfl | rfl | rfl | rfl | rfl | rfl | rfl <;> rfl
    have hr := run_append_room (P := Try.prog) w 25 ty 41 i0 dests_under hi g k c cur hh ⟨g, o, none⟩ (ps.length - (k + 1)) (c - (k + 1)) (drows (ps.drop (k + 1))) (by rw [hz1]; exact hl) hnews hone (by omega) (by rw [hz1, hl, hcs]; omega)
    rw [show k + (ps.length - (k + 1)) = ps.length - 1 by omega] at hr
    refine ⟨hnc, _, hr, ?_, ⟨rfl, rfl, rfl, by simp [World.setRow], fun b hb => setRow_other w g b _ hb⟩, _, setRow_heap w g _ _ _ _ hh, ?_⟩
    · have hpl : (ps.take k ++ ps.drop (k + 1)).length = ps.length - 1 := by simp; omega
      have htk : (cur.toList.take (k * i0.size)) = drows (ps.take k) := by
        have := drows_take ps k (by omega)
        rw [this, ← ht, hz1, List.take_take, Nat.min_eq_left (by omega)]
      refine ⟨⟨by rw [hpl, drows_len, hpl], .inr ⟨g, c, _, by rw [hpl], hB, setRow_heap w g _ _ _ _ hh, by rw [hpl]; omega, hcm, ?_, ?_⟩⟩, fun p hp => ?_⟩
      · simp only [List.size_toArray, List.length_append, List.length_take, List.length_drop, Array.length_toList, hl, hz1, hcs]
        omega
      · rw [hpl, htk, ← drows_app, List.take_append_of_le_length (by rw [drows_len, hpl]; omega)]
        exact List.take_of_length_le (by rw [drows_len, hpl]; omega)
      · have hpp : p ∈ ps := by
          rcases List.mem_append.1 hp with hp | hp
          · exact List.mem_of_mem_take hp
          · exact List.mem_of_mem_drop hp
        refine (h.sls p hpp).keep (by simp [World.setRow]) (fun b _ hx => setRow_other w g b _ (fun e => hx.2 (by rw [e]; rfl)))
    · simp only [List.size_toArray, List.length_append, List.length_take, List.length_drop, Array.length_toList, hl, hz1, hcs]
      omega
/-- 'clear(s[n:n+1])', behind the row's elements. -/
theorem run_clear1 (w : World) (ty : TypeId) {B g n c cc : Nat} {ps : List DV} (h : OwnD w B (.slice (some ⟨g, 0, none⟩) n c) ps) {cur : Array Value} (hg : w.heap[g]? = some (.cells cur 41 (0, 0))) (hs : (n + 1) * 7 ≤ cur.size) :
    ∃ w', (Builtin.clear_ #[25] ty #[.slice (some ⟨g, n * 7, none⟩) 1 cc]).run Try.prog w = .ok (.tuple #[]) w' ∧ OwnD w' B (.slice (some ⟨g, 0, none⟩) n c) ps ∧ Kept (fun b => b ≠ g) w w' := by
  have hnl := own_len h
  subst hnl
  obtain ⟨i0, hi, hz0, hz1, hz2⟩ := info_parts info_dest
  have hst := run_storeCells_at Try.prog g (ps.length * 7) 41 [.string ⟨#[]⟩, .int .u64 0, .int .u64 0, .slice none 0 0, .int .u64 0, .int .u64 0, .int .u64 0] 0 cur w hg (by simp; omega) (by decide)
  rw [Nat.add_zero] at hst
  have hcl : (cur.toList.take (ps.length * 7)) = drows ps := by
    rcases h.row.2 with ⟨h0, _⟩ | ⟨g', cap, cur', e1, hB, hh, hnc, hcm, hcs, ht⟩
    · cases h0
    · simp only [Value.slice.injEq, Option.some.injEq, Addr.mk.injEq, and_true, true_and] at e1
      obtain ⟨rfl, rfl⟩ := e1
      rw [hg] at hh
      simp only [Option.some.injEq, Obj.cells.injEq] at hh
      rw [hh.1]; exact ht
  obtain ⟨row, hrow⟩ : ∃ row, (cur.toList.take (ps.length * 7) ++ [Value.string ⟨#[]⟩, .int .u64 0, .int .u64 0, .slice none 0 0, .int .u64 0, .int .u64 0, .int .u64 0] ++ cur.toList.drop (ps.length * 7 + [Value.string ⟨#[]⟩, .int .u64 0, .int .u64 0, .slice none 0 0, .int .u64 0, .int .u64 0, .int .u64 0].length)).toArray = row := ⟨_, rfl⟩
  rw [hrow] at hst
  have hrs : row.size = cur.size := by
    rw [← hrow]; simp; omega
  have hrt : row.toList.take (ps.length * 7) = drows ps := by
    rw [← hrow]
    simp only [List.append_assoc]
    rw [List.take_append_of_le_length (by simp; omega), List.take_take, Nat.min_self]; exact hcl
  refine ⟨w.setRow g row, ?_, ⟨?_, fun p hp => (h.sls p hp).keep (by simp [World.setRow]) (fun b _ hx => setRow_other w g b _ (fun e => hx.2 (by rw [e]; rfl)))⟩, ⟨rfl, rfl, rfl, by simp [World.setRow], fun b hb => setRow_other w g b _ hb⟩⟩
  · have hz : (Builtin.zeroCells (Value.agg #[.string ⟨#[]⟩, .int .u64 0, .int .u64 0, .slice none 0 0, .int .u64 0, .int .u64 0, .int .u64 0]).cells 1).toList = [.string ⟨#[]⟩, .int .u64 0, .int .u64 0, .slice none 0 0, .int .u64 0, .int .u64 0, .int .u64 0] := by kernel_rfl
    simp [Builtin.clear_, run_underlying dests_under, zeroValue, typeInfo, hi, hz0, hz, hst]
  · rcases h.row.2 with ⟨h0, _⟩ | ⟨g', cap, cur', e1, hB, hh, hnc, hcm, hcs, ht⟩
    · cases h0
    · simp only [Value.slice.injEq, Option.some.injEq, Addr.mk.injEq, and_true, true_and] at e1
      obtain ⟨rfl, rfl⟩ := e1
      rw [hg] at hh
      simp only [Option.some.injEq, Obj.cells.injEq] at hh
      exact ⟨h.row.1, .inr ⟨g, c, row, rfl, hB, setRow_heap w g _ _ _ _ hg, hnc, hcm, by rw [hrs, hh.1]; exact hcs, hrt⟩⟩
set_option maxRecDepth 100000 in
set_option maxHeartbeats 1600000 in
theorem del_any {w : World} {B g n c k j : Nat} {ps : List DV} (h : OwnD w B (.slice (some ⟨g, 0, none⟩) n c) ps) (hk : k < ps.length) (hj : k + 1 = j) (hl : ps.length ≤ 1000000) :
    Calls Try.prog 63 #[.slice (some ⟨g, 0, none⟩) n c, .int .i64 (k : Int), .int .i64 (j : Int)] w fun e w' => e = .returned (.slice (some ⟨g, 0, none⟩) (n - 1) c) ∧ OwnD w' B (.slice (some ⟨g, 0, none⟩) (n - 1) c) (ps.take k ++ ps.drop (k + 1)) ∧ Kept (But w g) w w' := by
  have hgg := own_g h
  have hnl := own_len h
  obtain ⟨n1, hn1⟩ : ∃ n1, n - 1 = n1 := ⟨_, rfl⟩
  have hn : n = n1 + 1 := by omega
  have hnc : n ≤ c := by
    rcases h.row.2 with ⟨h0, _⟩ | ⟨g', cap, cur, e1, hB, hh, hnc, _⟩
    · cases h0
    · simp only [Value.slice.injEq] at e1; omega
  have hkn : k < n := by omega
  have hn6 : n ≤ 1000000 := by omega
  obtain ⟨a1, l1, c1, hs1⟩ := slice_dests (some ⟨g, 0, none⟩) n c k j n (by omega) (by omega) hnc
  obtain ⟨o, hs2, ho⟩ := from_dests g n c j (by omega) hnc
  have hs3 := fun W => upto_dests (some ⟨g, 0, none⟩) n c k (by omega) W
  have hs4 := fun W => mid_dests g n1 c n1 n (by omega) hnc (by omega) W
  rw [show n - n1 = 1 by omega] at hs4
  have hrd := fun (W : World) (hW : Below w.heap.size w W) (ty : TypeId) => run_del W ty (k := k) (o := o) (h.below hW) hk (by rw [hj]; exact ho)
  rw [hj, hn1] at hrd
  obtain ⟨d1, hd1⟩ : ∃ x, n - j = x := ⟨_, rfl⟩
  obtain ⟨d2, hd2⟩ : ∃ x, c - j = x := ⟨_, rfl⟩
  obtain ⟨d3, hd3⟩ : ∃ x, c - n1 = x := ⟨_, rfl⟩
  obtain ⟨o4, ho4⟩ : ∃ x, n1 * 7 = x := ⟨_, rfl⟩
  rw [hd1, hd2] at hrd hs2
  rw [hd3, ho4] at hs4
  rw [hn1, hj]
  have HRD := hide hrd
  have HGG := hide hgg
  have HN := hide hn
  have HO4 := hide ho4
  have hne : ((k : Int) == (j : Int)) = false := beq_eq_false_iff_ne.2 (by omega)
  have hjn : (j : Int) ≤ (n : Int) := by omega
  clear hrd hgg hn hnl hn1 hd1 hd2 hd3 ho4 h ho hj
  go_enter Try.func63, Try.ntmps63
  go_wp2_with fail
  refine wp_region_growK (fun b => b = g) [] [0, 1, 2, 3, 4, 5] [6, 7] (by kernel_rfl) (by kernel_rfl) (by kernel_rfl) (by kernel_rfl) ?_
  intro w2 hb2
  simp only [stagesOfK, getLK, pickLK]
  have inh : Nonempty (GrK (fun b => b = g) w2) := GrK.some _ w2
  refine wpG_lastK ?_
  repeat (go_big_quiet_step (fail))
  refine wpQuiet_nil ?_
  clear inh
  obtain ⟨_, w3, hr3, ho3, hk3, cur, hc3, hcs⟩ := HRD.out w2 hb2 25
  have HR3 := hide hr3
  have HO3 := hide ho3
  have HK3 := hide (show Kept (But w g) w w3 from (Kept.of_below hb2 (fun _ hx => hx.1)).trans (hk3.mono (fun _ hx => hx.2)))
  obtain ⟨w4, hcl, ho5, hk5⟩ := run_clear1 w3 0 (cc := d3) ho3 hc3 (by have := HN.out; omega)
  rw [HO4.out] at hcl
  have HO5 := hide ho5
  have HK5 := hide (HK3.out.trans (hk5.mono (fun _ hx => hx.2)))
  clear hr3 ho3 hk3 hc3 hcs ho5 hk5 hb2
  go_wp2_with (at_builtin; refine Ldg.wpList_app_run rfl _ _ _ _ rfl rfl rfl HR3.out ?_)
  go_wp2_with fail
  go_ret
  exact ⟨rfl, HO5.out, HK5.out⟩
set_option maxRecDepth 100000 in
set_option maxHeartbeats 1600000 in
theorem lleave_any {w : World} {v : Value} {L : Le} (h : LedAt w v L) (hf : L.Fit) (n : ByteArray) :
    Calls Try.prog 33 #[v, .string n] w (TwoE w (L.leave n)) := by
  have HLED := hide h
  obtain ⟨a, c, ps, rfl, hc, hd, hds⟩ := h
  have hmn := many_of hf hd
  have hnm := names_eq hd
  obtain ⟨m, hm⟩ : ∃ m, ps.length = m := ⟨_, rfl⟩
  rw [hm] at hc hmn HLED ⊢
  have hbx := Box2.made w (.int .u64 (L.first : Int)) (.int .u64 (L.next : Int)) a m c
  have hlc := fun W (hW : Below w.heap.size w W) => lcopied_any (HLED.out.below hW) (by have := hf.many; omega) (fun d hd => by have := (hf.each d hd).len; omega)
  have hpl := fun W (hW : Below w.heap.size w W) => placeOf_any a c ps n W (hds.below hW) (by omega)
  rw [hm] at hpl
  have HPL := hide hpl
  have HDS := hide hds
  have HD := hide hd
  have HM := hide hm
  have HNM := hide hnm
  obtain ⟨wA, hwA⟩ : ∃ W, (w.alloc (.cells #[.int .u64 (L.first : Int), .int .u64 (L.next : Int), .slice a m c] 27)).alloc (.cells #[.int .u64 0, .int .u64 0, .slice none 0 0] 27) = W := ⟨_, rfl⟩
  rw [hwA] at hbx
  have z0 := lcell_of hbx.b0 0 rfl
  have z1 := lcell_of hbx.b0 1 rfl
  have z2 := lcell_of hbx.b0 2 rfl
  have y0 := lcell_of hbx.b1 0 rfl
  have y1 := lcell_of hbx.b1 1 rfl
  have y2 := lcell_of hbx.b1 2 rfl
  have fy := lfrozen_of hbx.b1
  have HLC := hide hlc
  have HBX := hide hbx
  have HF := hide hf
  have hnx := hf.next
  obtain ⟨R, hR⟩ : ∃ R, L.leave n = R := ⟨_, rfl⟩
  rw [hR]
  unfold Le.leave Le.names at hR
  rw [hnm] at hR
  have HR := hide hR
  clear hlc hpl hm hds hd hf hc hbx hR hnm
  go_enter Try.func33, Try.ntmps33
  go_wp2_with fail
  refine (HPL.out _ HBX.out.bel).mono ?_
  rintro e w1 ⟨rfl, hb1⟩
  have HX1 := hide (HBX.out.then hb1)
  clear z0 z1 z2 y0 y1 y2 fy hwA hb1
  have z0 := lcell_of HX1.out.b0 0 rfl
  have z1 := lcell_of HX1.out.b0 1 rfl
  have z2 := lcell_of HX1.out.b0 2 rfl
  have y0 := lcell_of HX1.out.b1 0 rfl
  have y1 := lcell_of HX1.out.b1 1 rfl
  have y2 := lcell_of HX1.out.b1 2 rfl
  have fy := lfrozen_of HX1.out.b1
  rcases Ldg.plc_cases (ps.map (fun p => p.1.name)) n with ⟨hp, _⟩ | ⟨k, hk, hp, _⟩
  · have hR := HR.out
    rw [if_pos hp] at hR
    subst hR
    rw [hp]
    clear HR hp
    go_wp2_with fail
    refine bodyPost_ret (v := .tuple #[.agg #[.int .u64 0, .int .u64 0, .slice none 0 0], .int .i64 5]) (by simp [results, Try.results33, go_sem, y0, y1, y2]) rfl ?_
    exact TwoE.err HX1.out 5 rfl
  · rw [List.length_map] at hk
    have hR := HR.out
    rw [hp, if_neg (by omega), Int.toNat_natCast] at hR
    have HRR := hide hR
    have hkm : k < m := by have := HM.out; omega
    have hk0 : ((k : Int) == -1) = false := by simp
    rw [hp]
    clear hp HR hR
    go_wp2_with fail
    refine (HLC.out _ HX1.out.bel).mono ?_
    rintro e w2 ⟨g, c', qs, rfl, hqs, hown, hb2⟩
    have HX2 := hide (HX1.out.then hb2)
    have HOW := hide hown
    have HQS := hide hqs
    obtain ⟨N, hN⟩ : ∃ N, w2.heap.size = N := ⟨_, rfl⟩
    have hx2 := HX2.out
    have s1 := hx2.size
    have hgg := own_g hown
    rw [hN] at s1 hgg
    obtain ⟨n', hn'⟩ : ∃ n', qs.length = n' := ⟨_, rfl⟩
    rw [hn'] at HOW ⊢
    obtain ⟨wB, hwB⟩ : ∃ W, w2.alloc (.cells #[.int .u64 (L.first : Int), .int .u64 (L.next : Int), .slice (some ⟨g, 0, none⟩) n' c'] 27) = W := ⟨_, rfl⟩
    have o0 : wB.heap[N]? = some (.cells #[.int .u64 (L.first : Int), .int .u64 (L.next : Int), .slice (some ⟨g, 0, none⟩) n' c'] 27 (0, 0)) := by
      rw [← hwB, ← hN]; show (w2.heap.push _)[w2.heap.size]? = _; simp
    have kB : Below w2.heap.size w2 wB := by rw [← hwB]; exact (Below.refl _ _).alloc (Nat.le_refl _) _
    have xB := hx2.then kB
    have sB : wB.heap.size = N + 1 := by rw [← hwB]; simp [hN]
    have hdl : L.dests.length = n' := by rw [← hn', ← hqs, List.length_map]
    have hkn : k < n' := by rw [← hdl, HD.out, List.length_map]; exact hk
    have hn4 : n' ≤ 4 := by rw [← hdl]; exact HF.out.many
    obtain ⟨k1, hk1⟩ : ∃ k1, k + 1 = k1 := ⟨_, rfl⟩
    have hk1i : (k : Int) + 1 = (k1 : Int) := by omega
    have hdel := del_any (HOW.out.below kB) (k := k) (j := k1) (by omega) hk1 (by omega)
    obtain ⟨nd, hnd⟩ : ∃ x, n' - 1 = x := ⟨_, rfl⟩
    rw [hnd] at hdel
    have HDEL := hide hdel
    have HN' := hide hn'
    have x0 := lcell_of o0 0 rfl
    have x1 := lcell_of o0 1 rfl
    have x2 := lcell_of o0 2 rfl
    have HO0 := hide o0
    have HXB := hide xB
    have HKB := hide kB
    have hgl2 := hgg.1
    have hgB := hgg.2
    clear hx2 hown hqs hb2 o0 xB kB hgg z0 z1 z2 y0 y1 y2 fy hn' hdl hdel hk1 hnd
    go_wp2_with fail
    refine HDEL.out.mono ?_
    rintro e w3 ⟨rfl, ho3, hk3⟩
    have hs1 := HX1.out.size
    have o3 := (hk3.block N ⟨by omega, by omega⟩).trans HO0.out
    have b3 := (hk3.block (w.heap.size + 1) ⟨by omega, by omega⟩).trans HXB.out.b1
    have l3 := HXB.out.bel.trans (hk3.bel (B := w.heap.size) (fun b hb => ⟨by omega, by omega⟩))
    obtain ⟨w4, hw4⟩ : ∃ W, w3.setCell ⟨N, 2, none⟩ (.slice (some ⟨g, 0, none⟩) nd c') = W := ⟨_, rfl⟩
    have o4 : w4.heap[N]? = some (.cells #[.int .u64 (L.first : Int), .int .u64 (L.next : Int), .slice (some ⟨g, 0, none⟩) nd c'] 27 (0, 0)) := by
      rw [← hw4]; exact box_set o3 _
    have k34 : Kept (fun b => b ≠ N) w3 w4 := by rw [← hw4]; exact Kept.setCell (Kept.refl _ _) (fun _ h e => h e) _
    have b4 := (k34.block (w.heap.size + 1) (by omega)).trans b3
    have l4 := l3.trans (k34.bel (B := w.heap.size) (fun b hb => by omega))
    have ho4 : OwnD w4 w1.heap.size (.slice (some ⟨g, 0, none⟩) nd c') (qs.take k ++ qs.drop (k + 1)) := by
      refine ho3.keepK k34 (fun b hb e => ?_) (fun p hp => ?_)
      · have : g = b := Option.some.inj hb
        omega
      · have hpp : p ∈ qs := by
          rcases List.mem_append.1 hp with hp | hp
          · exact List.mem_of_mem_take hp
          · exact List.mem_of_mem_drop hp
        have h0 := ((HOW.out.sls p hpp).mono (Y := fun x => w1.heap.size ≤ x ∧ (Value.slice (some ⟨g, 0, none⟩) nd c').ownBlock ≠ some x ∧ x ≠ N) (fun x hx hy => ⟨hy.1, hy.2, by omega⟩)).below HKB.out
        exact h0.keep hk3.size (fun x hx hy => hk3.block x ⟨hx, fun e => hy.2.1 (by rw [e]; rfl)⟩)
    have w32 := lcell_of o3 2 rfl
    have w3f := lfrozen_of o3
    have p0 := lcell_of o4 0 rfl
    have p1 := lcell_of o4 1 rfl
    have p2 := lcell_of o4 2 rfl
    have d0 := lcell_of b4 0 rfl
    have d1 := lcell_of b4 1 rfl
    have d2 := lcell_of b4 2 rfl
    have fd := lfrozen_of b4
    have HO4 := hide ho4
    have HL4 := hide l4
    clear o3 b3 l3 k34 b4 l4 ho4 ho3 hk3 o4 x0 x1 x2
    go_wp2_with fail
    refine bodyPost_ret (v := .tuple #[.agg #[.int .u64 (L.first : Int), .int .u64 (L.next : Int), .slice (some ⟨g, 0, none⟩) nd c'], .int .i64 0]) (by simp [results, Try.results33, go_sem, d0, d1, d2]) rfl ?_
    have hfin := led_told (w := w) (first := L.first) (next := L.next) HX1.out.size HO4.out HL4.out (.int .u64 (L.first : Int)) (.int .u64 (L.next : Int)) rfl rfl rfl
    rw [List.map_append, List.map_take, List.map_drop, HQS.out] at hfin
    rw [← HRR.out]
    exact ⟨_, rfl, hfin⟩
end Go.Proofs.Ytjbdofjheeljkaa
