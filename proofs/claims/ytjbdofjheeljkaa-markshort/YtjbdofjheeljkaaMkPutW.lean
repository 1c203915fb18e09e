/-
  putDest, Put.
-/
import Derived.Test.YtjbdofjheeljkaaMkNumsW
import Derived.Test.YtjbdofjheeljkaaGrowQ
import Derived.Deep.DeepCutAuto
import Derived.Test.YtjbdofjheeljkaaLdgCntW
import Derived.Test.YtjbdofjheeljkaaLdgRead2W
namespace Go.Proofs.Ytjbdofjheeljkaa
open Go.RowKit
open Ldg (De Le Rd Rl)

theorem u64_row {w : World} {g : Nat} {l : List Nat} (h : w.heap[g]? = some (.cells (uV l).toArray 23 (0, 0))) : U64In anyB w (some ⟨g, 0, none⟩) l := by
  have h2 := SlIn.row (X := anyB) (l := l) (r := []) (c := l.length) (by rw [List.append_nil]; exact h) trivial (Nat.le_refl _)
  obtain ⟨a, c, e, _, _, hu⟩ := h2
  cases e
  exact hu
theorem bs_cat (x y : List UInt8) : Num.bs x ++ Num.bs y = Num.bs (x ++ y) := by rw [bs_append, Num.bs_toList]
set_option maxRecDepth 100000 in
set_option maxHeartbeats 1600000 in
theorem putDest_any {X : Nat → Prop} {w : World} {sv : Value} (nm : ByteArray) (s lo ak ev rj : Nat) {ab : List Nat} (h : SlIn X w sv ab) (hw : Mrk.Wide ⟨nm, s, lo, ab, ak, ev, rj⟩) :
    Calls Try.prog 66 #[.agg #[.string nm, .int .u64 (s : Int), .int .u64 (lo : Int), sv, .int .u64 (ak : Int), .int .u64 (ev : Int), .int .u64 (rj : Int)]] w fun e w' => e = .returned (.string (Num.bs (Mrk.destB ⟨nm, s, lo, ab, ak, ev, rj⟩))) ∧ Below w.heap.size w w' := by
  obtain ⟨va, vc, rfl, hvc, hz, hu⟩ := h
  have hsl : SlIn X w (.slice va ab.length vc) ab := ⟨va, vc, rfl, hvc, hz, hu⟩
  have hnm : nm.size ≤ 1000000 := hw.name
  have hlen : ab.length ≤ 1000 := hw.len
  have h6 : ∀ x ∈ [s, lo, ak, ev, rj, ab.length], x < 18446744073709551616 := by
    intro x hx
    simp only [List.mem_cons, List.not_mem_nil, or_false] at hx
    rcases hx with rfl | rfl | rfl | rfl | rfl | rfl
    · exact hw.since
    · exact hw.low
    · exact hw.ak
    · exact hw.ev
    · exact hw.rj
    · omega
  have hn6 := Mrk.nums_le _ h6
  have hst := Mrk.nums_le _ (Mrk.steps_lt lo ab)
  rw [Mrk.steps_len] at hst
  have hpn := Num.put_len10 (n := nm.size) (by omega)
  have hlo : lo < 18446744073709551616 := hw.low
  have hab : ∀ x ∈ ab, x < 18446744073709551616 := hw.nums
  have hres : Num.bs (Num.put nm.size ++ nm.data.toList) ++ Num.bs (Mrk.nums [s, lo, ak, ev, rj, ab.length]) ++ Num.bs (Mrk.nums (Mrk.steps lo ab)) = Num.bs (Mrk.destB ⟨nm, s, lo, ab, ak, ev, rj⟩) := by rw [bs_cat, bs_cat]; rfl
  obtain ⟨R, hR⟩ : ∃ R, Num.bs (Mrk.destB ⟨nm, s, lo, ab, ak, ev, rj⟩) = R := ⟨_, rfl⟩
  rw [hR] at hres ⊢
  obtain ⟨an, han⟩ : ∃ x, ab.length = x := ⟨_, rfl⟩
  rw [han] at hsl h6 hn6 hst hlen hres ⊢
  have e1 : (Num.bs (Num.put nm.size ++ nm.data.toList)).size ≤ 1000010 := by
    rw [Num.bs_size, List.length_append]
    have : nm.data.toList.length = nm.size := Array.length_toList
    omega
  have e2 : (Num.bs (Mrk.nums [s, lo, ak, ev, rj, an])).size ≤ 60 := by rw [Num.bs_size]; exact hn6
  have e3 : (Num.bs (Mrk.nums (Mrk.steps lo ab))).size ≤ 10000 := by rw [Num.bs_size]; omega
  obtain ⟨T1, hT1⟩ : ∃ x, Num.bs (Num.put nm.size ++ nm.data.toList) = x := ⟨_, rfl⟩
  obtain ⟨T2, hT2⟩ : ∃ x, Num.bs (Mrk.nums [s, lo, ak, ev, rj, an]) = x := ⟨_, rfl⟩
  obtain ⟨T3, hT3⟩ : ∃ x, Num.bs (Mrk.nums (Mrk.steps lo ab)) = x := ⟨_, rfl⟩
  rw [hT1] at e1 hres
  rw [hT2] at e2 hres
  rw [hT3] at e3 hres
  have HT1 := hide hT1
  have HT2 := hide hT2
  have HT3 := hide hT3
  have HRES := hide hres
  have H6 := hide h6
  have HLO := hide hlo
  have HAB := hide hab
  have HSL := hide hsl
  have HAN := hide han
  have hs12 : (T1 ++ T2).size ≤ 1000070 := by rw [ByteArray.size_append]; omega
  have v1 : IntKind.u64.wrap ((an : Nat) : Int) = (an : Int) := by rw [IntKind.wrap_u64]; omega
  clear h6 hn6 hst hpn hlo hab hw hres hsl hu hvc hz han hR hT1 hT2 hT3
  go_enter Try.func66, Try.ntmps66
  go_upto_region 1 with fail
  have hza := alloc_new w (.cells #[.string nm, .int .u64 (s : Int), .int .u64 (lo : Int), .slice va an vc, .int .u64 (ak : Int), .int .u64 (ev : Int), .int .u64 (rj : Int)] 41)
  have hba := bnew w (.cells #[.string nm, .int .u64 (s : Int), .int .u64 (lo : Int), .slice va an vc, .int .u64 (ak : Int), .int .u64 (ev : Int), .int .u64 (rj : Int)] 41)
  obtain ⟨wA, hwA⟩ : ∃ W, w.alloc (.cells #[.string nm, .int .u64 (s : Int), .int .u64 (lo : Int), .slice va an vc, .int .u64 (ak : Int), .int .u64 (ev : Int), .int .u64 (rj : Int)] 41) = W := ⟨_, rfl⟩
  rw [hwA] at hza hba
  try rw [hwA]
  have HZ := hide hza
  have HBA := hide hba
  have HSA := hide (HSL.out.below hba)
  clear hza hba hwA
  go_wp2_with fail
  refine wp_region_growQ (fun b => b < wA.heap.size) 28 rfl (by kernel_rfl) ?_
  intro wq hbq
  have hDl : w.heap.size < wA.heap.size := (Array.getElem?_eq_some_iff.1 HZ.out).1
  have HBQ := hide hbq
  have inh : Nonempty (GrK (fun b => b < wA.heap.size) wq) := GrK.some _ wq
  have x0 := fun z : GrK (fun b => b < wA.heap.size) wq => z.cell (a := ⟨w.heap.size, 0, none⟩) hDl (lcell_of (at_then HZ.out hbq) 0 rfl)
  have x1 := fun z : GrK (fun b => b < wA.heap.size) wq => z.cell (a := ⟨w.heap.size, 1, none⟩) hDl (lcell_of (at_then HZ.out hbq) 1 rfl)
  have x2 := fun z : GrK (fun b => b < wA.heap.size) wq => z.cell (a := ⟨w.heap.size, 2, none⟩) hDl (lcell_of (at_then HZ.out hbq) 2 rfl)
  have x3 := fun z : GrK (fun b => b < wA.heap.size) wq => z.cell (a := ⟨w.heap.size, 3, none⟩) hDl (lcell_of (at_then HZ.out hbq) 3 rfl)
  have x4 := fun z : GrK (fun b => b < wA.heap.size) wq => z.cell (a := ⟨w.heap.size, 4, none⟩) hDl (lcell_of (at_then HZ.out hbq) 4 rfl)
  have x5 := fun z : GrK (fun b => b < wA.heap.size) wq => z.cell (a := ⟨w.heap.size, 5, none⟩) hDl (lcell_of (at_then HZ.out hbq) 5 rfl)
  have x6 := fun z : GrK (fun b => b < wA.heap.size) wq => z.cell (a := ⟨w.heap.size, 6, none⟩) hDl (lcell_of (at_then HZ.out hbq) 6 rfl)
  have HSA := hide (HSA.out.below hbq)
  clear hbq
  refine growQ_plain [0, 1, 3, 4, 5, 6, 7, 8, 9, 10, 11, 12, 13, 14, 15, 16, 20, 21, 22, 23] 8 #[true, true, false, true, true, true, true, true, true, true, true, true, true, true, true, true, true, false, false, false, true, true, true, true, false, false, false, false] rfl (by kernel_rfl) (by kernel_rfl) ?_
  simp only [getLK, pickLK]
  repeat (go_big_quiet_step (fail))
  refine wpQuiet_nil ?_
  clear x0 x1 x2 x3 x4 x5 x6 inh
  refine growQ_two 2 17 _ _ 7 rfl rfl rfl (by kernel_rfl) ?_ ?_
  · go_wp2_with fail
    refine (putText_any nm wq (by omega)).mono ?_
    rintro e w1a ⟨rfl, hb⟩
    rw [HT1.out]
    have hk : Kept (fun b => b < wA.heap.size) wq w1a := Kept.of_below hb (fun b hb => Nat.lt_of_lt_of_le hb HBQ.out.size)
    have HSA := hide (HSA.out.below hb)
    have HBQ := hide (HBQ.out.trans (hb.mono HBQ.out.size))
    clear hb
    go_wp2
    refine OnToQ.mk hk (Sub.refl _) ?_
    clear hk
    refine growQ_one 17 _ 6 rfl rfl (by kernel_rfl) ?_
    go_wp2
    have hb := bnew w1a (.cells #[.int .u64 (s : Int), .int .u64 (lo : Int), .int .u64 (ak : Int), .int .u64 (ev : Int), .int .u64 (rj : Int), .int .u64 (an : Int)] 23)
    have hza := alloc_new w1a (.cells #[.int .u64 (s : Int), .int .u64 (lo : Int), .int .u64 (ak : Int), .int .u64 (ev : Int), .int .u64 (rj : Int), .int .u64 (an : Int)] 23)
    refine OnToQ.mk (Kept.of_below hb (fun b hb => Nat.lt_of_lt_of_le hb HBQ.out.size)) (Sub.refl _) ?_
    obtain ⟨g, hg⟩ : ∃ y, w1a.heap.size = y := ⟨_, rfl⟩
    obtain ⟨w2a, hW⟩ : ∃ z, w1a.alloc (.cells #[.int .u64 (s : Int), .int .u64 (lo : Int), .int .u64 (ak : Int), .int .u64 (ev : Int), .int .u64 (rj : Int), .int .u64 (an : Int)] 23) = z := ⟨_, rfl⟩
    have HSA := hide (HSA.out.below hb)
    have HBQ := hide (HBQ.out.trans (hb.mono HBQ.out.size))
    rw [hg, hW] at hza
    rw [hW] at HSA HBQ
    try rw [hg]
    try rw [hW]
    have HRW : Hid (w2a.heap[g]? = some (.cells (uV [s, lo, ak, ev, rj, an]).toArray 23 (0, 0))) := hide hza
    clear hza hb hW hg
    refine growQ_one 18 _ 5 rfl rfl (by kernel_rfl) ?_
    go_wp2_with fail
    refine (putNums_any (u64_row HRW.out) rfl H6.out (by show (6 : Nat) ≤ 1000000; omega)).mono ?_
    rintro e w3a ⟨rfl, hb⟩
    rw [HT2.out]
    have hk : Kept (fun b => b < wA.heap.size) w2a w3a := Kept.of_below hb (fun b hb => Nat.lt_of_lt_of_le hb HBQ.out.size)
    have HSA := hide (HSA.out.below hb)
    have HBQ := hide (HBQ.out.trans (hb.mono HBQ.out.size))
    clear hb HRW
    go_wp2
    refine OnToQ.mk hk (Sub.refl _) ?_
    clear hk
    have inh : Nonempty (GrK (fun b => b < wA.heap.size) w3a) := GrK.some _ w3a
    refine growQ_plain [19] 4 #[true, true, true, true, true, true, true, true, true, true, true, true, true, true, true, true, true, true, true, true, true, true, true, true, false, false, false, false] rfl (by kernel_rfl) (by kernel_rfl) ?_
    simp only [getLK, pickLK]
    repeat (go_big_quiet_step (fail))
    refine wpQuiet_nil ?_
    clear inh
    refine growQ_one 24 _ 3 rfl rfl (by kernel_rfl) ?_
    go_wp2_with fail
    refine (steps_any lo HLO.out HSA.out HAB.out (by rw [HAN.out]; omega)).mono ?_
    rintro e w4a ⟨v4, rfl, hs4, hb⟩
    obtain ⟨a4, c4, rfl, _, _, hu4⟩ := hs4
    have hk : Kept (fun b => b < wA.heap.size) w3a w4a := Kept.of_below hb (fun b hb => Nat.lt_of_lt_of_le hb HBQ.out.size)
    have HBQ := hide (HBQ.out.trans (hb.mono HBQ.out.size))
    have HU4 := hide hu4
    clear hb hu4
    go_wp2
    refine OnToQ.mk hk (Sub.refl _) ?_
    clear hk
    refine growQ_one 25 _ 2 rfl rfl (by kernel_rfl) ?_
    go_wp2_with fail
    refine (putNums_any HU4.out rfl (Mrk.steps_lt lo ab) (by rw [Mrk.steps_len, HAN.out]; omega)).mono ?_
    rintro e w5a ⟨rfl, hb⟩
    rw [HT3.out]
    have hk : Kept (fun b => b < wA.heap.size) w4a w5a := Kept.of_below hb (fun b hb => Nat.lt_of_lt_of_le hb HBQ.out.size)
    have HBQ := hide (HBQ.out.trans (hb.mono HBQ.out.size))
    clear hb
    go_wp2
    refine OnToQ.mk hk (Sub.refl _) ?_
    clear hk
    have inh : Nonempty (GrK (fun b => b < wA.heap.size) w5a) := GrK.some _ w5a
    refine growQ_plain [26, 27] 0 #[true, true, true, true, true, true, true, true, true, true, true, true, true, true, true, true, true, true, true, true, true, true, true, true, true, true, true, true] rfl (by kernel_rfl) (by kernel_rfl) ?_
    simp only [getLK, pickLK]
    repeat (go_big_quiet_step (fail))
    refine wpQuiet_nil ?_
    clear inh
    refine growQ_end (by kernel_rfl) (by kernel_rfl) ?_
    go_wp2
    go_ret
    exact ⟨by rw [← HRES.out]; rfl, HBA.out.trans (HBQ.out.mono HBA.out.size)⟩
  · go_wp2
    have hb := bnew wq (.cells #[.int .u64 (s : Int), .int .u64 (lo : Int), .int .u64 (ak : Int), .int .u64 (ev : Int), .int .u64 (rj : Int), .int .u64 (an : Int)] 23)
    have hza := alloc_new wq (.cells #[.int .u64 (s : Int), .int .u64 (lo : Int), .int .u64 (ak : Int), .int .u64 (ev : Int), .int .u64 (rj : Int), .int .u64 (an : Int)] 23)
    refine OnToQ.mk (Kept.of_below hb (fun b hb => Nat.lt_of_lt_of_le hb HBQ.out.size)) (Sub.refl _) ?_
    obtain ⟨g, hg⟩ : ∃ y, wq.heap.size = y := ⟨_, rfl⟩
    obtain ⟨w1b, hW⟩ : ∃ z, wq.alloc (.cells #[.int .u64 (s : Int), .int .u64 (lo : Int), .int .u64 (ak : Int), .int .u64 (ev : Int), .int .u64 (rj : Int), .int .u64 (an : Int)] 23) = z := ⟨_, rfl⟩
    have HSA := hide (HSA.out.below hb)
    have HBQ := hide (HBQ.out.trans (hb.mono HBQ.out.size))
    rw [hg, hW] at hza
    rw [hW] at HSA HBQ
    try rw [hg]
    try rw [hW]
    have HRW : Hid (w1b.heap[g]? = some (.cells (uV [s, lo, ak, ev, rj, an]).toArray 23 (0, 0))) := hide hza
    clear hza hb hW hg
    refine growQ_one 2 _ 6 rfl rfl (by kernel_rfl) ?_
    go_wp2_with fail
    refine (putText_any nm w1b (by omega)).mono ?_
    rintro e w2b ⟨rfl, hb⟩
    rw [HT1.out]
    have hk : Kept (fun b => b < wA.heap.size) w1b w2b := Kept.of_below hb (fun b hb => Nat.lt_of_lt_of_le hb HBQ.out.size)
    have HSA := hide (HSA.out.below hb)
    have HBQ := hide (HBQ.out.trans (hb.mono HBQ.out.size))
    have HRW := hide (at_then HRW.out hb)
    clear hb
    go_wp2
    refine OnToQ.mk hk (Sub.refl _) ?_
    clear hk
    refine growQ_one 18 _ 5 rfl rfl (by kernel_rfl) ?_
    go_wp2_with fail
    refine (putNums_any (u64_row HRW.out) rfl H6.out (by show (6 : Nat) ≤ 1000000; omega)).mono ?_
    rintro e w3b ⟨rfl, hb⟩
    rw [HT2.out]
    have hk : Kept (fun b => b < wA.heap.size) w2b w3b := Kept.of_below hb (fun b hb => Nat.lt_of_lt_of_le hb HBQ.out.size)
    have HSA := hide (HSA.out.below hb)
    have HBQ := hide (HBQ.out.trans (hb.mono HBQ.out.size))
    clear hb HRW
    go_wp2
    refine OnToQ.mk hk (Sub.refl _) ?_
    clear hk
    have inh : Nonempty (GrK (fun b => b < wA.heap.size) w3b) := GrK.some _ w3b
    refine growQ_plain [19] 4 #[true, true, true, true, true, true, true, true, true, true, true, true, true, true, true, true, true, true, true, true, true, true, true, true, false, false, false, false] rfl (by kernel_rfl) (by kernel_rfl) ?_
    simp only [getLK, pickLK]
    repeat (go_big_quiet_step (fail))
    refine wpQuiet_nil ?_
    clear inh
    refine growQ_one 24 _ 3 rfl rfl (by kernel_rfl) ?_
    go_wp2_with fail
    refine (steps_any lo HLO.out HSA.out HAB.out (by rw [HAN.out]; omega)).mono ?_
    rintro e w4b ⟨v4, rfl, hs4, hb⟩
    obtain ⟨a4, c4, rfl, _, _, hu4⟩ := hs4
    have hk : Kept (fun b => b < wA.heap.size) w3b w4b := Kept.of_below hb (fun b hb => Nat.lt_of_lt_of_le hb HBQ.out.size)
    have HBQ := hide (HBQ.out.trans (hb.mono HBQ.out.size))
    have HU4 := hide hu4
    clear hb hu4
    go_wp2
    refine OnToQ.mk hk (Sub.refl _) ?_
    clear hk
    refine growQ_one 25 _ 2 rfl rfl (by kernel_rfl) ?_
    go_wp2_with fail
    refine (putNums_any HU4.out rfl (Mrk.steps_lt lo ab) (by rw [Mrk.steps_len, HAN.out]; omega)).mono ?_
    rintro e w5b ⟨rfl, hb⟩
    rw [HT3.out]
    have hk : Kept (fun b => b < wA.heap.size) w4b w5b := Kept.of_below hb (fun b hb => Nat.lt_of_lt_of_le hb HBQ.out.size)
    have HBQ := hide (HBQ.out.trans (hb.mono HBQ.out.size))
    clear hb
    go_wp2
    refine OnToQ.mk hk (Sub.refl _) ?_
    clear hk
    have inh : Nonempty (GrK (fun b => b < wA.heap.size) w5b) := GrK.some _ w5b
    refine growQ_plain [26, 27] 0 #[true, true, true, true, true, true, true, true, true, true, true, true, true, true, true, true, true, true, true, true, true, true, true, true, true, true, true, true] rfl (by kernel_rfl) (by kernel_rfl) ?_
    simp only [getLK, pickLK]
    repeat (go_big_quiet_step (fail))
    refine wpQuiet_nil ?_
    clear inh
    refine growQ_end (by kernel_rfl) (by kernel_rfl) ?_
    go_wp2
    go_ret
    exact ⟨by rw [← HRES.out]; rfl, HBA.out.trans (HBQ.out.mono HBA.out.size)⟩
set_option maxRecDepth 100000 in
set_option maxHeartbeats 1600000 in
theorem mput_any {w : World} {v : Value} {F N : Nat} {D : List De} (h : LedAt w v ⟨F, N, D⟩) (hr : (Le.mk F N D).right = true) (hsm : ∀ d ∈ D, De.Small d) (hw : ∀ d ∈ D, Mrk.Wide d) (hf : F < 18446744073709551616) (hn : N < 18446744073709551616) (h4 : D.length ≤ 4) :
    Calls Try.prog 39 #[v] w fun e w' => e = .returned (.tuple #[.string (Num.bs (Mrk.ledB ⟨F, N, D⟩)), .int .i64 0]) ∧ Below w.heap.size w w' := by
  have HLED := hide h
  obtain ⟨a, c, ps, e, hc, hd, hds⟩ := h
  have e : v = .agg #[.int .u64 (F : Int), .int .u64 (N : Int), .slice a ps.length c] := e
  subst e
  have hd : D = ps.map Prod.fst := hd
  have hm4 : ps.length ≤ 4 := by rw [hd, List.length_map] at h4; exact h4
  have hml : D.length = ps.length := by rw [hd, List.length_map]
  have hat : ∀ k (hk : k < ps.length), ∃ hk' : k < D.length, D[k] = ps[k].1 := fun k hk => ⟨by omega, by simp [hd]⟩
  obtain ⟨m, hm⟩ : ∃ m, ps.length = m := ⟨_, rfl⟩
  rw [hm] at hm4 hml HLED ⊢
  have h3 : ∀ x ∈ [F, N, m], x < 18446744073709551616 := by
    intro x hx
    simp only [List.mem_cons, List.not_mem_nil, or_false] at hx
    rcases hx with rfl | rfl | rfl
    · exact hf
    · exact hn
    · omega
  have hlb : Mrk.ledB ⟨F, N, D⟩ = Mrk.nums [F, N, m] ++ Mrk.destsB D := by rw [← hml]; rfl
  have hl3 := Mrk.nums_le _ h3
  have HLB := hide hlb
  have H3 := hide h3
  have HL3 := hide hl3
  have HR := hide hr
  have HSM := hide hsm
  have HW := hide hw
  have HD := hide hd
  have HDS := hide hds
  have HM := hide hm
  have HML := hide hml
  have HAT := hide hat
  have hal := alloc_new w (.cells #[.int .u64 (F : Int), .int .u64 (N : Int), .slice a m c] 27)
  have hba := bnew w (.cells #[.int .u64 (F : Int), .int .u64 (N : Int), .slice a m c] 27)
  obtain ⟨wA, hwA⟩ : ∃ W, w.alloc (.cells #[.int .u64 (F : Int), .int .u64 (N : Int), .slice a m c] 27) = W := ⟨_, rfl⟩
  rw [hwA] at hal hba
  have HA := hide hal
  have HBA := hide hba
  have HWA := hide hwA
  clear hc hd hds hm hml hat h3 hl3 hlb hr hsm hw hf hn h4 hal hba hwA
  go_enter Try.func39, Try.ntmps39
  go_upto_region 1 with fail
  try rw [HWA.out]
  have x0 := lcell_of HA.out 0 rfl
  have x1 := lcell_of HA.out 1 rfl
  have x2 := lcell_of HA.out 2 rfl
  go_wp2_with fail
  clear x0 x1 x2
  refine (right_any (HLED.out.below HBA.out) (by show D.length ≤ 1000; rw [HML.out]; omega) (fun d hd => HSM.out d hd)).mono ?_
  rintro e w1 ⟨rfl, hb1⟩
  rw [HR.out]
  have HA := hide (at_then HA.out hb1)
  have HB := hide (HBA.out.trans (hb1.mono HBA.out.size))
  clear hb1
  have x0 := lcell_of HA.out 0 rfl
  have x1 := lcell_of HA.out 1 rfl
  have x2 := lcell_of HA.out 2 rfl
  have v1 : IntKind.u64.wrap ((m : Nat) : Int) = (m : Int) := by rw [IntKind.wrap_u64]; omega
  have hbn := bnew w1 (.cells #[.int .u64 (F : Int), .int .u64 (N : Int), .int .u64 (m : Int)] 23)
  have hza := alloc_new w1 (.cells #[.int .u64 (F : Int), .int .u64 (N : Int), .int .u64 (m : Int)] 23)
  have HA2 := hide (at_then HA.out hbn)
  have HB2 := hide (HB.out.trans (hbn.mono HB.out.size))
  have HRW : Hid ((w1.alloc (.cells #[.int .u64 (F : Int), .int .u64 (N : Int), .int .u64 (m : Int)] 23)).heap[w1.heap.size]? = some (.cells (uV [F, N, m]).toArray 23 (0, 0))) := hide hza
  obtain ⟨w2, hw2⟩ : ∃ W, w1.alloc (.cells #[.int .u64 (F : Int), .int .u64 (N : Int), .int .u64 (m : Int)] 23) = W := ⟨_, rfl⟩
  have HW2 := hide hw2
  rw [hw2] at HA2 HB2 HRW
  clear hbn hza hw2
  go_wp2_with fail
  try rw [HW2.out]
  clear x0 x1 x2 v1
  refine (putNums_any (u64_row HRW.out) rfl H3.out (by show (3 : Nat) ≤ 1000000; omega)).mono ?_
  rintro e w3 ⟨rfl, hb3⟩
  have HA3 := hide (at_then HA2.out hb3)
  have HB3 := hide (HB2.out.trans (hb3.mono HB2.out.size))
  clear hb3
  have x2 := lcell_of HA3.out 2 rfl
  go_upto_region 5 with fail
  clear x2
  go_loopw [4, 23] (fun v4 v23 wr => ∃ (k : Nat) (T : ByteArray), v23 = .int .i64 (k : Int) ∧ k ≤ m ∧ v4 = .string T ∧ Hid (T = Num.bs (Mrk.nums [F, N, m] ++ Mrk.destsB (D.take k))) ∧ T.size ≤ 30 + k * 1010070 ∧ Hid (Below w.heap.size w wr)) (fun _ v23 _ => m - (intOf v23).toNat)
  case atStart => exact ⟨0, _, rfl, Nat.zero_le _, rfl, hide (by simp [Mrk.destsB]), by rw [Num.bs_size]; have h := HL3.out; simp only [List.length_cons, List.length_nil] at h; omega, HB3⟩
  case round =>
    obtain ⟨k, T, rfl, hk, rfl, HT, hts, HB⟩ := hrel
    by_cases hkm : k < m
    · obtain ⟨b, off, nm, s, lo, ab, ak, ev, rj, va, vc, rfl, hbl, hz, hsl, g0, g1, g2, g3, g4, g5, g6⟩ := HDS.out.get HB.out (k := k) (by have := HM.out; omega)
      obtain ⟨hkD, hde⟩ := HAT.out k (by have := HM.out; omega)
      rw [hz] at hde
      have hwd := HW.out _ (List.getElem_mem hkD)
      rw [hde] at hwd
      have HWD := hide hwd
      have HSL := hide hsl
      have htk := Mrk.destsB_take hkD
      rw [hde] at htk
      have HTK := hide htk
      have hdl := (Mrk.destB_len hwd).2
      have hdn := hwd.name
      have hda := hwd.len
      have hdl2 : (Mrk.destB ⟨nm, s, lo, ab, ak, ev, rj⟩).length ≤ 1010070 := by
        have h1 : nm.size ≤ 1000000 := hdn
        have h2 : ab.length ≤ 1000 := hda
        have h3 : (Mrk.destB ⟨nm, s, lo, ab, ak, ev, rj⟩).length ≤ 70 + nm.size + 10 * ab.length := hdl
        omega
      have HDL := hide hdl2
      clear hsl hwd hde hz htk hdl hdn hda hdl2
      obtain ⟨an, han⟩ : ∃ x, ab.length = x := ⟨_, rfl⟩
      rw [han] at g3 HSL
      have HAN := hide han
      clear han
      have hbd := bnew wr (.cells #[.string nm, .int .u64 (s : Int), .int .u64 (lo : Int), .slice va an vc, .int .u64 (ak : Int), .int .u64 (ev : Int), .int .u64 (rj : Int)] 41)
      have HBD := hide hbd
      have HSL2 := hide (HSL.out.below hbd)
      have HBK := hide (HB.out.trans (hbd.mono HB.out.size))
      have hzd := alloc_new wr (.cells #[.string nm, .int .u64 (s : Int), .int .u64 (lo : Int), .slice va an vc, .int .u64 (ak : Int), .int .u64 (ev : Int), .int .u64 (rj : Int)] 41)
      obtain ⟨w5, hw5⟩ : ∃ W, wr.alloc (.cells #[.string nm, .int .u64 (s : Int), .int .u64 (lo : Int), .slice va an vc, .int .u64 (ak : Int), .int .u64 (ev : Int), .int .u64 (rj : Int)] 41) = W := ⟨_, rfl⟩
      rw [hw5] at hzd HSL2 HBK
      have HZD := hide hzd
      have HW5 := hide hw5
      clear hbd hzd hw5
      go_upto_region 7 with fail
      try rw [HW5.out]
      clear g0 g1 g2 g3 g4 g5 g6
      have d0 := lcell_of HZD.out 0 rfl
      have d1 := lcell_of HZD.out 1 rfl
      have d2 := lcell_of HZD.out 2 rfl
      have d3 := lcell_of HZD.out 3 rfl
      have d4 := lcell_of HZD.out 4 rfl
      have d5 := lcell_of HZD.out 5 rfl
      have d6 := lcell_of HZD.out 6 rfl
      go_wp2_with fail
      clear d0 d1 d2 d3 d4 d5 d6
      refine (putDest_any nm s lo ak ev rj HSL2.out HWD.out).mono ?_
      rintro e w6 ⟨rfl, hb6⟩
      obtain ⟨T2, hT2⟩ : ∃ x, Num.bs (Mrk.destB ⟨nm, s, lo, ab, ak, ev, rj⟩) = x := ⟨_, rfl⟩
      have ht2 : T2.size ≤ 1010070 := by rw [← hT2, Num.bs_size]; exact HDL.out
      rw [hT2]
      have HT2 := hide hT2
      have HBE := hide (HBK.out.trans (hb6.mono HBK.out.size))
      clear hT2 hb6
      go_wp2
      go_roundw
      case rel => exact ⟨k + 1, T ++ T2, by go_num, by omega, by go_num, hide (by rw [HT.out, ← HT2.out, bs_cat, HTK.out, List.append_assoc]), by rw [ByteArray.size_append]; omega, HBE⟩
      case measure => simp [intOf]; omega
    · have hke : k = m := by omega
      have htt := HT.out
      rw [hke, ← HML.out, List.take_length, HML.out, ← HLB.out] at htt
      have HTT := hide htt
      clear hke htt
      go_wp2
      go_ret2
      exact ⟨by rw [← HTT.out]; rfl, HB.out⟩
end Go.Proofs.Ytjbdofjheeljkaa
