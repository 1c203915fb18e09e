/-
  Crash: what is left, on another disk.
-/
import Derived.Test.YtpbiongoigbmpaaDskMadeW
import Derived.Test.YtpbiongoigbmpaaDskOrdW
import Derived.Test.YtpbiongoigbmpaaDskNbW
import Derived.Test.YtpbiongoigbmpaaDskBehW
namespace Go.Proofs.Ytpbiongoigbmpaa
open Go.RowKit
open Dsk (Nm Hold Fl Ct By Dk FRel NRel)

theorem kmom_at {w : World} (d : Int) {a : Option Addr} (c : Nat) {ks : List Int} (h : KeepAt w a ks) (hl : ks.length ≤ 9223372036854775807) (n : Nat) (hn : n ≤ 1000000000000) :
    Calls Try.prog 28 #[.agg #[.int .i64 d, .slice a ks.length c], .int .i64 (n : Int)] w fun e w' => e = .returned (.int .i64 (ks.getD n 0)) ∧ Below w.heap.size w w' := by
  obtain ⟨g, o, h1, h2⟩ := h
  exact kmoments_at d a c ks g o h1 h2 hl n hn
/-- The list by numbers, and what is left. -/
theorem ord_mem {D : Dk} (ok : Dsk.Ok D) {f : Nm} {k : Int} (hf : ∀ n, f n = Dsk.find (Dsk.rowAt D k) n) {l : List (ByteArray × Nat)} (h : Ord f l) : ∀ x, x ∈ l ↔ x ∈ Dsk.rowAt D k := fun x => by
  have hr := ok.rows _ (Dsk.rowAt_mem ok k)
  constructor
  · intro hx
    have := h.ok x hx
    rw [hf] at this
    exact Dsk.find_some this
  · intro hx
    have := Dsk.find_mem hr.2.1 (n := x.1) (f := x.2) hx
    rw [← hf] at this
    exact h.all _ _ this
theorem rowAt_kt {D : Dk} {k : Int} {n kt : Nat} (hl : D.dirs.length = n + 1) (hk : (kt : Int) = min (max k 0) (n : Int)) : Dsk.rowAt D k = D.dirs.getD kt [] := by
  unfold Dsk.rowAt
  congr 1
  rw [hl]
  omega
theorem momAt_kt {D : Dk} {ks : List Int} {i m kt : Nat} (hl : (Dsk.hist D i).length = m + 1) (hk : (kt : Int) = min (max (ks.getD i 0) 0) (m : Int)) : Dsk.momAt D ks i = (Dsk.hist D i).getD kt [] := by
  unfold Dsk.momAt
  congr 1
  rw [hl]
  by_cases h : i < ks.length
  · rw [if_pos h]; omega
  · rw [if_neg h]
    rw [List.getD_eq_getElem?_getD, List.getElem?_eq_none (by omega)] at hk
    simp only [Option.getD_none] at hk
    omega

theorem Only.cell {S : Nat → Prop} {w w' : World} (h : Only S w w') {a : Addr} (ha : a.block < w.heap.size) (hn : ¬ S a.block) : w'.cell? a = w.cell? a := World.cell?_of_block (w := w) (h.block _ ha hn)
theorem Part.up {S T : Nat → Prop} {w : World} {q room : Nat} {ps : List (ByteArray × By)} (P : Part S w q room ps) (k : ∀ b, S b → T b) (hl : ∀ b, T b → b < w.heap.size) : Part T w q room ps := by
  obtain ⟨h, H, r⟩ := P
  exact ⟨h, H.mono k hl, r⟩
theorem Part.cast {S : Nat → Prop} {w w' : World} {q room : Nat} {ps : List (ByteArray × By)} (P : Part S w q room ps) (e : w = w') : Part S w' q room ps := e ▸ P
theorem more_lt {a w : World} : ∀ b, more noneS a w b → b < w.heap.size := fun b hb => by
  rcases hb with hb | hb
  · exact hb.elim
  · exact hb.2
theorem more_ge {a w : World} {b : Nat} (h : more noneS a w b) : a.heap.size ≤ b := by
  rcases h with hb | hb
  · exact hb.elim
  · exact hb.1
def leftOf (D : Dk) (ks : List Int) (l : List (ByteArray × Nat)) : List (ByteArray × By) := l.map (fun p => (p.1, Dsk.momAt D ks p.2))
theorem leftOf_take (D : Dk) (ks : List Int) (l : List (ByteArray × Nat)) {j : Nat} (hj : j < l.length) : leftOf D ks (l.take (j + 1)) = leftOf D ks (l.take j) ++ [(l[j].1, Dsk.momAt D ks l[j].2)] := by
  rw [List.take_succ_eq_append_getElem hj]
  simp only [leftOf, List.map_append, List.map_cons, List.map_nil]
set_option maxRecDepth 100000 in
set_option maxHeartbeats 800000 in
theorem crash_dk {S : Nat → Prop} {w : World} {p : Nat} {D : Dk} {c : Nat} (H : IsDk S w p D c) (hc : c ≤ 100000000) (k : Int) (a : Option Addr) (cap : Nat) (ks : List Int) (hks : KeepAt w a ks) (hl : ks.length ≤ 9223372036854775807) :
    Calls Try.prog 15 #[.pointer (some ⟨p, 0, none⟩), .agg #[.int .i64 k, .slice a ks.length cap]] w fun e w' => ∃ q, e = .returned (.pointer (some ⟨q, 0, none⟩)) ∧ IsDk (more noneS w w') w' q (Dsk.crash k ks D) c ∧ Below w.heap.size w w' := by
  obtain ⟨ok, bud, lim, h, HD, R, mc, hfl⟩ := H
  have HH := hide HD
  have HKS := hide hks
  have HOK := hide ok
  have HBU := hide bud
  have HLI := hide lim
  have HRR := hide R
  have hrm : h.room ≤ 9223372036854775807 := by rw [R.room]; exact lim.room
  have hpl : p < w.heap.size := HD.lt p HD.sp
  obtain ⟨c0, _⟩ := HD.look
  have hcs : h.cs.length ≤ c := by have h1 := R.names.len; have h2 := bud.dirs; omega
  obtain ⟨kt, hkt⟩ : ∃ kt : Nat, (kt : Int) = min (max k 0) (h.cs.length : Int) := ⟨(min (max k 0) (h.cs.length : Int)).toNat, by omega⟩
  have hrow : ∀ n, Dsk.undoAll (h.cs.drop kt) h.f n = Dsk.find (Dsk.rowAt D k) n := fun n => by
    rw [rowAt_kt R.names.len hkt]
    exact R.names.all kt (by omega) n
  have hrok := ok.rows _ (Dsk.rowAt_mem ok k)
  have HROW := hide hrow
  have HROK := hide hrok
  have HKT := hide hkt
  have z0 : ∀ o, (w.alloc o).cell? ⟨p, 0, none⟩ = some (.int .i64 (h.room : Int)) := fun o => (World.cell?_of_block (w := w) (a := ⟨p, 0, none⟩) (Below.heap_alloc w o p hpl)).trans c0
  clear HD hks ok bud lim R c0 hkt hpl hrow hrok
  go_enter Try.func15, Try.ntmps15
  go_wp2_with fail
  refine (new_dk (h.room : Int) _ (by omega)).mono ?_
  rintro e w1 ⟨rfl, hd1, hb1⟩
  have y0 : (w.alloc (.cells #[.int .i64 k, .slice a ks.length cap] 40)).cell? ⟨w.heap.size, 0, none⟩ = some (.int .i64 k) := by simp
  have y1 : (w.alloc (.cells #[.int .i64 k, .slice a ks.length cap] 40)).cell? ⟨w.heap.size, 1, none⟩ = some (.slice a ks.length cap) := by simp
  have b0 : Below w.heap.size w (w.alloc (.cells #[.int .i64 k, .slice a ks.length cap] 40)) := (Below.refl _ w).alloc (Nat.le_refl _) _
  have s0 : w.heap.size + 1 ≤ (w.alloc (.cells #[.int .i64 k, .slice a ks.length cap] 40)).heap.size := by simp
  clear z0
  obtain ⟨w0, hw0⟩ : ∃ w0, w.alloc (.cells #[.int .i64 k, .slice a ks.length cap] 40) = w0 := ⟨_, rfl⟩
  rw [hw0] at hd1 hb1 y0 y1 b0 s0 ⊢
  clear hw0
  have P0 := part_new hd1
  rw [Int.toNat_natCast] at P0
  obtain ⟨bm, _, _, hbmc, _, _, hqw, hbmS, hbmq, _⟩ := P0.look
  have hbmS1 := more_ge hbmS
  have hbmS2 := more_lt _ hbmS
  have P1 : Part (more noneS w w1) w1 (w0.heap.size + 1) h.room [] := P0.up (fun b hb => .inr ⟨by have := more_ge hb; omega, more_lt b hb⟩) more_lt
  obtain ⟨q, hq⟩ : ∃ q, w0.heap.size + 1 = q := ⟨_, rfl⟩
  rw [hq] at P1 hqw hbmc hbmq ⊢
  have hqk : w.heap.size < q := by omega
  have hbk : w.heap.size < bm := by omega
  have HP1 := hide P1
  have hb01 : Below w.heap.size w w1 := bl b0 hb1
  have y0 := (hb1.cell (p := ⟨w.heap.size, 0, none⟩) (show w.heap.size < w0.heap.size by omega)).trans y0
  have y1 := (hb1.cell (p := ⟨w.heap.size, 1, none⟩) (show w.heap.size < w0.heap.size by omega)).trans y1
  have hs1 : w.heap.size + 1 ≤ w1.heap.size := by have := hb1.size; omega
  clear hd1 hb1 b0 s0 P1 hq P0 hbmS hbmS1
  go_wp2_with fail
  refine (nb_at (HH.out.below hb01) k (by omega) (by omega) kt HKT.out).mono ?_
  rintro e w2 ⟨bn, cm, rfl, hbn, hcm, hmap, hb2⟩
  have HM := hide hmap
  have HP2 := hide (HP1.out.below hb2)
  have hb02 : Below w.heap.size w w2 := bl hb01 hb2
  have y0 := (hb2.cell (p := ⟨w.heap.size, 0, none⟩) (show w.heap.size < w1.heap.size by omega)).trans y0
  have y1 := (hb2.cell (p := ⟨w.heap.size, 1, none⟩) (show w.heap.size < w1.heap.size by omega)).trans y1
  have hs2 : w1.heap.size ≤ w2.heap.size := hb2.size
  have hbmc := (hb2.cell (p := ⟨q, 6, none⟩) hqw).trans hbmc
  clear hmap hb2
  go_wp2_with fail
  refine (inOrder_at HM.out (by omega) (mk := h.made) ?_ ?_ ?_).mono ?_
  · intro n i e
    rw [HROW.out] at e
    have := (HROK.out.1 _ (Dsk.find_some e)).2
    rw [HRR.out.made]
    exact this
  · intro n m i e1 e2
    rw [HROW.out] at e1 e2
    have := Dsk.row_one HROK.out.2.2 (Dsk.find_some e1) (Dsk.find_some e2) rfl
    exact congrArg Prod.fst this
  · intro i hi
    exact ((HH.out.below hb02).lookF hi).1
  rintro e w3 ⟨la, lcap, l, rfl, hord, hnam, hlc, hb3⟩
  have HOR := hide hord
  have HNA := hide hnam
  have HP3 := hide (HP2.out.below hb3)
  have hb03 : Below w.heap.size w w3 := bl hb02 hb3
  have y0 := (hb3.cell (p := ⟨w.heap.size, 0, none⟩) (show w.heap.size < w2.heap.size by omega)).trans y0
  have y1 := (hb3.cell (p := ⟨w.heap.size, 1, none⟩) (show w.heap.size < w2.heap.size by omega)).trans y1
  have hs3 : w2.heap.size ≤ w3.heap.size := hb3.size
  have hbmc := (hb3.cell (p := ⟨q, 6, none⟩) (show q < w2.heap.size by omega)).trans hbmc
  clear hord hnam hb3
  have HKF : Hid (∀ i, i < h.made → Dsk.wfR (h.fl i).cuts.reverse (h.fl i).text (h.fl i).grown ∧ Dsk.moms (h.fl i) ≤ 1000000000 ∧ (∀ x ∈ Dsk.histR (h.fl i).cuts.reverse (h.fl i).text (h.fl i).grown, x.length ≤ 1000000000) ∧ ∀ kt : Nat, (kt : Int) = min (max (ks.getD i 0) 0) (Dsk.moms (h.fl i) : Int) → Dsk.behind (h.fl i) kt = Dsk.momAt D ks i ∧ (Dsk.momAt D ks i).length ≤ c) := by
    refine hide fun i hi => ?_
    have hm : i < D.files.length := by rw [← HRR.out.made]; exact hi
    have hF := HRR.out.files i hi
    have a2 := HBU.out.hists _ (Dsk.hist_mem hm)
    have a3 := HBU.out.texts _ (Dsk.hist_mem hm)
    have hlen := hF.len
    refine ⟨hF.wf, by omega, fun x hx => ?_, fun kt hk => ?_⟩
    · rw [← hF.eq] at hx
      have := a3 x hx
      omega
    · have h1 := hF.behind (k := kt) (by omega)
      have h2 := momAt_kt (D := D) (ks := ks) (i := i) (m := Dsk.moms (h.fl i)) hlen hk
      refine ⟨h1.trans h2.symm, ?_⟩
      rw [h2, List.getD_eq_getElem?_getD]
      by_cases hj : kt < (Dsk.hist D i).length
      · rw [List.getElem?_eq_getElem hj]
        exact a3 _ (List.getElem_mem _)
      · rw [List.getElem?_eq_none (by omega)]
        exact Nat.zero_le _
  have hlm : l.length ≤ 1000000000 := by omega
  have HSU : Hid (∀ j, j ≤ l.length → ((leftOf D ks (l.take j)).map (fun p => p.2.length)).sum ≤ 1000000000 * 1000000000) := by
    refine hide fun j hj => ?_
    refine Nat.le_trans (Dsk.sum_bound _ _ 1000000000 (fun x hx => ?_)) (Nat.mul_le_mul_right _ (by simp only [leftOf, List.length_map, List.length_take]; omega))
    obtain ⟨y, hy, rfl⟩ := List.mem_map.1 hx
    have hy2 := HOR.out.ok y (List.mem_of_mem_take hy)
    rw [HROW.out] at hy2
    have hi : y.2 < h.made := by rw [HRR.out.made]; exact (HROK.out.1 _ (Dsk.find_some hy2)).2
    have := ((HKF.out y.2 hi).2.2.2 (min (max (ks.getD y.2 0) 0) (Dsk.moms (h.fl y.2) : Int)).toNat (by omega)).2
    simp only
    omega
  go_wp2
  go_loopw [20] (fun i wr => ∃ j : Nat, j ≤ l.length ∧ i = .int .i64 (j : Int) ∧ Hid (Part (more noneS w wr) wr q h.room (leftOf D ks (l.take j))) ∧ Hid (wr.cell? ⟨q, 6, none⟩ = some (.map (some bm))) ∧ Hid (Only (fun b => b = q ∨ b = bm) w3 wr)) (fun i _ => l.length - (intOf i).toNat)
  case atStart => exact ⟨0, Nat.zero_le _, rfl, hide (HP3.out.wide (by omega)), hide hbmc, hide (Only.refl _ _)⟩
  case round =>
    obtain ⟨j, hj, rfl, HP, HBM, HNX⟩ := hrel
    have hsx := HNX.out.size
    have hbw : Below w.heap.size w wr := hb03.trans (HNX.out.below (by omega) (fun b hb => by rcases hb with rfl | rfl <;> omega))
    by_cases hlt : j < l.length
    · obtain ⟨g, rfl, hg, hcells⟩ := HNA.out.at_ (by omega)
      have hgQ : ¬ (g = q ∨ g = bm) := by
        obtain ⟨g1, g2⟩ := hcells 0 (by omega)
        obtain ⟨bm', c1, _, c6, _, _, _, _, _, es, kk, hmap⟩ := HP3.out.look
        rw [hbmc] at c6
        obtain rfl : bm = bm' := by simpa using c6
        rintro (rfl | rfl)
        · rw [show 0 * 2 + 1 = 1 from rfl, c1] at g2
          simp at g2
        · simp [World.cell?, hmap] at g1
      obtain ⟨v1, v2⟩ := hcells j hlt
      have v1 := (HNX.out.cell (a := ⟨g, j * 2, none⟩) hg hgQ).trans v1
      have v2 := (HNX.out.cell (a := ⟨g, j * 2 + 1, none⟩) hg hgQ).trans v2
      have y0 := (HNX.out.cell (a := ⟨w.heap.size, 0, none⟩) (show w.heap.size < w3.heap.size by omega) (show ¬ (w.heap.size = q ∨ w.heap.size = bm) by omega)).trans y0
      have y1 := (HNX.out.cell (a := ⟨w.heap.size, 1, none⟩) (show w.heap.size < w3.heap.size by omega) (show ¬ (w.heap.size = q ∨ w.heap.size = bm) by omega)).trans y1
      have HTK := hide (leftOf_take D ks l hlt)
      have hfj := HOR.out.ok _ (List.getElem_mem hlt)
      rw [HROW.out] at hfj
      have hrj := HROK.out.1 _ (Dsk.find_some hfj)
      have hup := HOR.out.up
      have hnew : ∀ p ∈ leftOf D ks (l.take j), p.1 ≠ l[j].1 := by
        intro x hx e
        obtain ⟨y, hy, rfl⟩ := List.mem_map.1 hx
        obtain ⟨jj, hjj, rfl⟩ := List.mem_take_iff_getElem.1 hy
        simp only at e
        have h1 := List.pairwise_iff_getElem.1 hup jj j (by omega) hlt (by omega)
        have h2 := HOR.out.ok _ (List.getElem_mem (show jj < l.length by omega))
        have h3 := HOR.out.ok _ (List.getElem_mem hlt)
        rw [e, h3] at h2
        simp only [Option.some.injEq] at h1 h2
        omega
      have hnsz : (l[j].1).size ≤ maxLen := by
        have := hrj.1
        unfold Dsk.isName at this
        have := (of_decide_eq_true this).2.2
        unfold maxLen
        simp only at this ⊢
        omega
      obtain ⟨n, hn⟩ : ∃ n, l[j].1 = n := ⟨_, rfl⟩
      obtain ⟨i, hi⟩ : ∃ i, l[j].2 = i := ⟨_, rfl⟩
      rw [hn] at v1 hnew hnsz HTK
      rw [hi] at v2 hrj HTK
      have him : i < h.made := by rw [HRR.out.made]; exact hrj.2
      have hi12 : i ≤ 1000000000000 := by have h1 := HBU.out.files; have h2 := hrj.2; omega
      have HNEW := hide hnew
      obtain ⟨kf1, kf2, kf3, kf4⟩ := HKF.out i him
      obtain ⟨kt2, hkt2⟩ : ∃ kt2 : Nat, (kt2 : Int) = min (max (ks.getD i 0) 0) (Dsk.moms (h.fl i) : Int) := ⟨(min (max (ks.getD i 0) 0) (Dsk.moms (h.fl i) : Int)).toNat, by omega⟩
      obtain ⟨kf5, kf6⟩ := kf4 kt2 hkt2
      have HF1 := hide kf1
      have HF2 := hide kf2
      have HF3 := hide kf3
      have HK2 := hide hkt2
      have hbi : h.bl i < w.heap.size := (HH.out.lookF him).2.2.2.2.2
      have x0 : wr.cell? ⟨h.bl i, 0, none⟩ = some (.int .i64 (i : Int)) := ((HH.out.below hbw).lookF him).1
      have s1 := HSU.out (j + 1) (by omega)
      rw [HTK.out, List.map_append, List.sum_append] at s1
      simp only [List.map_cons, List.map_nil, List.sum_cons, List.sum_nil, Nat.add_zero] at s1
      have hlj : (leftOf D ks (l.take j)).length = j := by simp only [leftOf, List.length_map, List.length_take]; omega
      obtain ⟨t, htt⟩ : ∃ t, Dsk.momAt D ks i = t := ⟨_, rfl⟩
      rw [htt] at HTK kf5 kf6 s1
      have HF5 := hide kf5
      obtain ⟨ps, hps⟩ : ∃ ps, leftOf D ks (l.take j) = ps := ⟨_, rfl⟩
      rw [hps] at HTK HP hlj s1 HNEW
      obtain ⟨sm, hsm⟩ : ∃ sm, (ps.map (fun p => p.2.length)).sum = sm := ⟨_, rfl⟩
      rw [hsm] at s1
      have HSM := hide hsm
      have HLJ := hide hlj
      clear hcells hfj hrj hup hnew hn hi kf1 kf2 kf3 kf4 kf5 hkt2 hps hsm hlj htt
      go_wp2_with fail
      refine wp_region_growK (fun b => b < w.heap.size ∨ b = w.heap.size ∨ b = wr.heap.size) [([0, 1, 2, 3, 4, 5, 6, 7], 8), ([], 9)] [] [10] (by kernel_rfl) (by kernel_rfl) (by kernel_rfl) (by kernel_rfl) ?_
      intro w4 hb4
      simp only [stagesOfK, getLK, pickLK]
      have hb5 : Below wr.heap.size wr w4 := ((Below.refl _ wr).alloc (Nat.le_refl _) _).trans (hb4.mono (by simp))
      have hs4 : wr.heap.size + 1 ≤ w4.heap.size := by have := hb4.size; simpa using this
      have e0 : w4.cell? ⟨wr.heap.size, 0, none⟩ = some (.string n) := (hb4.cell (p := ⟨wr.heap.size, 0, none⟩) (by simp)).trans (by simp)
      have e1 : w4.cell? ⟨wr.heap.size, 1, none⟩ = some (.pointer (some ⟨h.bl i, 0, none⟩)) := (hb4.cell (p := ⟨wr.heap.size, 1, none⟩) (by simp)).trans (by simp)
      have y0 := (hb5.cell (p := ⟨w.heap.size, 0, none⟩) (show w.heap.size < wr.heap.size by omega)).trans y0
      have y1 := (hb5.cell (p := ⟨w.heap.size, 1, none⟩) (show w.heap.size < wr.heap.size by omega)).trans y1
      have x0 := (hb5.cell (p := ⟨h.bl i, 0, none⟩) (show h.bl i < wr.heap.size by omega)).trans x0
      have hbw4 : Below w.heap.size w w4 := hbw.trans (hb5.mono (by omega))
      have inh : Nonempty (GrK (fun b => b < w.heap.size ∨ b = w.heap.size ∨ b = wr.heap.size) w4) := GrK.some _ w4
      have q0 := fun x : GrK (fun b => b < w.heap.size ∨ b = w.heap.size ∨ b = wr.heap.size) w4 => x.cell (a := ⟨w.heap.size, 0, none⟩) (.inr (.inl rfl)) y0
      have q1 := fun x : GrK (fun b => b < w.heap.size ∨ b = w.heap.size ∨ b = wr.heap.size) w4 => x.cell (a := ⟨w.heap.size, 1, none⟩) (.inr (.inl rfl)) y1
      have q2 := fun x : GrK (fun b => b < w.heap.size ∨ b = w.heap.size ∨ b = wr.heap.size) w4 => x.cell (a := ⟨wr.heap.size, 1, none⟩) (.inr (.inr rfl)) e1
      have q3 := fun x : GrK (fun b => b < w.heap.size ∨ b = w.heap.size ∨ b = wr.heap.size) w4 => x.cell (a := ⟨h.bl i, 0, none⟩) (.inl hbi) x0
      refine wpG_stageK ?_
      repeat (go_big_quiet_step (fail))
      refine wpQuiet_nil ?_
      clear q0 q1 q2 q3 inh hb4
      go_wp2_with fail
      refine (kmom_at k cap (HKS.out.below hbw4) hl i hi12).mono ?_
      rintro e w5 ⟨rfl, hb6⟩
      go_wp2
      refine OnToK.mk (Kept.of_below hb6 (fun b e => by rcases e with e | rfl | rfl <;> omega)) (Sub.refl _) ?_
      refine wpG_stageK (wpQuiet_nil ?_)
      have hbw5 : Below w.heap.size w w5 := hbw4.trans (hb6.mono (by omega))
      have hs5 := hb6.size
      go_wp2_with fail
      refine (behind_at ((HH.out.files i him).below hbw5) HF1.out HF2.out HF3.out _ kt2 HK2.out).mono ?_
      rintro e w6 ⟨tv, rfl, ht, hrb, hb7⟩
      rw [HF5.out] at ht
      have hs6 := hb7.size
      have hb8 : Below wr.heap.size wr w6 := (hb5.trans (hb6.mono (by omega))).trans (hb7.mono (by omega))
      have e0 := ((hb6.mono (show w4.heap.size ≤ w4.heap.size by omega)).cell (p := ⟨wr.heap.size, 0, none⟩) (show wr.heap.size < w4.heap.size by omega)).trans e0
      have e0 := (hb7.cell (p := ⟨wr.heap.size, 0, none⟩) (show wr.heap.size < w5.heap.size by omega)).trans e0
      have P6 := HP.out.below hb8
      obtain ⟨bm', c1, c2, c6, cf, hqS, hq6, hbS, _⟩ := P6.look
      have hbm6 : w6.cell? ⟨q, 6, none⟩ = some (.map (some bm)) := (hb8.cell (p := ⟨q, 6, none⟩) (more_lt _ hqS)).trans HBM.out
      rw [hbm6] at c6
      obtain rfl : bm = bm' := by simpa using c6
      rw [HSM.out] at c1
      rw [HLJ.out] at c2
      have HP6 := hide P6
      have HT := hide ht
      have HRB : Hid (∀ g, rowB tv = some g → wr.heap.size ≤ g) := hide (fun g e => by have := (hrb g e).1; omega)
      obtain ⟨ta, tc, rfl, _⟩ := ht.len
      have b8 : Below w3.heap.size wr w6 := hb8.mono (by omega)
      go_wp2
      refine OnToK.mk (Kept.of_below hb7 (fun b e => by rcases e with e | rfl | rfl <;> omega)) (Sub.refl _) ?_
      refine wpG_lastK (wpQuiet_nil ?_)
      clear ht P6 c6 hb5 hb6 hb7 hbw5 y0 y1 x0 e1 hbw4 hrb
      go_wp2_with fail
      refine wp_region_growK (fun b => b < w6.heap.size) [([0, 1, 2, 3, 4, 5, 6, 7, 8, 9, 10, 11], 12)] [] [13] (by kernel_rfl) (by kernel_rfl) (by kernel_rfl) (by kernel_rfl) ?_
      intro w7 hb7
      simp only [stagesOfK, getLK, pickLK]
      have hs7 := hb7.size
      have e0 := (hb7.cell (p := ⟨wr.heap.size, 0, none⟩) (show wr.heap.size < w6.heap.size by omega)).trans e0
      have c2 := (hb7.cell (p := ⟨q, 2, none⟩) hq6).trans c2
      have c1 := (hb7.cell (p := ⟨q, 1, none⟩) hq6).trans c1
      have c6 := (hb7.cell (p := ⟨q, 6, none⟩) hq6).trans hbm6
      have cf := fun j => (hb7.frozen (p := ⟨q, j, none⟩) hq6).trans (cf j)
      have inh : Nonempty (GrK (fun b => b < w6.heap.size) w7) := GrK.some _ w7
      have q0 := fun x : GrK (fun b => b < w6.heap.size) w7 => x.cell (a := ⟨wr.heap.size, 0, none⟩) (show wr.heap.size < w6.heap.size by omega) e0
      have q1 := fun x : GrK (fun b => b < w6.heap.size) w7 => x.cell (a := ⟨q, 2, none⟩) hq6 c2
      have q2 := fun x : GrK (fun b => b < w6.heap.size) w7 => x.cell (a := ⟨q, 6, none⟩) hq6 c6
      have HP7 := hide (HP6.out.below hb7)
      have HT7 := hide (HT.out.keep (w' := w7) (fun g e => hb7.block g (by obtain ⟨cur, hc⟩ := HT.out.kind e; exact (Array.getElem?_eq_some_iff.1 hc).1)))
      refine wpG_stageK ?_
      repeat (go_big_quiet_step (fail))
      refine wpQuiet_nil ?_
      clear q0 q1 q2 inh
      go_wp2
      refine OnToK.mk (Kept.of_below ((Below.refl _ w7).alloc (Nat.le_refl _) _) (fun b e => by omega)) (Sub.refl _) ?_
      refine wpG_lastK (wpQuiet_nil ?_)
      have bA : Below w7.heap.size w7 (w7.alloc (.cells #[.int .i64 (j : Int), .slice ta t.length tc, .slice none 0 0, .int .i64 0] 57)) := (Below.refl _ w7).alloc (Nat.le_refl _) _
      obtain ⟨w8, hr8, hs8, hO8, hP8⟩ := (HP7.out.below bA).store (bm := bm) ((bA.cell (p := ⟨q, 6, none⟩) (show q < w7.heap.size by omega)).trans c6) (b := w7.heap.size) (tv := .slice ta t.length tc) (t := t) (n := n)
        (by rw [HLJ.out]; exact heap_new _ _) (HT7.out.keep (fun g e => bA.block g (by obtain ⟨cur, hc⟩ := HT7.out.kind e; exact (Array.getElem?_eq_some_iff.1 hc).1))) (fun g e hS => by have h1 := HRB.out g e; have h2 := more_lt _ hS; omega) HNEW.out hnsz (by rw [HLJ.out]; omega)
      have hbmq' : ¬ (q = bm) := fun e => hbmq e.symm
      have d1 : w8.cell? ⟨q, 1, none⟩ = some (.int .i64 (sm : Int)) := ((hO8.cell (a := ⟨q, 1, none⟩) (show q < _ by simp; omega) hbmq').trans (bA.cell (p := ⟨q, 1, none⟩) (show q < w7.heap.size by omega))).trans c1
      have d2 : w8.cell? ⟨q, 2, none⟩ = some (.int .i64 (j : Int)) := ((hO8.cell (a := ⟨q, 2, none⟩) (show q < _ by simp; omega) hbmq').trans (bA.cell (p := ⟨q, 2, none⟩) (show q < w7.heap.size by omega))).trans c2
      have d6 : w8.cell? ⟨q, 6, none⟩ = some (.map (some bm)) := ((hO8.cell (a := ⟨q, 6, none⟩) (show q < _ by simp; omega) hbmq').trans (bA.cell (p := ⟨q, 6, none⟩) (show q < w7.heap.size by omega))).trans c6
      have df : ∀ j, w8.frozen? ⟨q, j, none⟩ = false := fun j => ((World.frozen?_of_block (w := w7) (a := ⟨q, j, none⟩) ((hO8.block q (by simp; omega) hbmq').trans (bA.block q (by omega))))).trans (cf j)
      rw [HLJ.out, HSM.out] at hP8
      have hO9 : Only (fun b => b = q ∨ b = bm) w3 w8 := ((HNX.out.then_below (hb8.mono (Nat.le_refl _))).then_below hb7).trans' ((Only.of_below bA).trans' (hO8.mono (fun b e => .inr e)))
      have HP8 := hide hP8
      have HO9 := hide hO9
      have hs9 : w7.heap.size + 1 = w8.heap.size := by rw [hs8]; simp
      have HS9 := hide hs9
      clear hP8 hO9 hO8 hs8 hs9 c1 c2 c6 cf e0 bA
      have hq8 : q < w8.heap.size := by have := HS9.out; omega
      go_wp2
      go_roundw
      case rel =>
        refine ⟨j + 1, by omega, by go_num, hide ?_, hide ?_, hide ?_⟩
        · rw [HTK.out]
          refine (HP8.out.up (T := more noneS w _) (fun b hb => ?_) more_lt).cast ?_
          · rcases hb with hb | rfl | hb
            · exact .inr ⟨more_ge hb, by have := more_lt _ hb; have := HS9.out; simp [World.setCell]; omega⟩
            · exact .inr ⟨by omega, by have := HS9.out; simp [World.setCell]; omega⟩
            · obtain ⟨cur, hc⟩ := HT7.out.kind hb
              have h1 := (Array.getElem?_eq_some_iff.1 hc).1
              have h2 := HRB.out b hb
              exact .inr ⟨by omega, by have := HS9.out; simp [World.setCell]; omega⟩
          · simp only [Int.natCast_add, Int.natCast_one]
        · rw [World.cell?_setCell_other, World.cell?_setCell_other]
          · exact d6
          · intro e
            cases e
          · intro e
            cases e
        · exact (HO9.out.setCell (p := ⟨q, 2, none⟩) (.inl rfl) _).setCell (p := ⟨q, 1, none⟩) (.inl rfl) _
      case measure => simp [intOf]; omega
    · obtain rfl : j = l.length := by omega
      have HP5 := HP.out
      rw [List.take_length] at HP5
      have hpk : leftOf D ks l = Dsk.picks D k ks := (Dsk.picks_of HROK.out HOR.out.up (ord_mem HOK.out HROW.out HOR.out)).symm
      rw [hpk, HRR.out.room] at HP5
      have HP6 := hide HP5
      clear HP5 hpk
      go_wp2
      go_ret
      exact ⟨q, rfl, HP6.out.dk HOK.out HBU.out HLI.out, hbw⟩

end Go.Proofs.Ytpbiongoigbmpaa
