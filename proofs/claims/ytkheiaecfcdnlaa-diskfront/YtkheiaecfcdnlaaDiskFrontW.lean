/-
  A file that was synced, and to which texts were appended since.
-/
import Derived.Test.YtkheiaecfcdnlaaDskShownW
import Derived.Test.YtkheiaecfcdnlaaDskAct2W
import Derived.Test.YtkheiaecfcdnlaaKinds
namespace Go.Proofs.Ytkheiaecfcdnlaa
open Go.RowKit
open Dsk (By Dk)

theorem dbs_app (M : By) (x : ByteArray) : Num.bs M ++ x = Num.bs (M ++ x.data.toList) := by
  apply ByteArray.ext
  rw [ByteArray.data_append]
  apply Array.ext'
  simp [Num.bs]
theorem dbs_front (s : ByteArray) (M : By) (m : Nat) : Num.bs (s.data.toList ++ M.take m) = s ++ (Num.bs M).extract 0 m := by
  apply ByteArray.ext
  rw [ByteArray.data_append, ByteArray.data_extract]
  apply Array.ext'
  simp [Num.bs]
def nF : ByteArray := ⟨#[102]⟩
theorem front_start (s : By) (hs : s.length ≤ 1000) : (Dsk.create nF (Dsk.fresh 10000)).2 = 0 ∧ (Dsk.append nF s (Dsk.create nF (Dsk.fresh 10000)).1).2 = 0 ∧ (Dsk.sync nF (Dsk.append nF s (Dsk.create nF (Dsk.fresh 10000)).1).1).2 = 0 ∧
    (Dsk.syncDir (Dsk.sync nF (Dsk.append nF s (Dsk.create nF (Dsk.fresh 10000)).1).1).1).2 = 0 ∧ Dsk.At (Dsk.syncDir (Dsk.sync nF (Dsk.append nF s (Dsk.create nF (Dsk.fresh 10000)).1).1).1).1 10000 [Dsk.histF s []] [[(nF, 0)]] := by
  have a0 : Dsk.At (Dsk.fresh 10000) 10000 [] ([] ++ [[]]) := Dsk.at_fresh 10000
  obtain ⟨e1, a1⟩ := a0.create (n := nF) (by decide) (by simp)
  have a1 : Dsk.At (Dsk.create nF (Dsk.fresh 10000)).1 10000 [[[]]] ([[]] ++ [[(nF, 0)]]) := a1
  obtain ⟨e2, a2⟩ := a1.append (n := nF) (f := 0) (by decide) s (b := []) rfl (by simp; omega)
  have a2 : Dsk.At (Dsk.append nF s (Dsk.create nF (Dsk.fresh 10000)).1).1 10000 [[[]] ++ Dsk.fronts [] s] ([[]] ++ [[(nF, 0)]]) := a2
  obtain ⟨e3, a3⟩ := a2.sync (n := nF) (f := 0) (by decide) (b := s) (Dsk.fronts_last [[]] [] s rfl)
  have a3 : Dsk.At (Dsk.sync nF (Dsk.append nF s (Dsk.create nF (Dsk.fresh 10000)).1).1).1 10000 [[s]] ([[]] ++ [[(nF, 0)]]) := a3
  obtain ⟨e4, a4⟩ := a3.syncDir
  rw [Dsk.histF_nil]
  exact ⟨e1, e2, e3, e4, a4⟩
theorem front_next {D : Dk} {s m : By} (h : Dsk.At D 10000 [Dsk.histF s m] [[(nF, 0)]]) (x : By) (hx : s.length + m.length + x.length ≤ 10000) : (Dsk.append nF x D).2 = 0 ∧ Dsk.At (Dsk.append nF x D).1 10000 [Dsk.histF s (m ++ x)] [[(nF, 0)]] := by
  have h : Dsk.At D 10000 [Dsk.histF s m] ([] ++ [[(nF, 0)]]) := h
  obtain ⟨e1, a1⟩ := h.append (n := nF) (f := 0) (by decide) x (b := s ++ m) (Dsk.histF_last s m) (by
    have := Dsk.histF_last s m
    simp only [List.map_cons, List.map_nil, List.sum_cons, List.sum_nil]
    show ((Dsk.histF s m).getLastD []).length + 0 + x.length ≤ 10000
    rw [this, List.length_append]; omega)
  refine ⟨e1, ?_⟩
  rw [← Dsk.histF_app]
  exact a1
theorem front_read {D : Dk} {s m : By} (h : Dsk.At D 10000 [Dsk.histF s m] [[(nF, 0)]]) (ok : Dsk.Ok D) (k : Int) : Dsk.read nF (Dsk.crash 0 [k] D) = (s ++ m.take (max 0 (min k (m.length : Int))).toNat, 0) := by
  have hr : Dsk.rowAt D 0 = [(nF, 0)] := by
    unfold Dsk.rowAt
    rw [h.dirs]
    rfl
  rw [Dsk.crash_read ok 0 [k] (n := nF) (f := 0) (by rw [hr]; simp)]
  have hh : Dsk.hist D 0 = Dsk.histF s m := by unfold Dsk.hist; rw [h.files]; rfl
  unfold Dsk.momAt
  rw [hh, Dsk.histF_len]
  have : (if 0 < [k].length then (min ([k].getD 0 0) (((m.length + 1 : Nat) : Int) - 1)).toNat else 0) = (max 0 (min k (m.length : Int))).toNat := by
    rw [if_pos (by simp)]
    show (min k _).toNat = _
    omega
  rw [this, Dsk.histF_at _ _ (by omega)]

set_option maxRecDepth 100000 in
set_option maxHeartbeats 800000 in
theorem walkDiskFront (s : ByteArray) (a : Option Addr) (len cap : Nat) (zs : List ByteArray) (k : Int) (w : World) (_hs : s.size ≤ 9223372036854775807) (hl : IsStrs w a len cap zs) (_hk : -9223372036854775808 ≤ k ∧ k ≤ 9223372036854775807) :
    Calls Try.prog 3 #[.string s, .slice a len cap, .int .i64 k] w fun e w' => e = .returned (.bool true) ∧ Below w.heap.size w w' := by
  obtain ⟨hl0, hm0, hv0, hs0⟩ := view_strs hl
  unfold maxLen at hm0
  have HV := hide hv0
  have HS0 := hide hs0
  clear hl hv0 hs0
  by_cases hb0 : 1000 < s.size
  · go_enter Try.func3, Try.ntmps3
    go_wp2_with fail
    refine (dshown_any _).mono ?_
    rintro e w1 ⟨rfl, hb1⟩
    go_wp2_with fail
    refine (new_dk 10000 _ (by omega)).mono ?_
    rintro e w2 ⟨rfl, _, hb2⟩
    go_wp2
    go_ret
    exact ⟨rfl, bl hb1 hb2⟩
  by_cases hb1 : 20 < len
  · go_enter Try.func3, Try.ntmps3
    go_wp2_with fail
    refine (dshown_any _).mono ?_
    rintro e w1 ⟨rfl, hb1⟩
    go_wp2_with fail
    refine (new_dk 10000 _ (by omega)).mono ?_
    rintro e w2 ⟨rfl, _, hb2⟩
    go_wp2
    go_ret
    exact ⟨rfl, bl hb1 hb2⟩
  obtain ⟨f1, f2, f3, f4, f5⟩ := front_start s.data.toList (by simpa using hb0)
  have HF5 := hide f5
  have F1 := hide f1
  have F2 := hide f2
  have F3 := hide f3
  have F4 := hide f4
  clear f1 f2 f3 f4 f5
  go_enter Try.func3, Try.ntmps3
  go_wp2_with fail
  refine (dshown_any _).mono ?_
  rintro e w1 ⟨rfl, hb1⟩
  go_wp2_with fail
  refine (new_dk 10000 _ (by omega)).mono ?_
  rintro e w2 ⟨rfl, hd2, hb2⟩
  obtain ⟨q, hq⟩ : ∃ q, w1.heap.size + 1 = q := ⟨_, rfl⟩
  rw [hq] at hd2 ⊢
  have HD2 := hide hd2
  have HB2 : Hid (Own w (more noneS w1 w2) w2) := hide ⟨bl hb1 hb2, noneS_in hb1.size⟩
  clear hd2 hq hb1 hb2
  go_wp2_with fail
  refine (create_dk HD2.out nF (by decide) (by omega)).mono ?_
  rintro e w3 ⟨rfl, hd3, ho3⟩
  rw [F1.out]
  have HD3 := hide hd3
  have HB3 := hide (HB2.out.next ho3)
  clear hd3 ho3
  go_wp2_with fail
  refine (append_dk HD3.out nF s (by decide) (by omega)).mono ?_
  rintro e w4 ⟨rfl, hd4, ho4⟩
  rw [F2.out]
  have HD4 := hide hd4
  have HB4 := hide (HB3.out.next ho4)
  clear hd4 ho4
  go_wp2_with fail
  refine (sync_dk HD4.out nF (by decide) (by omega)).mono ?_
  rintro e w5 ⟨rfl, hd5, ho5⟩
  rw [F3.out]
  have HD5 := hide hd5
  have HB5 := hide (HB4.out.next ho5)
  clear hd5 ho5
  go_wp2_with fail
  refine (syncDir_dk HD5.out (by omega)).mono ?_
  rintro e w6 ⟨rfl, hd6, ho6⟩
  rw [F4.out]
  have HD6 := hide hd6
  have HB6 := hide (HB5.out.next ho6)
  clear hd6 ho6
  go_wp2
  go_loopw [9, 10] (fun v9 v10 wr => ∃ (j : Nat) (M : By) (D : Dk) (c : Nat) (S : Nat → Prop), j ≤ len ∧ v10 = .int .i64 (j : Int) ∧ v9 = .string (Num.bs M) ∧ Hid (IsDk S wr q D c) ∧ Hid (Dsk.At D 10000 [Dsk.histF s.data.toList M] [[(nF, 0)]]) ∧ Hid (Own w S wr) ∧ M.length ≤ 100 * j ∧ c ≤ 1010 + 101 * j) (fun _ v10 _ => len - (intOf v10).toNat)
  case atStart => exact ⟨0, [], _, _, _, Nat.zero_le _, rfl, rfl, HD6, HF5, HB6, Nat.zero_le _, by omega⟩
  case round =>
    obtain ⟨j, M, D, c, S, hj, rfl, rfl, HD, HA, HB, hM, hc⟩ := hrel
    have hss : s.size ≤ 1000 := by omega
    have hsl : s.data.toList.length = s.size := by simp
    have HSL := hide hsl
    clear hsl
    by_cases hlt : j < len
    · obtain ⟨b, off, rfl, hblt, hcell⟩ := HV.out j hlt
      have v1 := (HB.out.below.cell (p := ⟨b, off + j, none⟩) hblt).trans (hcell j hlt)
      obtain ⟨x, hx⟩ : ∃ x, zs.getD j ByteArray.empty = x := ⟨_, rfl⟩
      rw [hx] at v1
      clear hx hcell
      by_cases hbig : 100 < x.size
      · go_wp2
        go_ret
        exact ⟨rfl, HB.out.below⟩
      · have hxl : x.data.toList.length = x.size := by simp
        obtain ⟨n1, n2⟩ := front_next HA.out x.data.toList (by have := HSL.out; omega)
        have HN1 := hide n1
        have HN2 := hide n2
        have hML : (Num.bs M).size = M.length := Num.bs_size M
        clear n1 n2 hxl
        go_wp2_with fail
        refine (append_dk HD.out nF x (by decide) (by omega)).mono ?_
        rintro e w7 ⟨rfl, hd7, ho7⟩
        rw [HN1.out]
        have HD7 := hide hd7
        have HB7 := hide (HB.out.next ho7)
        have v2 := (HB7.out.below.cell (p := ⟨b, off + j, none⟩) hblt).trans ((HB.out.below.cell (p := ⟨b, off + j, none⟩) hblt).symm.trans v1)
        clear hd7 ho7 v1
        go_wp2
        go_roundw
        case rel =>
          refine ⟨j + 1, M ++ x.data.toList, _, _, _, by omega, by go_num, ?_, HD7, HN2, HB7, ?_, by omega⟩
          · exact congrArg Value.string (dbs_app M x)
          · have := Num.bs_size x.data.toList
            rw [Num.bs_of] at this
            rw [List.length_append]
            omega
        case measure => simp [intOf]; omega
    · obtain rfl : j = len := by omega
      have hfr := front_read HA.out HD.out.ok k
      have HFR := hide hfr
      clear hfr
      go_wp2_with fail
      have b5 : Below wr.heap.size wr (wr.alloc (.cells #[.int .i64 k] 3)) := (Below.refl _ wr).alloc (Nat.le_refl _) _
      have hk5 := keep_one wr k 3
      have HD8 := hide (HD.out.below b5)
      have HB8 := hide (HB.out.then b5)
      refine (crash_dk HD8.out (by omega) 0 _ 1 [k] hk5 (by simp)).mono ?_
      rintro e w9 ⟨cq, rfl, hd9, hb9⟩
      have HB9 := hide (HB8.out.then hb9)
      have HD9 := hide hd9
      clear hd9 hb9 b5 hk5
      go_wp2_with fail
      refine (read_dk HD9.out nF (by decide)).mono ?_
      rintro e w10 ⟨rfl, hw⟩
      rw [hw, HFR.out]
      clear hw
      obtain ⟨t, ht⟩ : ∃ t, Num.bs (s.data.toList ++ M.take (max 0 (min k (M.length : Int))).toNat) = t := ⟨_, rfl⟩
      simp only [ht]
      have HT := hide ht
      clear ht
      have hML : (Num.bs M).size = M.length := Num.bs_size M
      go_wp2
      go_ret
      refine ⟨?_, HB9.out.below⟩
      have := dbs_front s M (max 0 (min k (M.length : Int))).toNat
      rw [HT.out] at this
      rw [this]
      simp

end Go.Proofs.Ytkheiaecfcdnlaa
