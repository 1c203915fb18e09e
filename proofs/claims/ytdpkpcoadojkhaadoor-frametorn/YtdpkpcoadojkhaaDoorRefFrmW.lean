/-
  The document's own Put and First.
-/
import Derived.Test.YtdpkpcoadojkhaaDoorFrmFirstW
import Derived.Test.YtdpkpcoadojkhaaDoorRefPutW
import Derived.Test.YtdpkpcoadojkhaaDoorRefTakeW
import Derived.Test.YtdpkpcoadojkhaaDoorRefCrcW
namespace Go.Proofs.YtdpkpcoadojkhaaDoor
open Go.RowKit
open Frm (Fr)

theorem rsum_app (a t : List UInt8) (w : World) (ha : a.length ≤ 10) (ht : t.length ≤ 2000) :
    Calls Tryd.prog 24 #[.string (Num.bs a ++ Num.bs t)] w fun e w' => e = .returned (.int .u32 ((Crc.sum (a ++ t) : Nat) : Int)) ∧ w' = w := by
  have := refSum_any (Num.bs a ++ Num.bs t) w (by rw [app_bs, Num.bs_size, List.length_append]; unfold maxLen; omega)
  rwa [app_bs, Num.bs_toList, ← app_bs] at this

theorem four_conv (w : World) (n : Nat) (hn : n < 4294967296) :
    (convert 49 9 (.slice (some ⟨w.heap.size, 0, none⟩) 4 4)).run Tryd.prog (w.alloc (Obj.cells #[.int .u8 ((n : Int) % 256), .int .u8 ((n : Int) / 256 % 256), .int .u8 ((n : Int) / 65536 % 256), .int .u8 ((n : Int) / 16777216)] 5)) =
      .ok (.string (Num.bs (Crc.four n))) (w.alloc (Obj.cells #[.int .u8 ((n : Int) % 256), .int .u8 ((n : Int) / 256 % 256), .int .u8 ((n : Int) / 65536 % 256), .int .u8 ((n : Int) / 16777216)] 5)) := by
  have hB : BytesAt (w.alloc (Obj.cells #[.int .u8 ((n : Int) % 256), .int .u8 ((n : Int) / 256 % 256), .int .u8 ((n : Int) / 65536 % 256), .int .u8 ((n : Int) / 16777216)] 5)) w.heap.size (Crc.four n) := by
    refine ⟨fun j hj => ?_, fun j hj => ?_⟩
    · match j, hj with
      | 0, _ => simp only [Crc.four, List.getElem_cons_zero]; rw [Crc.ofNat_mod]; simp
      | 1, _ => simp only [Crc.four, List.getElem_cons_zero, List.getElem_cons_succ]; rw [Crc.ofNat_mod]; simp
      | 2, _ => simp only [Crc.four, List.getElem_cons_zero, List.getElem_cons_succ]; rw [Crc.ofNat_mod]; simp
      | 3, _ => simp only [Crc.four, List.getElem_cons_zero, List.getElem_cons_succ]; rw [Crc.ofNat_mod]; simp; omega
    · rw [World.frozen?_alloc_at _ _ _ _ rfl]
  exact hB.conv (P := Tryd.prog) 4 49 9 5 Tryd.underlying49 Tryd.underlying5 Tryd.underlying9

set_option maxRecDepth 100000 in
set_option maxHeartbeats 800000 in
theorem rfput_ok (q : Nat) (t : List UInt8) (w : World) (hq : q < 18446744073709551616) (ht : t.length ≤ 2000) :
    Calls Tryd.prog 12 #[.int .u64 (q : Int), .string (Num.bs t)] w fun e w' => e = .returned (.tuple #[.string (Num.bs (Frm.put (q, t))), .int .i64 0]) ∧ Below w.heap.size w w' := by
  have hts : (Num.bs t).size = t.length := Num.bs_size _
  have h10 := Num.put_len10 hq
  have h1 : (Num.bs (Num.put t.length)).size ≤ 10 := by rw [Num.bs_size]; exact Num.put_len10 (by omega)
  have h2 : (Num.bs (Num.put q)).size ≤ 10 := by rw [Num.bs_size]; exact h10
  have h3 : (Num.bs (Frm.sum4 q t)).size = 4 := by rw [Num.bs_size]; rfl
  have HP : Hid (Num.bs (Num.put t.length) ++ Num.bs (Num.put q) ++ Num.bs (Frm.sum4 q t) ++ Num.bs t = Num.bs (Frm.put (q, t))) := hide (by simp only [app_bs, Frm.put, List.append_assoc])
  go_enter Tryd.func12, Tryd.ntmps12
  go_wp2_with fail
  refine (refPut_any _ _ hq).mono ?_
  rintro e w1 ⟨rfl, hb1⟩
  go_wp2_with fail
  refine (rsum_app _ _ _ h10 ht).mono ?_
  rintro e w2 ⟨rfl, hw⟩
  rw [hw]
  clear hw
  have hS := Crc.sum_lt (Num.put q ++ t)
  have HF : Hid (Frm.sum4 q t = Crc.four (Crc.sum (Num.put q ++ t))) := rfl
  generalize Crc.sum (Num.put q ++ t) = n at *
  have hcv := four_conv w1 n hS
  rw [← HF.out] at hcv
  go_wp2_with fail
  refine (refPut_any _ _ (by omega)).mono ?_
  rintro e w3 ⟨rfl, hb3⟩
  go_wp2_with fail
  refine (refPut_any _ _ hq).mono ?_
  rintro e w4 ⟨rfl, hb4⟩
  have hb5 := bl hb1 (fbel_al (bl hb3 hb4))
  clear hb1 hb3 hb4 hcv
  go_wp2
  go_ret2
  exact ⟨ret2_bs HP.out, hb5⟩

set_option maxRecDepth 100000 in
set_option maxHeartbeats 800000 in
theorem rfput_long (q : Nat) (t : List UInt8) (w : World) (ht : 2000 < t.length) :
    Calls Tryd.prog 12 #[.int .u64 (q : Int), .string (Num.bs t)] w fun e w' => e = .returned (.tuple #[.string ⟨#[]⟩, .int .i64 7]) ∧ Below w.heap.size w w' := by
  have hts : (Num.bs t).size = t.length := Num.bs_size _
  go_enter Tryd.func12, Tryd.ntmps12
  go_wp2
  go_ret2
  exact ⟨rfl, Below.refl _ _⟩

theorem rtake_none (s : ByteArray) (w : World) (hs : s.size ≤ maxLen) (h : Num.take s.data.toList = none) :
    Calls Tryd.prog 27 #[.string s] w fun e w' => e = .returned (.tuple #[.int .u64 0, .string ⟨#[]⟩, .int .i64 2]) ∧ Below w.heap.size w w' := by
  have := refTake_any s w hs
  rwa [takeV, h] at this
theorem rtake_some (s : ByteArray) (w : World) (hs : s.size ≤ maxLen) {n : Nat} {r : List UInt8} (h : Num.take s.data.toList = some (n, r)) :
    Calls Tryd.prog 27 #[.string s] w fun e w' => e = .returned (.tuple #[.int .u64 (n : Int), .string (Num.bs r), .int .i64 0]) ∧ Below w.heap.size w w' := by
  have := refTake_any s w hs
  rwa [takeV, h] at this

/-- The bytes begin with a frame's just if the sum is right. -/
theorem front_is {l r t b : List UInt8} {n q : Nat} (h1 : Num.take l = some (n, r)) (h2 : Num.take r = some (q, t)) (hbn : b.length = n) (hb : (t.drop 4).take n = b) :
    (l.take (Frm.size (q, b)) = Frm.put (q, b) → t.take 4 = Frm.sum4 q b) ∧ (t.take 4 = Frm.sum4 q b → l.take (Frm.size (q, b)) = Frm.put (q, b)) := by
  have e1 := (Num.of_take h1).1
  have e2 := (Num.of_take h2).1
  have hp : Frm.put (q, b) = (Num.put n ++ Num.put q) ++ (Frm.sum4 q b ++ b) := by unfold Frm.put; simp only [hbn, List.append_assoc]
  have hl : l = (Num.put n ++ Num.put q) ++ t := by rw [e1, e2]; simp only [List.append_assoc]
  have hz : Frm.size (q, b) = (Num.put n ++ Num.put q).length + (4 + n) := by rw [Frm.size_eq, List.length_append]; simp only [hbn]; omega
  have ht : t.take (4 + n) = t.take 4 ++ b := by rw [← hb, List.take_add]
  have h4 := Frm.sum4_len q b
  rw [hz, hl, hp, List.take_length_add_append, ht]
  constructor
  · intro h
    have h' := List.append_cancel_left h
    exact (List.append_inj' h' rfl).1
  · intro h
    rw [h]

set_option maxRecDepth 100000 in
set_option maxHeartbeats 1600000 in
theorem rfirst_any (l : List UInt8) (w : World) (hl : l.length ≤ maxLen) :
    Calls Tryd.prog 14 #[.string (Num.bs l)] w fun e w' => e = .returned (firstV l) ∧ Below w.heap.size w w' := by
  unfold firstV
  have hls : (Num.bs l).size = l.length := Num.bs_size _
  cases h1 : Num.take l with
  | none =>
    rw [first_no1 h1]
    unfold noneV
    have HA := hide (fun wx => rtake_none (Num.bs l) wx (by omega) h1)
    clear h1
    go_enter Tryd.func14, Tryd.ntmps14
    go_wp2_with fail
    refine (HA.out _).mono ?_
    rintro e w1 ⟨rfl, hb1⟩
    obtain ⟨p1, p2, p3, p4, p5, p6⟩ := three_later hb1
    have hbz := fbel_al hb1
    clear hb1
    go_wp2
    obtain ⟨r1, r2, r3⟩ := set_three p1 p2 p3 (.int .u64 0) (.string ⟨#[]⟩) (.int .i64 0)
    refine bodyPost_ret (v := .tuple #[.agg #[.int .u64 0, .string ⟨#[]⟩, .int .i64 0], .int .i64 2]) (by simp [results, Tryd.results14, go_sem, r1, r2, r3]) rfl ?_
    exact ⟨rfl, ((hbz.setCell (Nat.le_refl _) _).setCell (Nat.le_refl _) _).setCell (Nat.le_refl _) _⟩
  | some p =>
    obtain ⟨n, r⟩ := p
    have hrl := take_len h1
    have hnl := Num.take_lt h1
    have hrs : (Num.bs r).size = r.length := Num.bs_size _
    have HA := hide (fun wx => rtake_some (Num.bs l) wx (by omega) h1)
    by_cases hn : 2000 < n
    · rw [first_no2 h1 hn]
      unfold noneV
      clear h1
      go_enter Tryd.func14, Tryd.ntmps14
      go_wp2_with fail
      refine (HA.out _).mono ?_
      rintro e w1 ⟨rfl, hb1⟩
      obtain ⟨p1, p2, p3, p4, p5, p6⟩ := three_later hb1
      have hbz := fbel_al hb1
      clear hb1
      go_wp2
      obtain ⟨r1, r2, r3⟩ := set_three p1 p2 p3 (.int .u64 0) (.string ⟨#[]⟩) (.int .i64 0)
      refine bodyPost_ret (v := .tuple #[.agg #[.int .u64 0, .string ⟨#[]⟩, .int .i64 0], .int .i64 2]) (by simp [results, Tryd.results14, go_sem, r1, r2, r3]) rfl ?_
      exact ⟨rfl, ((hbz.setCell (Nat.le_refl _) _).setCell (Nat.le_refl _) _).setCell (Nat.le_refl _) _⟩
    · cases h2 : Num.take r with
      | none =>
        rw [first_no3 h1 h2]
        unfold noneV
        have HB := hide (fun wx => rtake_none (Num.bs r) wx (by omega) h2)
        clear h1 h2
        go_enter Tryd.func14, Tryd.ntmps14
        go_wp2_with fail
        refine (HA.out _).mono ?_
        rintro e w1 ⟨rfl, hb1⟩
        go_wp2_with fail
        refine (HB.out _).mono ?_
        rintro e w2 ⟨rfl, hb2⟩
        have hb3 := bl hb1 hb2
        clear hb1 hb2
        obtain ⟨p1, p2, p3, p4, p5, p6⟩ := three_later hb3
        have hbz := fbel_al hb3
        clear hb3
        go_wp2
        obtain ⟨r1, r2, r3⟩ := set_three p1 p2 p3 (.int .u64 0) (.string ⟨#[]⟩) (.int .i64 0)
        refine bodyPost_ret (v := .tuple #[.agg #[.int .u64 0, .string ⟨#[]⟩, .int .i64 0], .int .i64 2]) (by simp [results, Tryd.results14, go_sem, r1, r2, r3]) rfl ?_
        exact ⟨rfl, ((hbz.setCell (Nat.le_refl _) _).setCell (Nat.le_refl _) _).setCell (Nat.le_refl _) _⟩
      | some p =>
        obtain ⟨q, t⟩ := p
        have htl := take_len h2
        have hql := Num.take_lt h2
        have hts : (Num.bs t).size = t.length := Num.bs_size _
        have HB := hide (fun wx => rtake_some (Num.bs r) wx (by omega) h2)
        have hz1 := take_eq h1
        have hz2 := take_eq h2
        rw [first_on h1 hn h2]
        unfold maxLen at hl
        by_cases hs : t.length < n + 4
        · rw [Frm.behind_no hs]
          unfold noneV
          clear h1 h2 hz1 hz2
          go_enter Tryd.func14, Tryd.ntmps14
          go_wp2_with fail
          refine (HA.out _).mono ?_
          rintro e w1 ⟨rfl, hb1⟩
          go_wp2_with fail
          refine (HB.out _).mono ?_
          rintro e w2 ⟨rfl, hb2⟩
          have hb3 := bl hb1 hb2
          clear hb1 hb2
          obtain ⟨p1, p2, p3, p4, p5, p6⟩ := three_later hb3
          have hbz := fbel_al hb3
          clear hb3
          go_wp2
          obtain ⟨r1, r2, r3⟩ := set_three p1 p2 p3 (.int .u64 0) (.string ⟨#[]⟩) (.int .i64 0)
          refine bodyPost_ret (v := .tuple #[.agg #[.int .u64 0, .string ⟨#[]⟩, .int .i64 0], .int .i64 2]) (by simp [results, Tryd.results14, go_sem, r1, r2, r3]) rfl ?_
          exact ⟨rfl, ((hbz.setCell (Nat.le_refl _) _).setCell (Nat.le_refl _) _).setCell (Nat.le_refl _) _⟩
        · have hbl : ((t.drop 4).take n).length = n := by simp only [List.length_take, List.length_drop]; omega
          obtain ⟨b, hb⟩ : ∃ b, (t.drop 4).take n = b := ⟨_, rfl⟩
          have hbl2 : b.length = n := by rw [← hb]; exact hbl
          have he2 : (Num.bs t).extract 4 (4 + n) = Num.bs b := by rw [extract_mid, Nat.add_sub_cancel_left, hb]
          have HC := hide (fun wx => rfput_ok q b wx hql (by omega))
          have hps : (Num.bs (Frm.put (q, b))).size = Frm.size (q, b) := Num.bs_size _
          have hzz : Frm.size (q, b) = l.length - t.length + (4 + n) := by rw [Frm.size_eq]; simp only [hbl2]; omega
          have hzl : Frm.size (q, b) ≤ l.length := by omega
          have hfr := front_is h1 h2 hbl2 hb
          have he3 : (Num.bs l).extract 0 (Frm.size (q, b)) = Num.bs (l.take (Frm.size (q, b))) := by rw [extract_mid]; rfl
          by_cases hc : t.take 4 = Frm.sum4 q b
          · have hbe : Frm.behind n q t = some (q, b) := by unfold Frm.behind; rw [if_neg hs, hb, if_pos hc]
            rw [hbe]
            have hq : ((Num.bs (l.take (Frm.size (q, b)))).toList == (Num.bs (Frm.put (q, b))).toList) = true := by rw [hfr.2 hc]; simp
            unfold someV
            clear h1 h2 hbe hc hb hbl hz1 hz2 hfr hzz
            go_enter Tryd.func14, Tryd.ntmps14
            go_wp2_with fail
            refine (HA.out _).mono ?_
            rintro e w1 ⟨rfl, hb1⟩
            go_wp2_with fail
            refine (HB.out _).mono ?_
            rintro e w2 ⟨rfl, hb2⟩
            have hb3 := bl hb1 hb2
            clear hb1 hb2
            have k3 : 4 + n ≤ t.length := by omega
            go_wp2_with fail
            refine (HC.out _).mono ?_
            rintro e w3 ⟨rfl, hb4⟩
            have hb5 := bl hb3 hb4
            clear hb3 hb4
            obtain ⟨p1, p2, p3, p4, p5, p6⟩ := three_later hb5
            have hbz := fbel_al hb5
            clear hb5
            go_wp2
            obtain ⟨r1, r2, r3⟩ := set_three p1 p2 p3 (.int .u64 (q : Int)) (.string (Num.bs b)) (.int .i64 ((Frm.size (q, b) : Nat) : Int))
            refine bodyPost_ret (v := .tuple #[.agg #[.int .u64 (q : Int), .string (Num.bs b), .int .i64 ((Frm.size (q, b) : Nat) : Int)], .int .i64 0]) (by simp [results, Tryd.results14, go_sem, r1, r2, r3]) rfl ?_
            exact ⟨rfl, ((hbz.setCell (Nat.le_refl _) _).setCell (Nat.le_refl _) _).setCell (Nat.le_refl _) _⟩
          · rw [Frm.behind_bad (by rw [hb]; exact hc)]
            have hq : ((Num.bs (l.take (Frm.size (q, b)))).toList == (Num.bs (Frm.put (q, b))).toList) = false := by
              rw [ByteArray.toList_eq, ByteArray.toList_eq, Num.bs_toList, Num.bs_toList]
              exact beq_eq_false_iff_ne.2 (fun e => hc (hfr.1 e))
            unfold noneV
            clear h1 h2 hc hb hbl hz1 hz2 hfr hzz
            go_enter Tryd.func14, Tryd.ntmps14
            go_wp2_with fail
            refine (HA.out _).mono ?_
            rintro e w1 ⟨rfl, hb1⟩
            go_wp2_with fail
            refine (HB.out _).mono ?_
            rintro e w2 ⟨rfl, hb2⟩
            have hb3 := bl hb1 hb2
            clear hb1 hb2
            have k3 : 4 + n ≤ t.length := by omega
            go_wp2_with fail
            refine (HC.out _).mono ?_
            rintro e w3 ⟨rfl, hb4⟩
            have hb5 := bl hb3 hb4
            clear hb3 hb4
            obtain ⟨p1, p2, p3, p4, p5, p6⟩ := three_later hb5
            have hbz := fbel_al hb5
            clear hb5
            go_wp2
            obtain ⟨r1, r2, r3⟩ := set_three p1 p2 p3 (.int .u64 0) (.string ⟨#[]⟩) (.int .i64 0)
            refine bodyPost_ret (v := .tuple #[.agg #[.int .u64 0, .string ⟨#[]⟩, .int .i64 0], .int .i64 2]) (by simp [results, Tryd.results14, go_sem, r1, r2, r3]) rfl ?_
            exact ⟨rfl, ((hbz.setCell (Nat.le_refl _) _).setCell (Nat.le_refl _) _).setCell (Nat.le_refl _) _⟩

end Go.Proofs.YtdpkpcoadojkhaaDoor
