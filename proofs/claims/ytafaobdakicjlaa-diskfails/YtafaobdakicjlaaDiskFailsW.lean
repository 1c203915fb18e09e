/-
  An operation that fails changes nothing.
-/
import Derived.Test.YtafaobdakicjlaaDskTwoW
import Derived.Test.YtafaobdakicjlaaDskActsW
import Derived.Test.YtafaobdakicjlaaDskFailM
import Derived.Test.YtafaobdakicjlaaDskAct2W
import Derived.Test.YtafaobdakicjlaaDskAct3W
namespace Go.Proofs.Ytafaobdakicjlaa
open Go.RowKit
open Dsk (By Dk)

theorem nameOf_size (k : Nat) {raw : ByteArray} (h : raw.size ≤ 140737488351232) : (nameOf k raw).size ≤ 140737488351232 := by
  unfold nameOf
  match k with
  | 0 => exact Nat.le_of_ble_eq_true rfl
  | 1 => exact Nat.le_of_ble_eq_true rfl
  | 2 => exact Nat.le_of_ble_eq_true rfl
  | 3 => exact Nat.le_of_ble_eq_true rfl
  | _ + 4 => exact h
theorem acSum_pre (l : List Ac) (j : Nat) : acSum (l.take j) ≤ acSum l := by
  conv => rhs; rw [← List.take_append_drop j l]
  unfold acSum
  rw [List.map_append, List.sum_append]
  omega
theorem list_len0 (d : Dk) : (Dsk.list d).length = (Dsk.dir d).length := by
  unfold Dsk.list
  rw [(Dsk.sortN_perm _).length_eq]
  unfold Dsk.names
  rw [List.length_map]
theorem keep_three (w : World) (t : TypeId) : KeepAt (w.alloc (.cells #[.int .i64 1, .int .i64 2, .int .i64 3] t)) (some ⟨w.heap.size, 0, none⟩) [1, 2, 3] :=
  ⟨w.heap.size, 0, fun _ => ⟨rfl, by simp⟩, fun j hj => by
    have h3 : j < 3 := hj
    match j, h3 with
    | 0, _ => simp
    | 1, _ => simp
    | 2, _ => simp⟩
set_option maxRecDepth 100000 in
set_option maxHeartbeats 800000 in
theorem walkDiskFails (room : Int) (a0 : Option Addr) (cap0 : Nat) (l : List Ac) (n : Int) (w : World) (hr : -9223372036854775808 ≤ room ∧ room ≤ 9223372036854775807) (ha : ActsAt w a0 l) (hl : l.length ≤ 9223372036854775807) (hok : ∀ p ∈ l, AcOk p) (hn : -9223372036854775808 ≤ n ∧ n ≤ 9223372036854775807) :
    Calls Try.prog 4 #[.int .i64 room, .slice a0 l.length cap0, .int .i64 n] w fun e w' => e = .returned (.bool true) ∧ Below w.heap.size w w' := by
  obtain ⟨p, hp⟩ : ∃ p, pk n 9 = p := ⟨_, rfl⟩
  have hp9 : p < 9 := by rw [← hp]; exact pk_lt n (by omega)
  have HP := hide hp
  have HA := hide ha
  have HOK := hide hok
  clear hp ha hok
  go_enter Try.func4, Try.ntmps4
  go_wp2_with fail
  refine (dshown_any _).mono ?_
  rintro e w1 ⟨rfl, hb1⟩
  go_wp2_with fail
  refine (light_any cap0 (HA.out.below hb1) hl HOK.out).mono ?_
  rintro e w2 ⟨b, rfl, hli, hb2⟩
  have HLI := hide hli
  have HB2 := hide (bl hb1 hb2)
  clear hli hb1 hb2
  go_wp2_with fail
  refine (new_dk room _ hr.2).mono ?_
  rintro e w3 ⟨rfl, hd3, hb3⟩
  obtain ⟨pa, hpa⟩ : ∃ q, w2.heap.size + 1 = q := ⟨_, rfl⟩
  rw [hpa] at hd3 ⊢
  have HD3 := hide hd3
  have HB3 := hide hb3
  clear hd3 hb3 hpa
  go_wp2_with fail
  refine (new_dk room _ hr.2).mono ?_
  rintro e w4 ⟨rfl, hd4, hb4⟩
  obtain ⟨pb, hpb⟩ : ∃ q, w3.heap.size + 1 = q := ⟨_, rfl⟩
  rw [hpb] at hd4 ⊢
  have hft : FT w2 pa pb (more noneS w2 w3) (more noneS w3 w4) w4 (Dsk.fresh room) (Dsk.fresh room) 0 :=
    ⟨HD3.out.below hb4, hd4, fun x h1 h2 => by have := more_lt _ h1; have := more_ge h2; omega, (Own.new HB3.out).then hb4, fun x h => Nat.le_trans HB3.out.size (more_ge h)⟩
  have HFT := hide hft
  clear hd4 hb4 hpb hft HD3 HB3
  cases b with
  | false =>
    go_wp2
    go_ret
    exact ⟨rfl, bl HB2.out HFT.out.oa.below⟩
  | true =>
    obtain ⟨l1, l2⟩ := HLI.out rfl
    go_wp2_with fail
    refine (pick_any n 9 _ hn.1 hn.2 (by omega) (by omega)).mono ?_
    rintro e w5 ⟨rfl, hw⟩
    rw [hw, HP.out]
    clear hw
    go_wp2_with fail
    refine (fail_dk HFT.out.da (((1 + p : Nat) : Nat) : Int) (by omega)).mono ?_
    rintro e w5 ⟨rfl, hd5, ho5⟩
    have HFT5 := hide (HFT.out.setA hd5 ho5)
    have HFR5 := hide (Dsk.fresh_fail room (1 + p) (by omega))
    clear hd5 ho5
    go_wp2
    go_loopw [11, 12] (fun v11 v12 wr => ∃ (j jf : Nat) (A B : Dk) (c : Nat) (S T : Nat → Prop), j ≤ l.length ∧ v12 = .int .i64 (j : Int) ∧ v11 = .int .i64 (jf : Int) ∧ Hid (FT w2 pa pb S T wr A B c) ∧ Hid (Dsk.FailRel jf A B) ∧ c ≤ 2 * (j + acSum (l.take j))) (fun _ v12 _ => l.length - (intOf v12).toNat)
    case atStart => exact ⟨0, 0, _, _, _, _, _, Nat.zero_le _, rfl, rfl, HFT5, HFR5, Nat.zero_le _⟩
    case round =>
      obtain ⟨j, jf, A, B, c, S, T, hj, rfl, rfl, HF, HFR, hc⟩ := hrel
      have hjf := HFR.out.same.2.2.2
      by_cases hlt : j < l.length
      · obtain ⟨g, o, rfl, hg, hcell⟩ := HA.out j hlt
        have hcy := hcell j hlt
        have e0 := acSum_take hlt
        have e1 := HOK.out _ (List.getElem_mem hlt)
        obtain ⟨y, hy⟩ : ∃ y, l[j] = y := ⟨_, rfl⟩
        rw [hy] at hcy e0 e1
        have hsum : acSum (l.take (j + 1)) ≤ 1000 := Nat.le_trans (acSum_pre l (j + 1)) l2
        have ACS := hide e0
        have hyn := e1.n
        have hys := e1.raw
        have hyo := e1.op
        have hym := e1.name
        have HF0 := HB2
        have hc6 := hcy.below (bl HF0.out HF.out.oa.below) hg
        obtain ⟨k, hk⟩ : ∃ k, pk y.op 15 = k := ⟨_, rfl⟩
        obtain ⟨f, hf⟩ : ∃ f, nameOf (pk y.name 5) y.raw = f := ⟨_, rfl⟩
        have hfs : f.size ≤ 9223372036854775807 := by rw [← hf]; exact Nat.le_trans (nameOf_size _ hys) (by omega)
        have hfm : f.size ≤ maxLen := by unfold maxLen; omega
        have hop := HFR.out.op k f y.text.data.toList y.n
        have HOPH := hide hop
        have HK := hide hk
        have HFN := hide hf
        have c0 := hc6.c0
        have HC6 := hide hc6
        have hs0 : acSum (l.take j) + (y.text.size + y.raw.size) ≤ 1000 := by omega
        have htx : y.text.size ≤ 1000 := by omega
        clear e0 e1 hy hcell hop hk hf hc6
        unfold in64 at hyo hym hyn
        go_wp2_with fail
        refine (pick_any y.op 15 _ hyo.1 hyo.2 (by omega) (by omega)).mono ?_
        rintro e w6 ⟨rfl, hw⟩
        rw [hw, HK.out]
        clear hw c0
        go_wp2_with fail
        refine wp_region_growK (fun z => z = g) [([0, 1, 2, 3, 4, 5, 6, 7, 8, 9], 10)] [11] [] (by kernel_rfl) (by kernel_rfl) (by kernel_rfl) (by kernel_rfl) ?_
        intro w4' hb4
        simp only [stagesOfK, getLK, pickLK]
        have HF4 := hide (HF.out.then hb4)
        have hc4 := hcy.below (bl HF0.out HF4.out.oa.below) hg
        have c1 := hc4.c1
        have c4 := hc4.c4
        have inh : Nonempty (GrK (fun z => z = g) w4') := GrK.some _ w4'
        have q1 := fun z : GrK (fun z => z = g) w4' => z.cell (a := ⟨g, o + j * 6 + 1, none⟩) rfl c1
        have q4 := fun z : GrK (fun z => z = g) w4' => z.cell (a := ⟨g, o + j * 6 + 4, none⟩) rfl c4
        refine wpG_stageK ?_
        repeat (go_big_quiet_step (fail))
        refine wpQuiet_nil ?_
        clear q1 q4 inh hb4 hc4 c1 c4
        go_wp2_with fail
        refine (name_any y.name y.raw _ hym.1 hym.2).mono ?_
        rintro e w6 ⟨rfl, hb6⟩
        rw [HFN.out]
        have HF6 := hide (HF4.out.then hb6)
        have hk6 : Kept (fun z => z = g) w4' w6 := Kept.of_below hb6 (fun z e => by subst e; exact Nat.lt_of_lt_of_le hg (bl HF0.out HF4.out.oa.below).size)
        go_wp2
        refine OnToK.mk hk6 (Sub.refl _) ?_
        clear hk6 hb6
        have inh : Nonempty (GrK (fun z => z = g) w6) := GrK.some _ w6
        refine wpG_lastK ?_
        repeat (go_big_quiet_step (fail))
        refine wpQuiet_nil ?_
        clear inh
        have hc6 := hcy.below (bl HF0.out HF6.out.oa.below) hg
        have c3 := hc6.c3
        have c5 := hc6.c5
        have hop := HOPH.out
        clear hc6 HOPH HC6
        by_cases n0 : k < 2
        · have ef : ∀ D : Dk, Dsk.opF k f y.text.data.toList y.n D = Dsk.create f D := fun D => by unfold Dsk.opF; rw [if_pos n0]
          rw [ef, ef] at hop
          have HOP := hide hop
          clear hop ef
          go_wp2_with fail
          refine (create_dk HF6.out.da f hfs (by omega)).mono ?_
          rintro e w7 ⟨rfl, hd7, ho7⟩
          have HF7 := hide (HF6.out.stepA hd7 ho7 (by omega))
          clear hd7 ho7
          obtain ⟨A7, e7, hA7⟩ : ∃ A7 e7, Dsk.create f A = (A7, e7) := ⟨(Dsk.create f A).1, (Dsk.create f A).2, rfl⟩
          have hop := HOP.out
          rw [hA7] at hop HF7 ⊢
          have hc7 := hcy.below (bl HF0.out HF7.out.oa.below) hg
          have c3 := hc7.c3
          have c5 := hc7.c5
          clear hA7 HOP hc7
          rcases hop with ⟨q1, q2, q3⟩ | ⟨q1, q2, q3⟩
          · have q1 : e7 = 10 := q1
            subst q1 q2
            have Q3 := hide q3
            clear q3
            go_wp2
            go_roundw
            case rel => exact ⟨j + 1, 1, A7, B, _, _, _, by omega, by go_num, rfl, HF7, Q3, by have := ACS.out; omega⟩
            case measure => simp [intOf]; omega
          · have q1b : (e7 == 10) = false := beq_eq_false_iff_ne.2 q1
            have Q3 := hide q3
            have Q2 := hide q2
            clear q3 q1 q2
            go_wp2_with fail
            refine (create_dk HF7.out.db f hfs (by omega)).mono ?_
            rintro e w8 ⟨rfl, hd8, ho8⟩
            have HF8 := hide (HF7.out.stepB (hd8.mono (Nat.le_refl _)) ho8 (by omega))
            have q2 := Q2.out
            have q2 : (Dsk.create f B).2 = e7 := q2.symm
            rw [q2]
            clear hd8 ho8 Q2 q2
            go_wp2
            go_roundw
            case rel => exact ⟨j + 1, jf, A7, _, _, _, _, by omega, by go_num, rfl, HF8, Q3, by have := ACS.out; omega⟩
            case measure => simp [intOf]; omega
        by_cases n1 : k < 6
        · have ef : ∀ D : Dk, Dsk.opF k f y.text.data.toList y.n D = Dsk.append f y.text.data.toList D := fun D => by unfold Dsk.opF; rw [if_neg n0, if_pos n1]
          rw [ef, ef] at hop
          have HOP := hide hop
          clear hop ef
          go_wp2_with fail
          refine (append_dk HF6.out.da f y.text hfm (by omega)).mono ?_
          rintro e w7 ⟨rfl, hd7, ho7⟩
          have HF7 := hide (HF6.out.stepA hd7 ho7 (by omega))
          clear hd7 ho7
          obtain ⟨A7, e7, hA7⟩ : ∃ A7 e7, Dsk.append f y.text.data.toList A = (A7, e7) := ⟨(Dsk.append f y.text.data.toList A).1, (Dsk.append f y.text.data.toList A).2, rfl⟩
          have hop := HOP.out
          rw [hA7] at hop HF7 ⊢
          have hc7 := hcy.below (bl HF0.out HF7.out.oa.below) hg
          have c3 := hc7.c3
          have c5 := hc7.c5
          clear hA7 HOP hc7
          rcases hop with ⟨q1, q2, q3⟩ | ⟨q1, q2, q3⟩
          · have q1 : e7 = 10 := q1
            subst q1 q2
            have Q3 := hide q3
            clear q3
            go_wp2
            go_roundw
            case rel => exact ⟨j + 1, 1, A7, B, _, _, _, by omega, by go_num, rfl, HF7, Q3, by have := ACS.out; omega⟩
            case measure => simp [intOf]; omega
          · have q1b : (e7 == 10) = false := beq_eq_false_iff_ne.2 q1
            have Q3 := hide q3
            have Q2 := hide q2
            clear q3 q1 q2
            go_wp2_with fail
            refine (append_dk HF7.out.db f y.text hfm (by omega)).mono ?_
            rintro e w8 ⟨rfl, hd8, ho8⟩
            have HF8 := hide (HF7.out.stepB (hd8.mono (Nat.le_refl _)) ho8 (by omega))
            have q2 := Q2.out
            have q2 : (Dsk.append f y.text.data.toList B).2 = e7 := q2.symm
            rw [q2]
            clear hd8 ho8 Q2 q2
            go_wp2
            go_roundw
            case rel => exact ⟨j + 1, jf, A7, _, _, _, _, by omega, by go_num, rfl, HF8, Q3, by have := ACS.out; omega⟩
            case measure => simp [intOf]; omega
        by_cases n2 : k = 6
        · have ef : ∀ D : Dk, Dsk.opF k f y.text.data.toList y.n D = Dsk.cut f y.n D := fun D => by unfold Dsk.opF; rw [if_neg n0, if_neg n1, if_pos n2]
          rw [ef, ef] at hop
          have HOP := hide hop
          clear hop ef
          go_wp2_with fail
          refine (cut_dk HF6.out.da f y.n hfm hyn (by omega)).mono ?_
          rintro e w7 ⟨rfl, hd7, ho7⟩
          have HF7 := hide (HF6.out.stepA hd7 ho7 (by omega))
          clear hd7 ho7
          obtain ⟨A7, e7, hA7⟩ : ∃ A7 e7, Dsk.cut f y.n A = (A7, e7) := ⟨(Dsk.cut f y.n A).1, (Dsk.cut f y.n A).2, rfl⟩
          have hop := HOP.out
          rw [hA7] at hop HF7 ⊢
          have hc7 := hcy.below (bl HF0.out HF7.out.oa.below) hg
          have c3 := hc7.c3
          have c5 := hc7.c5
          clear hA7 HOP hc7
          rcases hop with ⟨q1, q2, q3⟩ | ⟨q1, q2, q3⟩
          · have q1 : e7 = 10 := q1
            subst q1 q2
            have Q3 := hide q3
            clear q3
            go_wp2
            go_roundw
            case rel => exact ⟨j + 1, 1, A7, B, _, _, _, by omega, by go_num, rfl, HF7, Q3, by have := ACS.out; omega⟩
            case measure => simp [intOf]; omega
          · have q1b : (e7 == 10) = false := beq_eq_false_iff_ne.2 q1
            have Q3 := hide q3
            have Q2 := hide q2
            clear q3 q1 q2
            go_wp2_with fail
            refine (cut_dk HF7.out.db f y.n hfm hyn (by omega)).mono ?_
            rintro e w8 ⟨rfl, hd8, ho8⟩
            have HF8 := hide (HF7.out.stepB (hd8.mono (Nat.le_refl _)) ho8 (by omega))
            have q2 := Q2.out
            have q2 : (Dsk.cut f y.n B).2 = e7 := q2.symm
            rw [q2]
            clear hd8 ho8 Q2 q2
            go_wp2
            go_roundw
            case rel => exact ⟨j + 1, jf, A7, _, _, _, _, by omega, by go_num, rfl, HF8, Q3, by have := ACS.out; omega⟩
            case measure => simp [intOf]; omega
        by_cases n3 : k < 9
        · have ef : ∀ D : Dk, Dsk.opF k f y.text.data.toList y.n D = Dsk.sync f D := fun D => by unfold Dsk.opF; rw [if_neg n0, if_neg n1, if_neg n2, if_pos n3]
          rw [ef, ef] at hop
          have HOP := hide hop
          clear hop ef
          go_wp2_with fail
          refine (sync_dk HF6.out.da f hfm (by omega)).mono ?_
          rintro e w7 ⟨rfl, hd7, ho7⟩
          have HF7 := hide (HF6.out.stepA hd7 ho7 (by omega))
          clear hd7 ho7
          obtain ⟨A7, e7, hA7⟩ : ∃ A7 e7, Dsk.sync f A = (A7, e7) := ⟨(Dsk.sync f A).1, (Dsk.sync f A).2, rfl⟩
          have hop := HOP.out
          rw [hA7] at hop HF7 ⊢
          have hc7 := hcy.below (bl HF0.out HF7.out.oa.below) hg
          have c3 := hc7.c3
          have c5 := hc7.c5
          clear hA7 HOP hc7
          rcases hop with ⟨q1, q2, q3⟩ | ⟨q1, q2, q3⟩
          · have q1 : e7 = 10 := q1
            subst q1 q2
            have Q3 := hide q3
            clear q3
            go_wp2
            go_roundw
            case rel => exact ⟨j + 1, 1, A7, B, _, _, _, by omega, by go_num, rfl, HF7, Q3, by have := ACS.out; omega⟩
            case measure => simp [intOf]; omega
          · have q1b : (e7 == 10) = false := beq_eq_false_iff_ne.2 q1
            have Q3 := hide q3
            have Q2 := hide q2
            clear q3 q1 q2
            go_wp2_with fail
            refine (sync_dk HF7.out.db f hfm (by omega)).mono ?_
            rintro e w8 ⟨rfl, hd8, ho8⟩
            have HF8 := hide (HF7.out.stepB (hd8.mono (Nat.le_refl _)) ho8 (by omega))
            have q2 := Q2.out
            have q2 : (Dsk.sync f B).2 = e7 := q2.symm
            rw [q2]
            clear hd8 ho8 Q2 q2
            go_wp2
            go_roundw
            case rel => exact ⟨j + 1, jf, A7, _, _, _, _, by omega, by go_num, rfl, HF8, Q3, by have := ACS.out; omega⟩
            case measure => simp [intOf]; omega
        by_cases n4 : k < 11
        · have ef : ∀ D : Dk, Dsk.opF k f y.text.data.toList y.n D = Dsk.remove f D := fun D => by unfold Dsk.opF; rw [if_neg n0, if_neg n1, if_neg n2, if_neg n3, if_pos n4]
          rw [ef, ef] at hop
          have HOP := hide hop
          clear hop ef
          go_wp2_with fail
          refine (remove_dk HF6.out.da f hfm (by omega)).mono ?_
          rintro e w7 ⟨rfl, hd7, ho7⟩
          have HF7 := hide (HF6.out.stepA hd7 ho7 (by omega))
          clear hd7 ho7
          obtain ⟨A7, e7, hA7⟩ : ∃ A7 e7, Dsk.remove f A = (A7, e7) := ⟨(Dsk.remove f A).1, (Dsk.remove f A).2, rfl⟩
          have hop := HOP.out
          rw [hA7] at hop HF7 ⊢
          have hc7 := hcy.below (bl HF0.out HF7.out.oa.below) hg
          have c3 := hc7.c3
          have c5 := hc7.c5
          clear hA7 HOP hc7
          rcases hop with ⟨q1, q2, q3⟩ | ⟨q1, q2, q3⟩
          · have q1 : e7 = 10 := q1
            subst q1 q2
            have Q3 := hide q3
            clear q3
            go_wp2
            go_roundw
            case rel => exact ⟨j + 1, 1, A7, B, _, _, _, by omega, by go_num, rfl, HF7, Q3, by have := ACS.out; omega⟩
            case measure => simp [intOf]; omega
          · have q1b : (e7 == 10) = false := beq_eq_false_iff_ne.2 q1
            have Q3 := hide q3
            have Q2 := hide q2
            clear q3 q1 q2
            go_wp2_with fail
            refine (remove_dk HF7.out.db f hfm (by omega)).mono ?_
            rintro e w8 ⟨rfl, hd8, ho8⟩
            have HF8 := hide (HF7.out.stepB (hd8.mono (Nat.le_refl _)) ho8 (by omega))
            have q2 := Q2.out
            have q2 : (Dsk.remove f B).2 = e7 := q2.symm
            rw [q2]
            clear hd8 ho8 Q2 q2
            go_wp2
            go_roundw
            case rel => exact ⟨j + 1, jf, A7, _, _, _, _, by omega, by go_num, rfl, HF8, Q3, by have := ACS.out; omega⟩
            case measure => simp [intOf]; omega
        have ef : ∀ D : Dk, Dsk.opF k f y.text.data.toList y.n D = Dsk.syncDir D := fun D => by unfold Dsk.opF; rw [if_neg n0, if_neg n1, if_neg n2, if_neg n3, if_neg n4]
        rw [ef, ef] at hop
        have HOP := hide hop
        clear hop ef
        go_wp2_with fail
        refine (syncDir_dk HF6.out.da (by omega)).mono ?_
        rintro e w7 ⟨rfl, hd7, ho7⟩
        have HF7 := hide (HF6.out.stepA hd7 ho7 (by omega))
        clear hd7 ho7
        obtain ⟨A7, e7, hA7⟩ : ∃ A7 e7, Dsk.syncDir A = (A7, e7) := ⟨(Dsk.syncDir A).1, (Dsk.syncDir A).2, rfl⟩
        have hop := HOP.out
        rw [hA7] at hop HF7 ⊢
        have hc7 := hcy.below (bl HF0.out HF7.out.oa.below) hg
        have c3 := hc7.c3
        have c5 := hc7.c5
        clear hA7 HOP hc7
        rcases hop with ⟨q1, q2, q3⟩ | ⟨q1, q2, q3⟩
        · have q1 : e7 = 10 := q1
          subst q1 q2
          have Q3 := hide q3
          clear q3
          go_wp2
          go_roundw
          case rel => exact ⟨j + 1, 1, A7, B, _, _, _, by omega, by go_num, rfl, HF7, Q3, by have := ACS.out; omega⟩
          case measure => simp [intOf]; omega
        · have q1b : (e7 == 10) = false := beq_eq_false_iff_ne.2 q1
          have Q3 := hide q3
          have Q2 := hide q2
          clear q3 q1 q2
          go_wp2_with fail
          refine (syncDir_dk HF7.out.db (by omega)).mono ?_
          rintro e w8 ⟨rfl, hd8, ho8⟩
          have HF8 := hide (HF7.out.stepB (hd8.mono (Nat.le_refl _)) ho8 (by omega))
          have q2 := Q2.out
          have q2 : (Dsk.syncDir B).2 = e7 := q2.symm
          rw [q2]
          clear hd8 ho8 Q2 q2
          go_wp2
          go_roundw
          case rel => exact ⟨j + 1, jf, A7, _, _, _, _, by omega, by go_num, rfl, HF8, Q3, by have := ACS.out; omega⟩
          case measure => simp [intOf]; omega
      · obtain rfl : j = l.length := by omega
        rw [List.take_length] at hc
        obtain ⟨r1, r2, r3, r4⟩ := HFR.out.same
        have R1 := hide r1
        have R2 := hide (r2 3 [1, 2, 3])
        have R3 := hide r3
        clear r1 r2 r3
        go_wp2_with fail
        have b5 : Below wr.heap.size wr (wr.alloc (.cells #[.int .i64 1, .int .i64 2, .int .i64 3] 3)) := (Below.refl _ wr).alloc (Nat.le_refl _) _
        have hk5 := keep_three wr 3
        have HF5 := hide (HF.out.then b5)
        refine (crash_dk HF5.out.da (by omega) 3 _ 3 [1, 2, 3] hk5 (by decide)).mono ?_
        rintro e w6 ⟨qx, rfl, hd6, hb6⟩
        rw [R2.out] at hd6
        have HF6 := hide (HF5.out.then hb6)
        have HX6 := hide hd6
        clear hd6 hb6 b5 hk5
        go_wp2_with fail
        have b7 : Below w6.heap.size w6 (w6.alloc (.cells #[.int .i64 1, .int .i64 2, .int .i64 3] 3)) := (Below.refl _ w6).alloc (Nat.le_refl _) _
        have hk7 := keep_three w6 3
        have HF7 := hide (HF6.out.then b7)
        have HX7 := hide (HX6.out.below b7)
        refine (crash_dk HF7.out.db (by omega) 3 _ 3 [1, 2, 3] hk7 (by decide)).mono ?_
        rintro e w8 ⟨qy, rfl, hd8, hb8⟩
        have HF8 := hide (HF7.out.then hb8)
        have HX8 := hide (HX7.out.below hb8)
        have HY8 := hide hd8
        clear hd8 hb8 b7 hk7
        go_wp2_with fail
        refine (list_dk HF8.out.da (by omega)).mono ?_
        rintro e w9 ⟨v, rfl, ho, hb9⟩
        obtain ⟨va, vc, rfl, htx⟩ := txts_of ho
        have HT9 := hide htx
        have HF9 := hide (HF8.out.then hb9)
        have HX9 := hide (HX8.out.below hb9)
        have HY9 := hide (HY8.out.below hb9)
        clear ho hb9 htx
        go_wp2_with fail
        refine (list_dk HF9.out.db (by omega)).mono ?_
        rintro e w10 ⟨v, rfl, ho, hb10⟩
        obtain ⟨ua, uc, rfl, htx⟩ := txts_of ho
        have hla : (Dsk.list A).length ≤ 1000000000000 := by rw [list_len0]; have := HF9.out.da.bud.rows _ (Dsk.dir_mem HF9.out.da.ok.some); omega
        have hlb : (Dsk.list B).length ≤ 1000000000000 := by rw [list_len0]; have := HF9.out.db.bud.rows _ (Dsk.dir_mem HF9.out.db.ok.some); omega
        have HT10 := hide htx
        have HF10 := hide (HF9.out.then hb10)
        have HX10 := hide (HX9.out.below hb10)
        have HY10 := hide (HY9.out.below hb10)
        have HS10 := hide (HT9.out.below hb10)
        clear ho hb10 htx
        go_wp2_with fail
        refine (same_any vc uc (la := Dsk.list A) (lb := Dsk.list B) HS10.out HT10.out hla hlb).mono ?_
        rintro e w11 ⟨rfl, hb11⟩
        rw [decide_eq_true R1.out]
        have HF11 := hide (HF10.out.then hb11)
        have HX11 := hide (HX10.out.below hb11)
        have HY11 := hide (HY10.out.below hb11)
        clear hb11 hla hlb
        go_wp2_with fail
        refine (list_dk HX11.out (by omega)).mono ?_
        rintro e w12 ⟨v, rfl, ho, hb12⟩
        obtain ⟨xa, xc, rfl, htx⟩ := txts_of ho
        have HT12 := hide htx
        have HF12 := hide (HF11.out.then hb12)
        have HX12 := hide (HX11.out.below hb12)
        have HY12 := hide (HY11.out.below hb12)
        clear ho hb12 htx
        go_wp2_with fail
        refine (list_dk HY12.out (by omega)).mono ?_
        rintro e w13 ⟨v, rfl, ho, hb13⟩
        obtain ⟨ya, yc, rfl, htx⟩ := txts_of ho
        have hlc : (Dsk.list (Dsk.crash 3 [1, 2, 3] B)).length ≤ 1000000000000 := by rw [list_len0]; have := HY12.out.bud.rows _ (Dsk.dir_mem HY12.out.ok.some); omega
        have HT13 := hide htx
        have HF13 := hide (HF12.out.then hb13)
        have HX13 := hide (HX12.out.below hb13)
        have HY13 := hide (HY12.out.below hb13)
        have HS13 := hide (HT12.out.below hb13)
        clear ho hb13 htx
        go_wp2_with fail
        refine (same_any xc yc (la := Dsk.list (Dsk.crash 3 [1, 2, 3] B)) (lb := Dsk.list (Dsk.crash 3 [1, 2, 3] B)) HS13.out HT13.out hlc hlc).mono ?_
        rintro e w14 ⟨rfl, hb14⟩
        rw [decide_eq_true rfl]
        have HF14 := hide (HF13.out.then hb14)
        have HX14 := hide (HX13.out.below hb14)
        have HY14 := hide (HY13.out.below hb14)
        clear hb14 hlc
        go_wp2_with fail
        refine (used_dk HX14.out).mono ?_
        rintro e w15 ⟨rfl, hw⟩
        rw [hw]
        clear hw
        go_wp2_with fail
        refine (used_dk HY14.out).mono ?_
        rintro e w15 ⟨rfl, hw⟩
        rw [hw]
        clear hw
        go_wp2_with fail
        refine (ops_dk HF14.out.da).mono ?_
        rintro e w15 ⟨rfl, hw⟩
        rw [hw, R3.out]
        clear hw
        have hbo := HF14.out.db.bud.ops
        go_wp2_with fail
        refine (ops_dk HF14.out.db).mono ?_
        rintro e w15 ⟨rfl, hw⟩
        rw [hw]
        clear hw
        go_wp2
        go_ret
        exact ⟨by simp, bl HB2.out HF14.out.oa.below⟩

end Go.Proofs.Ytafaobdakicjlaa
