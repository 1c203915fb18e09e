/-
  Chapter 8's laws' alike: does a disk have what the document's has?
-/
import Derived.Test.YtleomppgkikhnaaGreatDskPairW
import Derived.Test.YtleomppgkikhnaaGreatDskTwoW
import Derived.Test.YtleomppgkikhnaaGreatDskCopyW
import Derived.Test.YtleomppgkikhnaaGreatRefListW
namespace Go.Proofs.YtleomppgkikhnaaGreat
open Go.RowKit
open Dsk (By Dk)

set_option maxRecDepth 100000 in
set_option maxHeartbeats 800000 in
theorem alike8_any {w0 : World} {pd pr : Nat} {S T : Nat → Prop} {w : World} {D : Dk} {c : Nat} (H : DR w0 pd pr S T w D D c) (hc : c ≤ 10000000) :
    Calls Tryz.prog 9 #[.pointer (some ⟨pd, 0, none⟩), .pointer (some ⟨pr, 0, none⟩)] w fun e w' => e = .returned (.bool true) ∧ Below w.heap.size w w' := by
  have HH := hide H
  have hla : (Dsk.list D).length ≤ c := by
    unfold Dsk.list
    rw [(Dsk.sortN_perm _).length_eq]
    unfold Dsk.names
    rw [List.length_map]
    exact H.d.bud.rows _ (Dsk.dir_mem H.d.ok.some)
  have hsz : ∀ n ∈ Dsk.list D, n.size ≤ maxLen := fun n hn => by
    unfold maxLen
    obtain ⟨f, hf⟩ := Dsk.mem_list.1 hn
    have h1 := (H.d.ok.row.1 _ hf).1
    unfold Dsk.isName at h1
    have h2 : n.size ≤ 24 := (of_decide_eq_true h1).2.2
    omega
  obtain ⟨L0, hL0⟩ : ∃ L0, Dsk.list D = L0 := ⟨_, rfl⟩
  rw [hL0] at hla hsz
  have HL0 := hide hL0
  have HSZ := hide hsz
  have BK : Hid (∀ o, Below w.heap.size w (w.alloc o)) := hide (fun o => (Below.refl _ w).alloc (Nat.le_refl _) o)
  clear H hsz hL0
  go_enter Tryz.func9, Tryz.ntmps9
  go_wp2_with fail
  refine (list_dk HH.out.d (by omega)).mono ?_
  rintro e w1 ⟨v, rfl, ho, hb⟩
  rw [HL0.out] at ho
  have hn1 := own_nil ho
  obtain ⟨va, vc, rfl, htx⟩ := txts_of ho
  have hvz : va = none → vc = 0 := fun k => hn1 vc (by rw [k])
  have HT1 := hide htx
  have HVZ := hide hvz
  have HH1 := hide (HH.out.then hb)
  have HB1 := hide hb
  clear ho hb htx hn1 hvz
  go_wp2_with fail
  refine wp_region_growK (fun b => b = pr) [([0, 1], 2), ([], 3), ([4, 5, 6, 8], 7), ([], 9), ([10, 11, 12, 13, 15, 16, 17, 18], 14)] [19, 20] [] (by kernel_rfl) (by kernel_rfl) (by kernel_rfl) (by kernel_rfl) ?_
  intro w11 hb11
  simp only [stagesOfK, getLK, pickLK]
  have HT11 := hide (HT1.out.below hb11)
  have HH11 := hide (HH1.out.then hb11)
  have HB11 := hide (bl HB1.out hb11)
  have inh : Nonempty (GrK (fun b => b = pr) w11) := GrK.some _ w11
  refine wpG_stageK ?_
  repeat (go_big_quiet_step (fail))
  refine wpQuiet_nil ?_
  clear inh hb11
  go_wp2_with fail
  refine (rlist_dk HH11.out.r hc).mono ?_
  rintro e w2 ⟨v, rfl, ho, hb⟩
  rw [HL0.out] at ho
  obtain ⟨ua, uc, rfl, htx⟩ := txts_of ho
  have HT2 := hide htx
  have HT12 := hide (HT11.out.below hb)
  have HH2 := hide (HH11.out.then hb)
  have HB2 := hide (bl HB11.out hb)
  have hkp : Kept (fun b => b = pr) w11 w2 := Kept.of_below hb (fun b e => by subst e; exact HH11.out.r.lt b HH11.out.r.sp)
  clear ho hb htx
  go_wp2
  refine OnToK.mk hkp (Sub.refl _) ?_
  clear hkp
  refine wpG_stageK (wpQuiet_nil ?_)
  go_wp2_with fail
  refine (same_any vc uc (la := L0) (lb := L0) HT12.out HT2.out (by omega) (by omega)).mono ?_
  rintro e w3 ⟨rfl, hb⟩
  rw [decide_eq_true rfl]
  have HT3 := hide (HT12.out.below hb)
  have HH3 := hide (HH2.out.then hb)
  have HB3 := hide (bl HB2.out hb)
  have hkp : Kept (fun b => b = pr) w2 w3 := Kept.of_below hb (fun b e => by subst e; exact HH2.out.r.lt b HH2.out.r.sp)
  clear hb
  go_wp2
  refine OnToK.mk hkp (Sub.refl _) ?_
  clear hkp
  have inh : Nonempty (GrK (fun b => b = pr) w3) := GrK.some _ w3
  refine wpG_stageK ?_
  repeat (go_big_quiet_step (fail))
  refine wpQuiet_nil ?_
  clear inh
  go_wp2_with fail
  refine (used_dk HH3.out.d).mono ?_
  rintro e wx ⟨rfl, hw⟩
  rw [hw]
  clear hw
  go_wp2
  refine OnToK.mk (Kept.of_below (Below.refl _ _) (fun b e => by subst e; exact HH3.out.r.lt b HH3.out.r.sp)) (Sub.refl _) ?_
  refine wpG_stageK (wpQuiet_nil ?_)
  go_wp2_with fail
  refine (rused_dk HH3.out.r hc).mono ?_
  rintro e w4 ⟨rfl, hb⟩
  have HT4 := hide (HT3.out.below hb)
  have HH4 := hide (HH3.out.then hb)
  have HB4 := hide (bl HB3.out hb)
  have hkp : Kept (fun b => b = pr) w3 w4 := Kept.of_below hb (fun b e => by subst e; exact HH3.out.r.lt b HH3.out.r.sp)
  clear hb
  go_wp2
  refine OnToK.mk hkp (Sub.refl _) ?_
  clear hkp
  obtain ⟨_, _, _, _, fv, dv, fs, ds, hr4⟩ := HH4.out.r
  obtain ⟨_, _, _, c3, _, _, _, _⟩ := hr4.look
  have inh : Nonempty (GrK (fun b => b = pr) w4) := GrK.some _ w4
  have q3 := fun x : GrK (fun b => b = pr) w4 => x.cell (a := ⟨pr, 3, none⟩) rfl c3
  refine wpG_stageK ?_
  repeat (go_big_quiet_step (fail))
  refine wpQuiet_nil ?_
  clear inh q3 c3 hr4
  go_wp2_with fail
  refine (ops_dk HH4.out.d).mono ?_
  rintro e wx ⟨rfl, hw⟩
  rw [hw]
  clear hw
  go_wp2
  refine OnToK.mk (Kept.of_below (Below.refl _ _) (fun b e => by subst e; exact HH4.out.r.lt b HH4.out.r.sp)) (Sub.refl _) ?_
  have inh : Nonempty (GrK (fun b => b = pr) w4) := GrK.some _ w4
  refine wpG_lastK ?_
  repeat (go_big_quiet_step (fail))
  refine wpQuiet_nil ?_
  clear inh
  obtain ⟨tg, to, t1, t2⟩ := HT4.out
  have T1 := hide t1
  have T2 := hide t2
  clear t1 t2
  go_wp2
  go_loopw [6] (fun v wr => ∃ (i : Nat), i ≤ L0.length ∧ v = .int .i64 (i : Int) ∧ Hid (Below w4.heap.size w4 wr)) (fun v _ => L0.length - (intOf v).toNat)
  case atStart => exact ⟨0, Nat.zero_le _, rfl, hide (Below.refl _ _)⟩
  case round =>
    obtain ⟨i, hi, rfl, HW⟩ := hrel
    by_cases hlt : i < L0.length
    · obtain ⟨rfl, hg⟩ := T1.out (by omega)
      have hcy := (HW.out.cell (p := ⟨tg, to + i, none⟩) hg).trans (T2.out i hlt)
      have hns := HSZ.out _ (List.getElem_mem hlt)
      obtain ⟨n, hn⟩ : ∃ n, L0[i] = n := ⟨_, rfl⟩
      rw [hn] at hcy hns
      have HHW := hide (HH4.out.then HW.out)
      clear hn hg
      go_wp2_with fail
      refine (read_dk HHW.out.d n hns).mono ?_
      rintro e wx ⟨rfl, hw⟩
      rw [hw]
      clear hw
      go_wp2_with fail
      refine (rread_dk HHW.out.r n hc).mono ?_
      rintro e w8 ⟨rfl, hb8⟩
      have HW8 := hide (bl HW.out hb8)
      clear hb8
      go_wp2
      go_roundw
      case rel => exact ⟨i + 1, by omega, by go_num, HW8⟩
      case measure => simp [intOf]; omega
    · go_wp2
      go_ret
      exact ⟨rfl, bl HB4.out HW.out⟩

end Go.Proofs.YtleomppgkikhnaaGreat
