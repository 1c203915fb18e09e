/-
  The laws' does: an act on the program's disk, and on the document's.
-/
import Derived.Test.YtpbiongoigbmpaaDskPairW
import Derived.Test.YtpbiongoigbmpaaDskNameOfW
import Derived.Test.YtpbiongoigbmpaaDskActsW
import Derived.Test.YtpbiongoigbmpaaDskAct2W
import Derived.Test.YtpbiongoigbmpaaDskAct3W
namespace Go.Proofs.Ytpbiongoigbmpaa
open Go.RowKit
open Dsk (By Dk)

theorem nameOf_size' (k : Nat) {raw : ByteArray} (h : raw.size ≤ 140737488351232) : (nameOf k raw).size ≤ 140737488351232 := by
  unfold nameOf
  match k with
  | 0 => exact Nat.le_of_ble_eq_true rfl
  | 1 => exact Nat.le_of_ble_eq_true rfl
  | 2 => exact Nat.le_of_ble_eq_true rfl
  | 3 => exact Nat.le_of_ble_eq_true rfl
  | _ + 4 => exact h
/-- An act, plain. -/
def doA (x : Ac) (D : Dk) : Dk × Int := Dsk.does (pk x.op 15) (nameOf (pk x.name 5) x.raw) (nameOf (pk x.to 5) x.raw) x.text.data.toList x.n D
/-- The act, as a parameter: a block of its own. -/
structure PB (b : Nat) (x : Ac) (S T : Nat → Prop) (w : World) : Prop where
  ns : ¬ S b
  nt : ¬ T b
  lt : b < w.heap.size
  cs : AcCells w b 0 x
theorem PB.then {b : Nat} {x : Ac} {S T : Nat → Prop} {w w' : World} (h : PB b x S T w) (hb : Below w.heap.size w w') : PB b x S T w' := ⟨h.ns, h.nt, Nat.lt_of_lt_of_le h.lt hb.size, h.cs.below hb h.lt⟩
theorem PB.only {b : Nat} {x : Ac} {S T : Nat → Prop} {w w' : World} (h : PB b x S T w) (ho : Only S w w') : PB b x (more S w w') T w' :=
  ⟨fun k => by rcases k with k | k; exact h.ns k; have := h.lt; omega, h.nt, Nat.lt_of_lt_of_le h.lt ho.size,
    ⟨(ho.cell (a := ⟨b, 0, none⟩) h.lt h.ns).trans h.cs.c0, (ho.cell (a := ⟨b, 0 + 1, none⟩) h.lt h.ns).trans h.cs.c1, (ho.cell (a := ⟨b, 0 + 2, none⟩) h.lt h.ns).trans h.cs.c2, (ho.cell (a := ⟨b, 0 + 3, none⟩) h.lt h.ns).trans h.cs.c3, (ho.cell (a := ⟨b, 0 + 4, none⟩) h.lt h.ns).trans h.cs.c4, (ho.cell (a := ⟨b, 0 + 5, none⟩) h.lt h.ns).trans h.cs.c5⟩⟩
set_option maxRecDepth 100000 in
set_option maxHeartbeats 800000 in
theorem does_any {w0 : World} {pd pr : Nat} {S T : Nat → Prop} {w : World} {D : Dk} {c : Nat} (H : DR w0 pd pr S T w D D c) (x : Ac) (hx : AcOk x) (hc : c + (1 + x.text.size) ≤ 10000000) :
    Calls Try.prog 18 #[.pointer (some ⟨pd, 0, none⟩), .pointer (some ⟨pr, 0, none⟩), .agg #[.int .i64 x.op, .int .i64 x.name, .int .i64 x.to, .int .i64 x.n, .string x.raw, .string x.text]] w
      (DoesE w0 pd pr S T w (doA x D).1 (c + (1 + x.text.size))) := by
  obtain ⟨h1, h2, h3, h4, h5, h6⟩ := hx
  unfold in64 at h1 h2 h3 h4
  obtain ⟨k, hk⟩ : ∃ k, pk x.op 15 = k := ⟨_, rfl⟩
  have hk15 : k < 15 := by rw [← hk]; exact pk_lt _ (by omega)
  obtain ⟨n, hn⟩ : ∃ n, nameOf (pk x.name 5) x.raw = n := ⟨_, rfl⟩
  obtain ⟨t, ht⟩ : ∃ t, nameOf (pk x.to 5) x.raw = t := ⟨_, rfl⟩
  have hns : n.size ≤ 140737488351232 := by rw [← hn]; exact nameOf_size' _ h5
  have hts : t.size ≤ 140737488351232 := by rw [← ht]; exact nameOf_size' _ h5
  have hns2 : n.size ≤ 9223372036854775807 := by omega
  have hts2 : t.size ≤ 9223372036854775807 := by omega
  have hnm : n.size ≤ maxLen := by unfold maxLen; omega
  unfold doA
  rw [hk, hn, ht]
  obtain ⟨op, nm, to, N, raw, tx⟩ := x
  simp only at h1 h2 h3 h4 h5 h6 hk hn ht hc ⊢
  have HK := hide hk
  have HN := hide hn
  have HT := hide ht
  have HH := hide H
  have bK : ∀ o, Below w.heap.size w (w.alloc o) := fun o => (Below.refl _ w).alloc (Nat.le_refl _) o
  have HBK := hide bK
  clear hk hn ht H bK
  go_enter Try.func18, Try.ntmps18
  go_wp2_with fail
  have hP0 : PB w.heap.size ⟨op, nm, to, N, raw, tx⟩ S T (w.alloc (.cells #[.int .i64 op, .int .i64 nm, .int .i64 to, .int .i64 N, .string raw, .string tx] 44)) :=
    ⟨fun h => Nat.lt_irrefl _ (HH.out.d.lt _ h), fun h => Nat.lt_irrefl _ (HH.out.r.lt _ h), by simp, ⟨by simp, by simp, by simp, by simp, by simp, by simp⟩⟩
  have HW1 := hide (HBK.out (.cells #[.int .i64 op, .int .i64 nm, .int .i64 to, .int .i64 N, .string raw, .string tx] 44))
  have HD1 := hide (HH.out.then (HBK.out (.cells #[.int .i64 op, .int .i64 nm, .int .i64 to, .int .i64 N, .string raw, .string tx] 44)))
  have HP1 := hide hP0
  obtain ⟨w1, hw1⟩ : ∃ W, w.alloc (.cells #[.int .i64 op, .int .i64 nm, .int .i64 to, .int .i64 N, .string raw, .string tx] 44) = W := ⟨_, rfl⟩
  obtain ⟨bP, hbP⟩ : ∃ b, w.heap.size = b := ⟨_, rfl⟩
  rw [hw1] at HD1 HP1 HW1 ⊢
  rw [hbP] at HP1 ⊢
  clear hw1 hbP hP0
  refine (name_any nm raw _ h2.1 h2.2).mono ?_
  rintro e w2 ⟨rfl, hb⟩
  rw [HN.out]
  have HD2 := hide (HD1.out.then hb)
  have HP2 := hide (HP1.out.then hb)
  have HW2 := hide (bl HW1.out hb)
  clear hb
  obtain ⟨y0, _, y2, _, y4, _⟩ := HP2.out.cs
  simp only [Nat.zero_add] at y0 y2 y4
  go_wp2_with fail
  refine (name_any to raw _ h3.1 h3.2).mono ?_
  rintro e w3 ⟨rfl, hb⟩
  rw [HT.out]
  have HD3 := hide (HD2.out.then hb)
  have HP3 := hide (HP2.out.then hb)
  have HW3 := hide (bl HW2.out hb)
  clear hb y0 y2 y4
  obtain ⟨y0, _, _, _, _, _⟩ := HP3.out.cs
  go_wp2_with fail
  refine (pick_any op 15 _ h1.1 h1.2 (by omega) (by omega)).mono ?_
  rintro e w4 ⟨rfl, hw⟩
  rw [hw, HK.out]
  clear hw y0
  by_cases n0 : k < 2
  · have ef : Dsk.does k n t tx.data.toList N D = Dsk.create n D := by unfold Dsk.does; rw [if_pos n0]
    have EF := hide (congrArg Prod.fst ef)
    go_wp2_with fail
    refine (create_dk HD3.out.d n hns2 (by omega)).mono ?_
    rintro e w5 ⟨rfl, hd5, ho5⟩
    have hr5 := rcreate_dk (HD3.out.refAt ho5) n hns2 (by omega)
    have HR5 := hide hr5
    have HDK := hide hd5
    have HOK := hide ho5
    have HP5 := hide (HP3.out.only ho5)
    clear hd5 ho5 hr5 ef
    go_wp2_with fail
    refine HR5.out.mono ?_
    rintro e w6 ⟨rfl, hg6⟩
    have HF := hide (HD3.out.both HDK.out HOK.out hg6 (by omega))
    have HX := hide (And.intro (only2 HW3.out HOK.out hg6.only) (And.intro (new_more (S := S) (w5 := w5) HW3.out.size) (new_more (S := T) (w5 := w6) (Nat.le_trans HW3.out.size HOK.out.size))))
    clear hg6
    go_wp2
    go_ret
    have h9 := HF.out.mono (c' := c + (1 + tx.size)) (by omega)
    rw [← EF.out] at h9
    exact ⟨_, _, by simp, h9, HX.out⟩
  by_cases n1 : k < 6
  · have ef : Dsk.does k n t tx.data.toList N D = Dsk.append n tx.data.toList D := by unfold Dsk.does; rw [if_neg n0, if_pos n1]
    have EF := hide (congrArg Prod.fst ef)
    go_wp2_with fail
    refine wp_region_growK (fun b => b = bP) [([0, 1, 2, 3, 5, 6, 7, 8], 4), ([], 9)] [10, 11] [] (by kernel_rfl) (by kernel_rfl) (by kernel_rfl) (by kernel_rfl) ?_
    intro w9 hb9
    simp only [stagesOfK, getLK, pickLK]
    have HD9 := hide (HD3.out.then hb9)
    have HP9 := hide (HP3.out.then hb9)
    have HW9 := hide (bl HW3.out hb9)
    have y5 : w9.cell? ⟨bP, 5, none⟩ = some (.string tx) := by have := HP9.out.cs.c5; simpa using this
    have inh : Nonempty (GrK (fun b => b = bP) w9) := GrK.some _ w9
    have q5 := fun x : GrK (fun b => b = bP) w9 => x.cell (a := ⟨bP, 5, none⟩) rfl y5
    refine wpG_stageK ?_
    repeat (go_big_quiet_step (fail))
    refine wpQuiet_nil ?_
    clear q5 inh hb9
    go_wp2_with fail
    refine (append_dk HD9.out.d n tx hnm (by omega)).mono ?_
    rintro e w5 ⟨rfl, hd5, ho5⟩
    have hr5 := rappend_dk (HD9.out.refAt ho5) n tx (by omega)
    have HR5 := hide hr5
    have HDK := hide hd5
    have HOK := hide ho5
    have hP5 := HP9.out.only ho5
    have hkp : Kept (fun b => b = bP) w9 w5 := ⟨ho5.os, ho5.tape, ho5.output, ho5.size, fun b e => by subst e; exact ho5.block b HP9.out.lt HP9.out.ns⟩
    clear hd5 ho5 hr5 ef
    go_wp2
    refine OnToK.mk hkp (Sub.refl _) ?_
    clear hkp
    refine wpG_stageK (wpQuiet_nil ?_)
    go_wp2_with fail
    refine HR5.out.mono ?_
    rintro e w6 ⟨rfl, hg6⟩
    have HF := hide (HD9.out.both HDK.out HOK.out hg6 (by omega))
    have HX := hide (And.intro (only2 HW9.out HOK.out hg6.only) (And.intro (new_more (S := S) (w5 := w5) HW9.out.size) (new_more (S := T) (w5 := w6) (Nat.le_trans HW9.out.size HOK.out.size))))
    have hkp : Kept (fun b => b = bP) w5 w6 := ⟨hg6.only.os, hg6.only.tape, hg6.only.output, hg6.only.size, fun b e => by subst e; exact hg6.only.block b hP5.lt hP5.nt⟩
    clear hg6
    go_wp2
    refine OnToK.mk hkp (Sub.refl _) ?_
    clear hkp
    have inh : Nonempty (GrK (fun b => b = bP) w6) := GrK.some _ w6
    refine wpG_lastK ?_
    repeat (go_big_quiet_step (fail))
    refine wpQuiet_nil ?_
    clear inh
    go_wp2
    go_ret
    have h9 := HF.out.mono (c' := c + (1 + tx.size)) (by omega)
    rw [← EF.out] at h9
    exact ⟨_, _, by simp, h9, HX.out⟩
  by_cases n2 : k = 6
  · have ef : Dsk.does k n t tx.data.toList N D = Dsk.cut n N D := by unfold Dsk.does; rw [if_neg n0, if_neg n1, if_pos n2]
    have EF := hide (congrArg Prod.fst ef)
    go_wp2_with fail
    refine wp_region_growK (fun b => b = bP) [([0, 1, 2, 3, 5, 6, 7, 8], 4), ([], 9)] [10, 11] [] (by kernel_rfl) (by kernel_rfl) (by kernel_rfl) (by kernel_rfl) ?_
    intro w9 hb9
    simp only [stagesOfK, getLK, pickLK]
    have HD9 := hide (HD3.out.then hb9)
    have HP9 := hide (HP3.out.then hb9)
    have HW9 := hide (bl HW3.out hb9)
    have y5 : w9.cell? ⟨bP, 3, none⟩ = some (.int .i64 N) := by have := HP9.out.cs.c3; simpa using this
    have inh : Nonempty (GrK (fun b => b = bP) w9) := GrK.some _ w9
    have q5 := fun x : GrK (fun b => b = bP) w9 => x.cell (a := ⟨bP, 3, none⟩) rfl y5
    refine wpG_stageK ?_
    repeat (go_big_quiet_step (fail))
    refine wpQuiet_nil ?_
    clear q5 inh hb9
    go_wp2_with fail
    refine (cut_dk HD9.out.d n N hnm h4 (by omega)).mono ?_
    rintro e w5 ⟨rfl, hd5, ho5⟩
    have hr5 := rcut_dk (HD9.out.refAt ho5) n N h4 (by omega)
    have HR5 := hide hr5
    have HDK := hide hd5
    have HOK := hide ho5
    have hP5 := HP9.out.only ho5
    have hkp : Kept (fun b => b = bP) w9 w5 := ⟨ho5.os, ho5.tape, ho5.output, ho5.size, fun b e => by subst e; exact ho5.block b HP9.out.lt HP9.out.ns⟩
    clear hd5 ho5 hr5 ef
    go_wp2
    refine OnToK.mk hkp (Sub.refl _) ?_
    clear hkp
    refine wpG_stageK (wpQuiet_nil ?_)
    go_wp2_with fail
    refine HR5.out.mono ?_
    rintro e w6 ⟨rfl, hg6⟩
    have HF := hide (HD9.out.both HDK.out HOK.out hg6 (by omega))
    have HX := hide (And.intro (only2 HW9.out HOK.out hg6.only) (And.intro (new_more (S := S) (w5 := w5) HW9.out.size) (new_more (S := T) (w5 := w6) (Nat.le_trans HW9.out.size HOK.out.size))))
    have hkp : Kept (fun b => b = bP) w5 w6 := ⟨hg6.only.os, hg6.only.tape, hg6.only.output, hg6.only.size, fun b e => by subst e; exact hg6.only.block b hP5.lt hP5.nt⟩
    clear hg6
    go_wp2
    refine OnToK.mk hkp (Sub.refl _) ?_
    clear hkp
    have inh : Nonempty (GrK (fun b => b = bP) w6) := GrK.some _ w6
    refine wpG_lastK ?_
    repeat (go_big_quiet_step (fail))
    refine wpQuiet_nil ?_
    clear inh
    go_wp2
    go_ret
    have h9 := HF.out.mono (c' := c + (1 + tx.size)) (by omega)
    rw [← EF.out] at h9
    exact ⟨_, _, by simp, h9, HX.out⟩
  by_cases n3 : k < 9
  · have ef : Dsk.does k n t tx.data.toList N D = Dsk.sync n D := by unfold Dsk.does; rw [if_neg n0, if_neg n1, if_neg n2, if_pos n3]
    have EF := hide (congrArg Prod.fst ef)
    go_wp2_with fail
    refine (sync_dk HD3.out.d n hnm (by omega)).mono ?_
    rintro e w5 ⟨rfl, hd5, ho5⟩
    have hr5 := rsync_dk (HD3.out.refAt ho5) n (by omega)
    have HR5 := hide hr5
    have HDK := hide hd5
    have HOK := hide ho5
    have HP5 := hide (HP3.out.only ho5)
    clear hd5 ho5 hr5 ef
    go_wp2_with fail
    refine HR5.out.mono ?_
    rintro e w6 ⟨rfl, hg6⟩
    have HF := hide (HD3.out.both HDK.out HOK.out hg6 (by omega))
    have HX := hide (And.intro (only2 HW3.out HOK.out hg6.only) (And.intro (new_more (S := S) (w5 := w5) HW3.out.size) (new_more (S := T) (w5 := w6) (Nat.le_trans HW3.out.size HOK.out.size))))
    clear hg6
    go_wp2
    go_ret
    have h9 := HF.out.mono (c' := c + (1 + tx.size)) (by omega)
    rw [← EF.out] at h9
    exact ⟨_, _, by simp, h9, HX.out⟩
  by_cases n4 : k = 9
  · have ef : Dsk.does k n t tx.data.toList N D = Dsk.rename n t D := by unfold Dsk.does; rw [if_neg n0, if_neg n1, if_neg n2, if_neg n3, if_pos n4]
    have EF := hide (congrArg Prod.fst ef)
    go_wp2_with fail
    refine (rename_dk HD3.out.d n t hns2 hts2 (by omega)).mono ?_
    rintro e w5 ⟨rfl, hd5, ho5⟩
    have hr5 := rrename_dk (HD3.out.refAt ho5) n t hts2 (by omega)
    have HR5 := hide hr5
    have HDK := hide hd5
    have HOK := hide ho5
    have HP5 := hide (HP3.out.only ho5)
    clear hd5 ho5 hr5 ef
    go_wp2_with fail
    refine HR5.out.mono ?_
    rintro e w6 ⟨rfl, hg6⟩
    have HF := hide (HD3.out.both HDK.out HOK.out hg6 (by omega))
    have HX := hide (And.intro (only2 HW3.out HOK.out hg6.only) (And.intro (new_more (S := S) (w5 := w5) HW3.out.size) (new_more (S := T) (w5 := w6) (Nat.le_trans HW3.out.size HOK.out.size))))
    clear hg6
    go_wp2
    go_ret
    have h9 := HF.out.mono (c' := c + (1 + tx.size)) (by omega)
    rw [← EF.out] at h9
    exact ⟨_, _, by simp, h9, HX.out⟩
  by_cases n5 : k = 10
  · have ef : Dsk.does k n t tx.data.toList N D = Dsk.remove n D := by unfold Dsk.does; rw [if_neg n0, if_neg n1, if_neg n2, if_neg n3, if_neg n4, if_pos n5]
    have EF := hide (congrArg Prod.fst ef)
    go_wp2_with fail
    refine (remove_dk HD3.out.d n hnm (by omega)).mono ?_
    rintro e w5 ⟨rfl, hd5, ho5⟩
    have hr5 := rremove_dk (HD3.out.refAt ho5) n (by omega)
    have HR5 := hide hr5
    have HDK := hide hd5
    have HOK := hide ho5
    have HP5 := hide (HP3.out.only ho5)
    clear hd5 ho5 hr5 ef
    go_wp2_with fail
    refine HR5.out.mono ?_
    rintro e w6 ⟨rfl, hg6⟩
    have HF := hide (HD3.out.both HDK.out HOK.out hg6 (by omega))
    have HX := hide (And.intro (only2 HW3.out HOK.out hg6.only) (And.intro (new_more (S := S) (w5 := w5) HW3.out.size) (new_more (S := T) (w5 := w6) (Nat.le_trans HW3.out.size HOK.out.size))))
    clear hg6
    go_wp2
    go_ret
    have h9 := HF.out.mono (c' := c + (1 + tx.size)) (by omega)
    rw [← EF.out] at h9
    exact ⟨_, _, by simp, h9, HX.out⟩
  by_cases n6 : k < 13
  · have ef : Dsk.does k n t tx.data.toList N D = Dsk.syncDir D := by unfold Dsk.does; rw [if_neg n0, if_neg n1, if_neg n2, if_neg n3, if_neg n4, if_neg n5, if_pos n6]
    have EF := hide (congrArg Prod.fst ef)
    go_wp2_with fail
    refine (syncDir_dk HD3.out.d (by omega)).mono ?_
    rintro e w5 ⟨rfl, hd5, ho5⟩
    have hr5 := rsyncDir_dk (HD3.out.refAt ho5) (by omega)
    have HR5 := hide hr5
    have HDK := hide hd5
    have HOK := hide ho5
    have HP5 := hide (HP3.out.only ho5)
    clear hd5 ho5 hr5 ef
    go_wp2_with fail
    refine HR5.out.mono ?_
    rintro e w6 ⟨rfl, hg6⟩
    have HF := hide (HD3.out.both HDK.out HOK.out hg6 (by omega))
    have HX := hide (And.intro (only2 HW3.out HOK.out hg6.only) (And.intro (new_more (S := S) (w5 := w5) HW3.out.size) (new_more (S := T) (w5 := w6) (Nat.le_trans HW3.out.size HOK.out.size))))
    clear hg6
    go_wp2
    go_ret
    have h9 := HF.out.mono (c' := c + (1 + tx.size)) (by omega)
    rw [← EF.out] at h9
    exact ⟨_, _, by simp, h9, HX.out⟩
  by_cases n7 : k = 13
  · have ef : Dsk.does k n t tx.data.toList N D = (Dsk.setFail (N.tmod 9) D, 0) := by unfold Dsk.does; rw [if_neg n0, if_neg n1, if_neg n2, if_neg n3, if_neg n4, if_neg n5, if_neg n6, if_pos n7]
    have EF := hide (congrArg Prod.fst ef)
    have hmb : N.tmod 9 ≤ 9223372036854775807 := by have := Int.tmod_lt_of_pos N (show (0 : Int) < 9 by omega); omega
    obtain ⟨m, hm⟩ : ∃ m, N.tmod 9 = m := ⟨_, rfl⟩
    rw [hm] at hmb EF
    have y3 : w3.cell? ⟨bP, 3, none⟩ = some (.int .i64 N) := by have := HP3.out.cs.c3; simpa using this
    clear ef
    go_wp2_with fail
    refine (fail_dk HD3.out.d m hmb).mono ?_
    rintro e w5 ⟨rfl, hd5, ho5⟩
    have HD5 := hide (HD3.out.setD hd5 ho5)
    have HO5 := hide ho5
    have hP5 : PB bP ⟨op, nm, to, N, raw, tx⟩ (more S w3 w5) T w5 := HP3.out.only ho5
    have y5 : w5.cell? ⟨bP, 3, none⟩ = some (.int .i64 N) := by have := hP5.cs.c3; simpa using this
    clear hd5 ho5 y3
    go_wp2_with fail
    refine (rfail_dk HD5.out.r m hmb).mono ?_
    rintro e w6 ⟨rfl, hd6, ho6⟩
    have HD6 := hide (HD5.out.setR hd6 ho6)
    have HX := hide (And.intro (only2 HW3.out HO5.out ho6) (And.intro (new_same (S := S) (w := w)) (new_same (S := T) (w := w))))
    clear hd6 ho6
    go_wp2
    go_ret
    have h9 := HD6.out.mono (c' := c + (1 + tx.size)) (by omega)
    have ef2 := EF.out
    rw [← ef2] at h9
    exact ⟨_, _, rfl, h9, HX.out⟩
  · have hk14 : k = 14 := by omega
    clear hk15
    have ef : Dsk.does k n t tx.data.toList N D = (Dsk.setStop (N.tmod 50) D, 0) := by unfold Dsk.does; rw [if_neg n0, if_neg n1, if_neg n2, if_neg n3, if_neg n4, if_neg n5, if_neg n6, if_neg n7]
    have EF := hide (congrArg Prod.fst ef)
    have hmb : N.tmod 50 ≤ 9223372036854775807 := by have := Int.tmod_lt_of_pos N (show (0 : Int) < 50 by omega); omega
    obtain ⟨m, hm⟩ : ∃ m, N.tmod 50 = m := ⟨_, rfl⟩
    rw [hm] at hmb EF
    have y3 : w3.cell? ⟨bP, 3, none⟩ = some (.int .i64 N) := by have := HP3.out.cs.c3; simpa using this
    clear ef
    go_wp2_with fail
    refine (stop_dk HD3.out.d m hmb).mono ?_
    rintro e w5 ⟨rfl, hd5, ho5⟩
    have HD5 := hide (HD3.out.setD hd5 ho5)
    have HO5 := hide ho5
    have hP5 : PB bP ⟨op, nm, to, N, raw, tx⟩ (more S w3 w5) T w5 := HP3.out.only ho5
    have y5 : w5.cell? ⟨bP, 3, none⟩ = some (.int .i64 N) := by have := hP5.cs.c3; simpa using this
    clear hd5 ho5 y3
    go_wp2_with fail
    refine (rstop_dk HD5.out.r m hmb).mono ?_
    rintro e w6 ⟨rfl, hd6, ho6⟩
    have HD6 := hide (HD5.out.setR hd6 ho6)
    have HX := hide (And.intro (only2 HW3.out HO5.out ho6) (And.intro (new_same (S := S) (w := w)) (new_same (S := T) (w := w))))
    clear hd6 ho6
    go_wp2
    go_ret
    have h9 := HD6.out.mono (c' := c + (1 + tx.size)) (by omega)
    have ef2 := EF.out
    rw [← ef2] at h9
    exact ⟨_, _, rfl, h9, HX.out⟩

end Go.Proofs.Ytpbiongoigbmpaa
