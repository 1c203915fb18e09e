/-
  Chapter 8's laws: name, and does: an act on the program's disk, and on the document's.
-/
import Derived.Test.YtleomppgkikhnaaGreatDskPairW
import Derived.Test.YtleomppgkikhnaaGreatSwpActsW
import Derived.Test.YtleomppgkikhnaaGreatRefClnW
import Derived.Test.YtleomppgkikhnaaGreatSwpCleanW
import Derived.Test.YtleomppgkikhnaaGreatPlain
import Derived.Test.YtleomppgkikhnaaGreatPickW
namespace Go.Proofs.YtleomppgkikhnaaGreat
open Go.RowKit
open Dsk (By Dk)

def nameOf8 (k : Nat) (raw : ByteArray) : ByteArray := [(⟨#[99, 107]⟩ : ByteArray), ⟨#[97]⟩, ⟨#[99, 107, 126]⟩, ⟨#[98, 126]⟩].getD k raw
theorem nameOf8_size (k : Nat) {raw : ByteArray} (h : raw.size ≤ 140737488351232) : (nameOf8 k raw).size ≤ 140737488351232 := by
  unfold nameOf8
  match k with
  | 0 => exact Nat.le_of_ble_eq_true rfl
  | 1 => exact Nat.le_of_ble_eq_true rfl
  | 2 => exact Nat.le_of_ble_eq_true rfl
  | 3 => exact Nat.le_of_ble_eq_true rfl
  | _ + 4 => exact h
theorem four8_at (w : World) (raw : ByteArray) {k : Nat} (hk : k < 4) : (w.alloc (.cells #[.string ⟨#[99, 107]⟩, .string ⟨#[97]⟩, .string ⟨#[99, 107, 126]⟩, .string ⟨#[98, 126]⟩] 9)).cell? ⟨w.heap.size, k, none⟩ = some (.string (nameOf8 k raw)) := by
  match k, hk with
  | 0, _ => simp [nameOf8]
  | 1, _ => simp [nameOf8]
  | 2, _ => simp [nameOf8]
  | 3, _ => simp [nameOf8]
set_option maxRecDepth 100000 in
set_option maxHeartbeats 600000 in
theorem name8_any (op nm N : Int) (raw tx : ByteArray) (w : World) (h0 : -9223372036854775808 ≤ nm) (h1 : nm ≤ 9223372036854775807) :
    Calls Tryz.prog 16 #[.agg #[.int .i64 op, .int .i64 nm, .int .i64 N, .string raw, .string tx]] w fun e w' => e = .returned (.string (nameOf8 (pk nm 5) raw)) ∧ Below w.heap.size w w' := by
  obtain ⟨n, hn⟩ : ∃ n, pk nm 5 = n := ⟨_, rfl⟩
  have hlt : n < 5 := by rw [← hn]; exact pk_lt nm (by omega)
  rw [hn]
  have HN := hide hn
  clear hn
  have hs : w.heap.size < (w.alloc (.cells #[.int .i64 op, .int .i64 nm, .int .i64 N, .string raw, .string tx] 34)).heap.size := by simp
  have y1 : ∀ o, ((w.alloc (.cells #[.int .i64 op, .int .i64 nm, .int .i64 N, .string raw, .string tx] 34)).alloc o).cell? ⟨w.heap.size, 1, none⟩ = some (.int .i64 nm) := fun o => (((Below.refl _ _).alloc (Nat.le_refl _) o).cell (p := ⟨w.heap.size, 1, none⟩) hs).trans (by simp)
  have y3 : ∀ o, ((w.alloc (.cells #[.int .i64 op, .int .i64 nm, .int .i64 N, .string raw, .string tx] 34)).alloc o).cell? ⟨w.heap.size, 3, none⟩ = some (.string raw) := fun o => (((Below.refl _ _).alloc (Nat.le_refl _) o).cell (p := ⟨w.heap.size, 3, none⟩) hs).trans (by simp)
  have bA : ∀ o, Below w.heap.size w ((w.alloc (.cells #[.int .i64 op, .int .i64 nm, .int .i64 N, .string raw, .string tx] 34)).alloc o) := fun o => ((Below.refl _ w).alloc (Nat.le_refl _) _).alloc (Nat.le_of_lt hs) o
  have HBA := hide bA
  clear bA
  by_cases h4 : n < 4
  · have hc := four8_at (w.alloc (.cells #[.int .i64 op, .int .i64 nm, .int .i64 N, .string raw, .string tx] 34)) raw h4
    rw [World.size_alloc] at hc
    go_enter Tryz.func16, Tryz.ntmps16
    go_wp2_with fail
    refine (pick_any nm 5 _ h0 h1 (by omega) (by omega)).mono ?_
    rintro e w1 ⟨rfl, hw⟩
    rw [hw, HN.out]
    clear hw
    go_wp2
    go_ret
    exact ⟨rfl, HBA.out _⟩
  · obtain rfl : n = 4 := by omega
    go_enter Tryz.func16, Tryz.ntmps16
    go_wp2_with fail
    refine (pick_any nm 5 _ h0 h1 (by omega) (by omega)).mono ?_
    rintro e w1 ⟨rfl, hw⟩
    rw [hw, HN.out]
    clear hw
    go_wp2
    go_ret
    exact ⟨rfl, HBA.out _⟩
/-- The act, as a parameter: a block of its own. -/
structure PB8 (b : Nat) (x : A8) (S T : Nat → Prop) (w : World) : Prop where
  ns : ¬ S b
  nt : ¬ T b
  lt : b < w.heap.size
  cs : A8Cells w b 0 x
theorem PB8.then {b : Nat} {x : A8} {S T : Nat → Prop} {w w' : World} (h : PB8 b x S T w) (hb : Below w.heap.size w w') : PB8 b x S T w' := ⟨h.ns, h.nt, Nat.lt_of_lt_of_le h.lt hb.size, h.cs.below hb h.lt⟩
theorem PB8.only {b : Nat} {x : A8} {S T : Nat → Prop} {w w' : World} (h : PB8 b x S T w) (ho : Only S w w') : PB8 b x (more S w w') T w' :=
  ⟨fun k => by rcases k with k | k; exact h.ns k; have := h.lt; omega, h.nt, Nat.lt_of_lt_of_le h.lt ho.size,
    ⟨(ho.cell (a := ⟨b, 0, none⟩) h.lt h.ns).trans h.cs.c0, (ho.cell (a := ⟨b, 0 + 1, none⟩) h.lt h.ns).trans h.cs.c1, (ho.cell (a := ⟨b, 0 + 2, none⟩) h.lt h.ns).trans h.cs.c2, (ho.cell (a := ⟨b, 0 + 3, none⟩) h.lt h.ns).trans h.cs.c3, (ho.cell (a := ⟨b, 0 + 4, none⟩) h.lt h.ns).trans h.cs.c4⟩⟩
def doA8 (x : A8) (D : Dk) : Dk × Int := Dsk.does8 (pk x.op 10) (nameOf8 (pk x.name 5) x.raw) x.text.data.toList x.n D
set_option maxRecDepth 100000 in
set_option maxHeartbeats 1600000 in
theorem does8_any {w0 : World} {pd pr : Nat} {S T : Nat → Prop} {w : World} {D : Dk} {c m : Nat} (H : DR w0 pd pr S T w D D c) (x : A8) (hx : A8Ok x) (hm : (Dsk.list D).length ≤ m) (hc : c + (x.text.size + 8 + (m + 1)) ≤ 1000000) :
    Calls Tryz.prog 8 #[.pointer (some ⟨pd, 0, none⟩), .pointer (some ⟨pr, 0, none⟩), .agg #[.int .i64 x.op, .int .i64 x.name, .int .i64 x.n, .string x.raw, .string x.text]] w
      (DoesE w0 pd pr S T w (doA8 x D).1 (c + (x.text.size + 8 + (m + 1)))) := by
  obtain ⟨h1, h2, h4, h5, h6⟩ := hx
  unfold a8In64 at h1 h2 h4
  obtain ⟨k, hk⟩ : ∃ k, pk x.op 10 = k := ⟨_, rfl⟩
  have hk10 : k < 10 := by rw [← hk]; exact pk_lt _ (by omega)
  obtain ⟨n, hn⟩ : ∃ n, nameOf8 (pk x.name 5) x.raw = n := ⟨_, rfl⟩
  have hns : n.size ≤ 140737488351232 := by rw [← hn]; exact nameOf8_size _ h5
  have hns2 : n.size ≤ 9223372036854775807 := by omega
  have hnm : n.size ≤ maxLen := by unfold maxLen; omega
  unfold doA8
  rw [hk, hn]
  obtain ⟨op, nm, N, raw, tx⟩ := x
  simp only at h1 h2 h4 h5 h6 hk hn hc ⊢
  have HK := hide hk
  have HN := hide hn
  have HH := hide H
  have bK : ∀ o, Below w.heap.size w (w.alloc o) := fun o => (Below.refl _ w).alloc (Nat.le_refl _) o
  have HBK := hide bK
  clear hk hn H bK
  go_enter Tryz.func8, Tryz.ntmps8
  go_wp2_with fail
  have hP0 : PB8 w.heap.size ⟨op, nm, N, raw, tx⟩ S T (w.alloc (.cells #[.int .i64 op, .int .i64 nm, .int .i64 N, .string raw, .string tx] 34)) :=
    ⟨fun h => Nat.lt_irrefl _ (HH.out.d.lt _ h), fun h => Nat.lt_irrefl _ (HH.out.r.lt _ h), by simp, ⟨by simp, by simp, by simp, by simp, by simp⟩⟩
  have HW1 := hide (HBK.out (.cells #[.int .i64 op, .int .i64 nm, .int .i64 N, .string raw, .string tx] 34))
  have HD1 := hide (HH.out.then (HBK.out (.cells #[.int .i64 op, .int .i64 nm, .int .i64 N, .string raw, .string tx] 34)))
  have HP1 := hide hP0
  obtain ⟨w1, hw1⟩ : ∃ W, w.alloc (.cells #[.int .i64 op, .int .i64 nm, .int .i64 N, .string raw, .string tx] 34) = W := ⟨_, rfl⟩
  obtain ⟨bP, hbP⟩ : ∃ b, w.heap.size = b := ⟨_, rfl⟩
  rw [hw1] at HD1 HP1 HW1 ⊢
  rw [hbP] at HP1 ⊢
  clear hw1 hbP hP0
  refine (name8_any op nm N raw tx _ h2.1 h2.2).mono ?_
  rintro e w3 ⟨rfl, hb⟩
  rw [HN.out]
  have HD3 := hide (HD1.out.then hb)
  have HP3 := hide (HP1.out.then hb)
  have HW3 := hide (bl HW1.out hb)
  clear hb
  obtain ⟨y0, _, _, _, _⟩ := HP3.out.cs

  go_wp2_with fail
  refine (pick_any op 10 _ h1.1 h1.2 (by omega) (by omega)).mono ?_
  rintro e w4 ⟨rfl, hw⟩
  rw [hw, HK.out]
  clear hw y0
  by_cases n0 : k < 5
  · have ef : Dsk.does8 k n tx.data.toList N D = Dsk.write n tx.data.toList D := by unfold Dsk.does8; rw [if_pos n0]
    have EF := hide (congrArg Prod.fst ef)
    go_wp2_with fail
    refine wp_region_growK (fun b => b = bP) [([0, 1, 2, 3, 5, 6, 7, 8], 4), ([], 9)] [10, 11] [] (by kernel_rfl) (by kernel_rfl) (by kernel_rfl) (by kernel_rfl) ?_
    intro w9 hb9
    simp only [stagesOfK, getLK, pickLK]
    have HD9 := hide (HD3.out.then hb9)
    have HP9 := hide (HP3.out.then hb9)
    have HW9 := hide (bl HW3.out hb9)
    have y5 : w9.cell? ⟨bP, 4, none⟩ = some (.string tx) := by have := HP9.out.cs.c4; simpa using this
    have inh : Nonempty (GrK (fun b => b = bP) w9) := GrK.some _ w9
    have q5 := fun x : GrK (fun b => b = bP) w9 => x.cell (a := ⟨bP, 4, none⟩) rfl y5
    refine wpG_stageK ?_
    repeat (go_big_quiet_step (fail))
    refine wpQuiet_nil ?_
    clear q5 inh hb9
    go_wp2_with fail
    refine (write_dk HD9.out.d n tx hns2 (by omega)).mono ?_
    rintro e w5 ⟨rfl, hd5, ho5⟩
    have hr5 := rwrite_dk (HD9.out.refAt ho5) n tx hns2 (by omega)
    have HR5 := hide hr5
    have HDK := hide hd5
    have HOK := hide ho5
    have hP5 := HP9.out.only ho5
    have hkp : Kept (fun b => b = bP) w9 w5 := ⟨ho5.os, ho5.tape, ho5.output, ho5.size, fun b e => by subst e; exact ho5.block b HP9.out.lt HP9.out.ns⟩
    clear hd5 ho5 hr5 ef
    go_wp2
    refine OnToK.mk hkp (Sub.refl _) ?_
    clear hkp
    refine wpG_stageK (wpQuiet_nil ?_)
    go_wp2_with fail
    refine HR5.out.mono ?_
    rintro e w6 ⟨rfl, hg6⟩
    have HF := hide (HD9.out.both HDK.out HOK.out hg6 (by omega))
    have HX := hide (And.intro (only2 HW9.out HOK.out hg6.only) (And.intro (new_more (S := S) (w5 := w5) HW9.out.size) (new_more (S := T) (w5 := w6) (Nat.le_trans HW9.out.size HOK.out.size))))
    have hkp : Kept (fun b => b = bP) w5 w6 := ⟨hg6.only.os, hg6.only.tape, hg6.only.output, hg6.only.size, fun b e => by subst e; exact hg6.only.block b hP5.lt hP5.nt⟩
    clear hg6
    go_wp2
    refine OnToK.mk hkp (Sub.refl _) ?_
    clear hkp
    have inh : Nonempty (GrK (fun b => b = bP) w6) := GrK.some _ w6
    refine wpG_lastK ?_
    repeat (go_big_quiet_step (fail))
    refine wpQuiet_nil ?_
    clear inh
    go_wp2
    go_ret
    have h9 := HF.out.mono (c' := c + (tx.size + 8 + (m + 1))) (by omega)
    rw [← EF.out] at h9
    exact ⟨_, _, by simp, h9, HX.out⟩
  by_cases n1 : k = 5
  · have ef : Dsk.does8 k n tx.data.toList N D = Dsk.clean D := by unfold Dsk.does8; rw [if_neg n0, if_pos n1]
    have EF := hide (congrArg Prod.fst ef)
    go_wp2_with fail
    refine (clean_dkM HD3.out.d hm (by omega)).mono ?_
    rintro e w5 ⟨rfl, hd5, ho5⟩
    have hr5 := rclean_dk (HD3.out.refAt ho5) hm (by omega)
    have HR5 := hide hr5
    have HDK := hide hd5
    have HOK := hide ho5
    have HP5 := hide (HP3.out.only ho5)
    clear hd5 ho5 hr5 ef
    go_wp2_with fail
    refine HR5.out.mono ?_
    rintro e w6 ⟨rfl, hg6⟩
    have HF := hide (HD3.out.both HDK.out HOK.out hg6 (by omega))
    have HX := hide (And.intro (only2 HW3.out HOK.out hg6.only) (And.intro (new_more (S := S) (w5 := w5) HW3.out.size) (new_more (S := T) (w5 := w6) (Nat.le_trans HW3.out.size HOK.out.size))))
    clear hg6
    go_wp2
    go_ret
    have h9 := HF.out.mono (c' := c + (tx.size + 8 + (m + 1))) (by omega)
    rw [← EF.out] at h9
    exact ⟨_, _, by simp, h9, HX.out⟩
  by_cases n2 : k = 6
  · have ef : Dsk.does8 k n tx.data.toList N D = Dsk.create n D := by unfold Dsk.does8; rw [if_neg n0, if_neg n1, if_pos n2]
    have EF := hide (congrArg Prod.fst ef)
    go_wp2_with fail
    refine (create_dk HD3.out.d n hns2 (by omega)).mono ?_
    rintro e w5 ⟨rfl, hd5, ho5⟩
    have hr5 := rcreate_dk (HD3.out.refAt ho5) n hns2 (by omega)
    have HR5 := hide hr5
    have HDK := hide hd5
    have HOK := hide ho5
    have HP5 := hide (HP3.out.only ho5)
    clear hd5 ho5 hr5 ef
    go_wp2_with fail
    refine HR5.out.mono ?_
    rintro e w6 ⟨rfl, hg6⟩
    have HF := hide (HD3.out.both HDK.out HOK.out hg6 (by omega))
    have HX := hide (And.intro (only2 HW3.out HOK.out hg6.only) (And.intro (new_more (S := S) (w5 := w5) HW3.out.size) (new_more (S := T) (w5 := w6) (Nat.le_trans HW3.out.size HOK.out.size))))
    clear hg6
    go_wp2
    go_ret
    have h9 := HF.out.mono (c' := c + (tx.size + 8 + (m + 1))) (by omega)
    rw [← EF.out] at h9
    exact ⟨_, _, by simp, h9, HX.out⟩
  by_cases n3 : k = 7
  · have ef : Dsk.does8 k n tx.data.toList N D = Dsk.append n tx.data.toList D := by unfold Dsk.does8; rw [if_neg n0, if_neg n1, if_neg n2, if_pos n3]
    have EF := hide (congrArg Prod.fst ef)
    go_wp2_with fail
    refine wp_region_growK (fun b => b = bP) [([0, 1, 2, 3, 5, 6, 7, 8], 4), ([], 9)] [10, 11] [] (by kernel_rfl) (by kernel_rfl) (by kernel_rfl) (by kernel_rfl) ?_
    intro w9 hb9
    simp only [stagesOfK, getLK, pickLK]
    have HD9 := hide (HD3.out.then hb9)
    have HP9 := hide (HP3.out.then hb9)
    have HW9 := hide (bl HW3.out hb9)
    have y5 : w9.cell? ⟨bP, 4, none⟩ = some (.string tx) := by have := HP9.out.cs.c4; simpa using this
    have inh : Nonempty (GrK (fun b => b = bP) w9) := GrK.some _ w9
    have q5 := fun x : GrK (fun b => b = bP) w9 => x.cell (a := ⟨bP, 4, none⟩) rfl y5
    refine wpG_stageK ?_
    repeat (go_big_quiet_step (fail))
    refine wpQuiet_nil ?_
    clear q5 inh hb9
    go_wp2_with fail
    refine (append_dk HD9.out.d n tx hnm (by omega)).mono ?_
    rintro e w5 ⟨rfl, hd5, ho5⟩
    have hr5 := rappend_dk (HD9.out.refAt ho5) n tx (by omega)
    have HR5 := hide hr5
    have HDK := hide hd5
    have HOK := hide ho5
    have hP5 := HP9.out.only ho5
    have hkp : Kept (fun b => b = bP) w9 w5 := ⟨ho5.os, ho5.tape, ho5.output, ho5.size, fun b e => by subst e; exact ho5.block b HP9.out.lt HP9.out.ns⟩
    clear hd5 ho5 hr5 ef
    go_wp2
    refine OnToK.mk hkp (Sub.refl _) ?_
    clear hkp
    refine wpG_stageK (wpQuiet_nil ?_)
    go_wp2_with fail
    refine HR5.out.mono ?_
    rintro e w6 ⟨rfl, hg6⟩
    have HF := hide (HD9.out.both HDK.out HOK.out hg6 (by omega))
    have HX := hide (And.intro (only2 HW9.out HOK.out hg6.only) (And.intro (new_more (S := S) (w5 := w5) HW9.out.size) (new_more (S := T) (w5 := w6) (Nat.le_trans HW9.out.size HOK.out.size))))
    have hkp : Kept (fun b => b = bP) w5 w6 := ⟨hg6.only.os, hg6.only.tape, hg6.only.output, hg6.only.size, fun b e => by subst e; exact hg6.only.block b hP5.lt hP5.nt⟩
    clear hg6
    go_wp2
    refine OnToK.mk hkp (Sub.refl _) ?_
    clear hkp
    have inh : Nonempty (GrK (fun b => b = bP) w6) := GrK.some _ w6
    refine wpG_lastK ?_
    repeat (go_big_quiet_step (fail))
    refine wpQuiet_nil ?_
    clear inh
    go_wp2
    go_ret
    have h9 := HF.out.mono (c' := c + (tx.size + 8 + (m + 1))) (by omega)
    rw [← EF.out] at h9
    exact ⟨_, _, by simp, h9, HX.out⟩
  by_cases n4 : k = 8
  · have ef : Dsk.does8 k n tx.data.toList N D = (Dsk.setFail (N.tmod 5) D, 0) := by unfold Dsk.does8; rw [if_neg n0, if_neg n1, if_neg n2, if_neg n3, if_pos n4]
    have EF := hide (congrArg Prod.fst ef)
    have hmb : N.tmod 5 ≤ 9223372036854775807 := by have := Int.tmod_lt_of_pos N (show (0 : Int) < 5 by omega); omega
    obtain ⟨z, hz⟩ : ∃ z, N.tmod 5 = z := ⟨_, rfl⟩
    rw [hz] at hmb EF
    have y3 : w3.cell? ⟨bP, 2, none⟩ = some (.int .i64 N) := by have := HP3.out.cs.c2; simpa using this
    clear ef
    go_wp2_with fail
    refine (fail_dk HD3.out.d z hmb).mono ?_
    rintro e w5 ⟨rfl, hd5, ho5⟩
    have HD5 := hide (HD3.out.setD hd5 ho5)
    have HO5 := hide ho5
    have hP5 : PB8 bP ⟨op, nm, N, raw, tx⟩ (more S w3 w5) T w5 := HP3.out.only ho5
    have y5 : w5.cell? ⟨bP, 2, none⟩ = some (.int .i64 N) := by have := hP5.cs.c2; simpa using this
    clear hd5 ho5 y3
    go_wp2_with fail
    refine (rfail_dk HD5.out.r z hmb).mono ?_
    rintro e w6 ⟨rfl, hd6, ho6⟩
    have HD6 := hide (HD5.out.setR hd6 ho6)
    have HX := hide (And.intro (only2 HW3.out HO5.out ho6) (And.intro (new_same (S := S) (w := w)) (new_same (S := T) (w := w))))
    clear hd6 ho6
    go_wp2
    go_ret
    have h9 := HD6.out.mono (c' := c + (tx.size + 8 + (m + 1))) (by omega)
    have ef2 := EF.out
    rw [← ef2] at h9
    exact ⟨_, _, rfl, h9, HX.out⟩
  · have hk9 : k = 9 := by omega
    clear hk10
    have ef : Dsk.does8 k n tx.data.toList N D = (Dsk.setStop (N.tmod 40) D, 0) := by unfold Dsk.does8; rw [if_neg n0, if_neg n1, if_neg n2, if_neg n3, if_neg n4]
    have EF := hide (congrArg Prod.fst ef)
    have hmb : N.tmod 40 ≤ 9223372036854775807 := by have := Int.tmod_lt_of_pos N (show (0 : Int) < 40 by omega); omega
    obtain ⟨z, hz⟩ : ∃ z, N.tmod 40 = z := ⟨_, rfl⟩
    rw [hz] at hmb EF
    have y3 : w3.cell? ⟨bP, 2, none⟩ = some (.int .i64 N) := by have := HP3.out.cs.c2; simpa using this
    clear ef
    go_wp2_with fail
    refine (stop_dk HD3.out.d z hmb).mono ?_
    rintro e w5 ⟨rfl, hd5, ho5⟩
    have HD5 := hide (HD3.out.setD hd5 ho5)
    have HO5 := hide ho5
    have hP5 : PB8 bP ⟨op, nm, N, raw, tx⟩ (more S w3 w5) T w5 := HP3.out.only ho5
    have y5 : w5.cell? ⟨bP, 2, none⟩ = some (.int .i64 N) := by have := hP5.cs.c2; simpa using this
    clear hd5 ho5 y3
    go_wp2_with fail
    refine (rstop_dk HD5.out.r z hmb).mono ?_
    rintro e w6 ⟨rfl, hd6, ho6⟩
    have HD6 := hide (HD5.out.setR hd6 ho6)
    have HX := hide (And.intro (only2 HW3.out HO5.out ho6) (And.intro (new_same (S := S) (w := w)) (new_same (S := T) (w := w))))
    clear hd6 ho6
    go_wp2
    go_ret
    have h9 := HD6.out.mono (c' := c + (tx.size + 8 + (m + 1))) (by omega)
    have ef2 := EF.out
    rw [← ef2] at h9
    exact ⟨_, _, rfl, h9, HX.out⟩

end Go.Proofs.YtleomppgkikhnaaGreat
