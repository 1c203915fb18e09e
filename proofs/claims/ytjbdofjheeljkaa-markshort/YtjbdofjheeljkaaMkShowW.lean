/-
  Take of no bytes; chapter 11's example.
-/
import Derived.Test.YtjbdofjheeljkaaMkPutW
import Derived.Test.YtjbdofjheeljkaaTakeTW
import Derived.Test.YtjbdofjheeljkaaLdgBoxW
import Derived.Deep.DeepCutAuto
namespace Go.Proofs.Ytjbdofjheeljkaa
open Go.RowKit
open Ldg (De Le Rd Rl)

theorem nil_size : (⟨#[]⟩ : ByteArray).size ≤ maxLen := Nat.zero_le _
theorem take_nil : Num.take (⟨#[]⟩ : ByteArray).data.toList = none := by kernel_rfl
set_option maxRecDepth 100000 in
set_option maxHeartbeats 800000 in
theorem takeNums_nil {w : World} {g n c : Nat} {p : Option Addr} (h : w.cell? ⟨g, 0, none⟩ = some (.pointer p)) (hn : 0 < n) :
    Calls Try.prog 89 #[.string ⟨#[]⟩, .slice (some ⟨g, 0, none⟩) n c] w fun e w' => e = .returned (.tuple #[.string ⟨#[]⟩, .int .i64 2]) ∧ Below w.heap.size w w' := by
  go_enter Try.func89, Try.ntmps89
  go_wp2
  go_loopw [0, 13] (fun v0 v13 wr => v0 = .string ⟨#[]⟩ ∧ v13 = .int .i64 0 ∧ wr = w) (fun _ _ _ => 0)
  case atStart => exact ⟨rfl, rfl, rfl⟩
  case round =>
    obtain ⟨rfl, rfl, hww⟩ := hrel
    rw [hww]
    clear hww
    go_wp2_with fail
    refine (take_none ⟨#[]⟩ w nil_size take_nil).mono ?_
    rintro e w1 ⟨rfl, hb1⟩
    go_wp2
    go_ret2
    exact ⟨rfl, hb1⟩
set_option maxRecDepth 100000 in
set_option maxHeartbeats 1600000 in
theorem takeLedger_nil (w : World) :
    Calls Try.prog 69 #[.string ⟨#[]⟩] w fun e w' => e = .returned (.tuple #[.agg #[.int .u64 0, .int .u64 0, .slice none 0 0], .string ⟨#[]⟩, .int .i64 2]) ∧ Below w.heap.size w w' := by
  have hz := alloc_new w (.cells #[.int .u64 0, .int .u64 0, .slice none 0 0] 27)
  have hb1 := bnew w (.cells #[.int .u64 0, .int .u64 0, .slice none 0 0] 27)
  have hb2 := bl hb1 (bnew _ (.cells #[.int .u64 0, .int .u64 0, .slice none 0 0] 27))
  have hb3 := bl hb2 (bnew _ (.cells #[.int .u64 0] 23))
  have hz2 := at_then hz (bnew _ (.cells #[.int .u64 0, .int .u64 0, .slice none 0 0] 27))
  have hz3 := at_then hz2 (bnew _ (.cells #[.int .u64 0] 23))
  obtain ⟨w3, hw3⟩ : ∃ W, ((w.alloc (.cells #[.int .u64 0, .int .u64 0, .slice none 0 0] 27)).alloc (.cells #[.int .u64 0, .int .u64 0, .slice none 0 0] 27)).alloc (.cells #[.int .u64 0] 23) = W := ⟨_, rfl⟩
  have hs3 : w3.heap.size = w.heap.size + 1 + 1 + 1 := by rw [← hw3]; simp
  rw [hw3] at hb3 hz3
  have HB3 := hide hb3
  have HZ3 := hide hz3
  have HW3 := hide hw3
  have HS3 := hide hs3
  clear hz hb1 hb2 hb3 hz2 hz3 hw3 hs3
  go_enter Try.func69, Try.ntmps69
  go_wp2_with fail
  rw [HW3.out, ← HS3.out]
  have hc := alloc_new w3 (.cells #[.pointer (some ⟨w.heap.size + 1, 0, none⟩), .pointer (some ⟨w.heap.size + 1, 1, none⟩), .pointer (some ⟨w.heap.size + 1 + 1, 0, none⟩)] 135)
  have hb4 := bnew w3 (.cells #[.pointer (some ⟨w.heap.size + 1, 0, none⟩), .pointer (some ⟨w.heap.size + 1, 1, none⟩), .pointer (some ⟨w.heap.size + 1 + 1, 0, none⟩)] 135)
  refine (takeNums_nil (lcell_of hc 0 rfl) (by omega)).mono ?_
  rintro e w5 ⟨rfl, hb5⟩
  have hz5 := at_then (at_then HZ3.out hb4) hb5
  have hbb := bl (bl HB3.out hb4) hb5
  have z0 := lcell_of hz5 0 rfl
  have z1 := lcell_of hz5 1 rfl
  have z2 := lcell_of hz5 2 rfl
  have zf := lfrozen_of hz5
  have hk := kept3 w5 w.heap.size (.int .u64 0) (.int .u64 0) (.slice none 0 0)
  have hu := set3 hz5 (.int .u64 0) (.int .u64 0) (.slice none 0 0)
  have hb6 := hbb.trans (hk.bel (fun b hb => by omega))
  obtain ⟨w6, hw6⟩ : ∃ W, ((w5.setCell ⟨w.heap.size, 0, none⟩ (.int .u64 0)).setCell ⟨w.heap.size, 1, none⟩ (.int .u64 0)).setCell ⟨w.heap.size, 2, none⟩ (.slice none 0 0) = W := ⟨_, rfl⟩
  rw [hw6] at hu hb6
  have q0 := lcell_of hu 0 rfl
  have q1 := lcell_of hu 1 rfl
  have q2 := lcell_of hu 2 rfl
  have HB6 := hide hb6
  clear hc hb4 hb5 hz5 hbb hk hu hb6
  go_wp2_with fail
  refine bodyPost_ret (v := .tuple #[.agg #[.int .u64 0, .int .u64 0, .slice none 0 0], .string ⟨#[]⟩, .int .i64 2]) (by simp [results, Try.results69, go_sem, q0, q1, q2]) rfl ?_
  exact ⟨rfl, HB6.out⟩
set_option maxRecDepth 100000 in
set_option maxHeartbeats 1600000 in
theorem mtake_nil (w : World) :
    Calls Try.prog 41 #[.string ⟨#[]⟩] w fun e w' => e = .returned (.tuple #[.agg #[.int .u64 0, .int .u64 0, .slice none 0 0], .int .i64 2]) ∧ Below w.heap.size w w' := by
  have hz := alloc_new w (.cells #[.int .u64 0, .int .u64 0, .slice none 0 0] 27)
  have hb1 := bnew w (.cells #[.int .u64 0, .int .u64 0, .slice none 0 0] 27)
  go_enter Try.func41, Try.ntmps41
  go_wp2_with fail
  refine (takeLedger_nil _).mono ?_
  rintro e w2 ⟨rfl, hb2⟩
  have hz3 := at_then (at_then hz hb2) (bnew w2 (.cells #[.int .u64 0, .int .u64 0, .slice none 0 0] 27))
  have hbb := bl (bl hb1 hb2) (bnew w2 (.cells #[.int .u64 0, .int .u64 0, .slice none 0 0] 27))
  obtain ⟨w5, hw5⟩ : ∃ W, w2.alloc (.cells #[.int .u64 0, .int .u64 0, .slice none 0 0] 27) = W := ⟨_, rfl⟩
  rw [hw5] at hz3 hbb
  have HW5 := hide hw5
  have HZ3 := hide hz3
  clear hz hb1 hb2 hw5 hz3
  go_upto_region 2 with fail
  try rw [HW5.out]
  have hz3 := HZ3.out
  have z0 := lcell_of hz3 0 rfl
  have z1 := lcell_of hz3 1 rfl
  have z2 := lcell_of hz3 2 rfl
  have zf := lfrozen_of hz3
  have hk := kept3 w5 w.heap.size (.int .u64 0) (.int .u64 0) (.slice none 0 0)
  have hu := set3 hz3 (.int .u64 0) (.int .u64 0) (.slice none 0 0)
  have hb6 := hbb.trans (hk.bel (fun b hb => by omega))
  obtain ⟨w6, hw6⟩ : ∃ W, ((w5.setCell ⟨w.heap.size, 0, none⟩ (.int .u64 0)).setCell ⟨w.heap.size, 1, none⟩ (.int .u64 0)).setCell ⟨w.heap.size, 2, none⟩ (.slice none 0 0) = W := ⟨_, rfl⟩
  rw [hw6] at hu hb6
  have q0 := lcell_of hu 0 rfl
  have q1 := lcell_of hu 1 rfl
  have q2 := lcell_of hu 2 rfl
  have HB6 := hide hb6
  clear hz3 hbb hk hu hb6
  go_wp2_with fail
  refine bodyPost_ret (v := .tuple #[.agg #[.int .u64 0, .int .u64 0, .slice none 0 0], .int .i64 2]) (by simp [results, Try.results41, go_sem, q0, q1, q2]) rfl ?_
  exact ⟨rfl, HB6.out⟩
/-! ## The example -/
namespace Mrk
def exD : De := ⟨⟨#[97]⟩, 1, 1, [2], 1, 0, 0⟩
def exS : ByteArray := ⟨#[1, 4, 1, 1, 97, 1, 1, 1, 0, 0, 1, 1]⟩
theorem ex_right : (Le.mk 1 4 [exD]).right = true := by kernel_rfl
theorem ex_bytes : Num.bs (ledB ⟨1, 4, [exD]⟩) = exS := by kernel_rfl
theorem ex_small : ∀ d ∈ [exD], De.Small d := by
  intro d hd
  rw [List.mem_singleton.1 hd]
  exact ⟨by decide, by decide, by decide, fun x hx => by rw [List.mem_singleton.1 hx]; decide, by decide, by decide, by decide, by decide⟩
theorem ex_wide : ∀ d ∈ [exD], Wide d := by
  intro d hd
  rw [List.mem_singleton.1 hd]
  exact ⟨by decide, by decide, fun x hx => by rw [List.mem_singleton.1 hx]; decide, by decide, by decide, by decide, by decide, by decide⟩
end Mrk
theorem ex_led {w : World} {g1 g2 : Nat} (h1 : w.heap[g1]? = some (.cells (uV [2]).toArray 23 (0, 0))) (h2 : w.heap[g2]? = some (.cells #[.string ⟨#[97]⟩, .int .u64 1, .int .u64 1, .slice (some ⟨g1, 0, none⟩) 1 1, .int .u64 1, .int .u64 0, .int .u64 0] 41 (0, 0))) :
    LedAt w (.agg #[.int .u64 1, .int .u64 4, .slice (some ⟨g2, 0, none⟩) 1 1]) ⟨1, 4, [Mrk.exD]⟩ := by
  refine ⟨some ⟨g2, 0, none⟩, 1, [(Mrk.exD, .slice (some ⟨g1, 0, none⟩) 1 1)], rfl, Nat.le_refl _, rfl, ⟨fun i hi => ⟨g2, 0, rfl, (Array.getElem?_eq_some_iff.1 h2).1, fun j hj k u hu => ?_⟩, fun p hp => ?_⟩⟩
  · obtain rfl : j = 0 := by simpa using hj
    refine lcell_of h2 (0 + 0 * 7 + k) ?_
    rw [Nat.zero_mul, Nat.zero_add]
    have h := hu
    rw [← List.getElem?_toArray] at h
    exact h
  · rw [List.mem_singleton.1 hp]
    exact SlIn.row (l := [2]) (r := []) (by rw [List.append_nil]; exact h1) trivial (Nat.le_refl _)
set_option maxRecDepth 100000 in
set_option maxHeartbeats 1600000 in
theorem mshown_any (w : World) : Calls Try.prog 36 #[] w fun e w' => e = .returned (.bool true) ∧ Below w.heap.size w w' := by
  have h1 := alloc_new w (.cells #[.int .u64 2] 23)
  have b1 := bnew w (.cells #[.int .u64 2] 23)
  obtain ⟨wa, hwa⟩ : ∃ W, w.alloc (.cells #[.int .u64 2] 23) = W := ⟨_, rfl⟩
  rw [hwa] at h1 b1
  have hsa : wa.heap.size = w.heap.size + 1 := by rw [← hwa]; simp
  have h2 := alloc_new wa (.cells #[.string ⟨#[97]⟩, .int .u64 1, .int .u64 1, .slice (some ⟨w.heap.size, 0, none⟩) 1 1, .int .u64 1, .int .u64 0, .int .u64 0] 41)
  have b2 := bnew wa (.cells #[.string ⟨#[97]⟩, .int .u64 1, .int .u64 1, .slice (some ⟨w.heap.size, 0, none⟩) 1 1, .int .u64 1, .int .u64 0, .int .u64 0] 41)
  have hled := ex_led (at_then h1 b2) h2
  rw [hsa] at hled
  obtain ⟨wb, hwb⟩ : ∃ W, wa.alloc (.cells #[.string ⟨#[97]⟩, .int .u64 1, .int .u64 1, .slice (some ⟨w.heap.size, 0, none⟩) 1 1, .int .u64 1, .int .u64 0, .int .u64 0] 41) = W := ⟨_, rfl⟩
  rw [hwb] at hled b2
  have HLED := hide hled
  have HBB := hide (bl b1 b2)
  have HWA := hide hwa
  have HWB := hide hwb
  clear h1 b1 hwa h2 b2 hled hwb hsa
  go_enter Try.func36, Try.ntmps36
  go_wp2_with fail
  rw [HWA.out, HWB.out]
  refine (mput_any HLED.out Mrk.ex_right Mrk.ex_small Mrk.ex_wide (by omega) (by omega) (by show 1 ≤ 4; omega)).mono ?_
  rintro e w1 ⟨rfl, hb1⟩
  rw [Mrk.ex_bytes]
  have HB1 := hide (bl HBB.out hb1)
  clear hb1
  go_wp2_with fail
  refine (mtake_nil _).mono ?_
  rintro e w2 ⟨rfl, hb2⟩
  have HB2 := hide (bl HB1.out hb2)
  clear hb2
  have hba := bl HB2.out (bnew w2 (.cells #[.int .u64 0, .int .u64 0, .slice none 0 0] 27))
  have HBA := hide hba
  have hse : (Mrk.exS.toList == ([1, 4, 1, 1, 97, 1, 1, 1, 0, 0, 1, 1] : List UInt8)) = true := by kernel_rfl
  clear hba
  go_wp2
  go_ret
  exact ⟨rfl, HBA.out⟩
end Go.Proofs.Ytjbdofjheeljkaa
