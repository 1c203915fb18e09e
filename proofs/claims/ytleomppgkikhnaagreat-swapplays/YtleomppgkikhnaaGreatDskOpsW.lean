/-
  What each operation begins with: count, find, operate, fails; Used, Ops, Fail, Stop.
-/
import Derived.Test.YtleomppgkikhnaaGreatDskHeapW
namespace Go.Proofs.YtleomppgkikhnaaGreat
open Go.RowKit
open Dsk (Nm Hold Fl Ct By)

def ptr (p : Nat) : Value := .pointer (some ⟨p, 0, none⟩)
def i64 (n : Int) : Prop := -9223372036854775808 ≤ n ∧ n ≤ 9223372036854775807

def Hd.on (h : Hd) : Hd := { h with ops := h.ops + 1, power := if 0 < h.power then h.power - 1 else h.power }

set_option maxHeartbeats 800000 in
theorem count_dead {S : Nat → Prop} {w : World} {p : Nat} {h : Hd} (H : HeapDisk S w p h) (h0 : h.power = 0) :
    Calls Tryz.prog 56 #[.pointer (some ⟨p, 0, none⟩)] w fun e w' => e = .returned (.int .i64 11) ∧ w' = w := by
  obtain ⟨c0, c1, c2, c3, c4, c5, c6, c7, cf⟩ := H.look
  rw [h0] at c4
  clear H h0
  go_enter Tryz.func56, Tryz.ntmps56
  go_wp2
  go_ret
  exact ⟨rfl, rfl⟩

set_option maxHeartbeats 800000 in
theorem count_on {S : Nat → Prop} {w : World} {p : Nat} {h : Hd} (H : HeapDisk S w p h) (h0 : h.power ≠ 0) (h1 : -1 ≤ h.power) (h2 : h.power ≤ 9223372036854775807) (ho : h.ops < 4611686018427387904) :
    Calls Tryz.prog 56 #[.pointer (some ⟨p, 0, none⟩)] w fun e w' => e = .returned (.int .i64 0) ∧ HeapDisk S w' p h.on ∧ Only S w w' := by
  obtain ⟨c0, c1, c2, c3, c4, c5, c6, c7, cf⟩ := H.look
  have HH := hide H
  clear H
  by_cases hm : h.power = -1
  · have e1 : h.on = { h with ops := h.ops + 1 } := by unfold Hd.on; rw [if_neg (by omega)]
    rw [e1]
    clear e1 h0 h1 h2
    rw [hm] at c4
    have HM := hide hm
    clear hm
    go_enter Tryz.func56, Tryz.ntmps56
    go_wp2
    go_ret
    exact ⟨rfl, HH.out.set { h with ops := h.ops + 1 } 3 _ rfl rfl, HH.out.only _ _⟩
  · have e1 : h.on = { h with ops := h.ops + 1, power := h.power - 1 } := by unfold Hd.on; rw [if_pos (by omega)]
    rw [e1]
    clear e1
    have hp : 1 ≤ h.power := by omega
    clear h0 h1
    go_enter Tryz.func56, Tryz.ntmps56
    go_wp2
    go_ret
    have H1 := HH.out.set { h with ops := h.ops + 1 } 3 (.int .i64 ((h.ops : Int) + 1)) rfl rfl
    exact ⟨rfl, H1.set { h with ops := h.ops + 1, power := h.power - 1 } 4 _ rfl rfl, (HH.out.only _ _).trans' (H1.only _ _)⟩

set_option maxHeartbeats 800000 in
theorem find_none {S : Nat → Prop} {w : World} {p : Nat} {h : Hd} (H : HeapDisk S w p h) (n : ByteArray) (hn : n.size ≤ maxLen) (hf : h.f n = none) :
    Calls Tryz.prog 46 #[.pointer (some ⟨p, 0, none⟩), .string n] w fun e w' => e = .returned (.tuple #[.pointer none, .int .i64 5]) ∧ w' = w := by
  obtain ⟨c0, c1, c2, c3, c4, c5, c6, c7, cf⟩ := H.look
  have hl := H.map.look hn
  clear H
  simp only [hf, Option.map_none, ptrV] at hl
  clear hf
  go_enter Tryz.func46, Tryz.ntmps46
  go_wp2
  go_ret2
  exact ⟨rfl, rfl⟩
set_option maxHeartbeats 800000 in
theorem find_some {S : Nat → Prop} {w : World} {p : Nat} {h : Hd} (H : HeapDisk S w p h) (n : ByteArray) (hn : n.size ≤ maxLen) {i : Nat} (hf : h.f n = some i) :
    Calls Tryz.prog 46 #[.pointer (some ⟨p, 0, none⟩), .string n] w fun e w' => e = .returned (.tuple #[.pointer (some ⟨h.bl i, 0, none⟩), .int .i64 0]) ∧ w' = w := by
  obtain ⟨c0, c1, c2, c3, c4, c5, c6, c7, cf⟩ := H.look
  have hl := H.map.look hn
  clear H
  simp only [hf, Option.map_some, ptrV] at hl
  clear hf
  go_enter Tryz.func46, Tryz.ntmps46
  go_wp2
  go_ret2
  exact ⟨rfl, rfl⟩

set_option maxHeartbeats 800000 in
theorem operate_dead {S : Nat → Prop} {w : World} {p : Nat} {h : Hd} (H : HeapDisk S w p h) (h0 : h.power = 0) (n : ByteArray) :
    Calls Tryz.prog 64 #[.pointer (some ⟨p, 0, none⟩), .string n] w fun e w' => e = .returned (.tuple #[.pointer none, .int .i64 11]) ∧ w' = w := by
  go_enter Tryz.func64, Tryz.ntmps64
  go_wp2_with fail
  refine (count_dead H h0).mono ?_
  rintro e w1 ⟨rfl, hw⟩
  rw [hw]
  clear hw
  go_wp2
  go_ret2
  exact ⟨rfl, rfl⟩

set_option maxHeartbeats 800000 in
theorem operate_none {S : Nat → Prop} {w : World} {p : Nat} {h : Hd} (H : HeapDisk S w p h) (h0 : h.power ≠ 0) (h1 : -1 ≤ h.power) (h2 : h.power ≤ 9223372036854775807) (ho : h.ops < 4611686018427387904) (n : ByteArray) (hn : n.size ≤ maxLen) (hf : h.f n = none) :
    Calls Tryz.prog 64 #[.pointer (some ⟨p, 0, none⟩), .string n] w fun e w' => e = .returned (.tuple #[.pointer none, .int .i64 5]) ∧ HeapDisk S w' p h.on ∧ Only S w w' := by
  have HF := hide hf
  clear hf
  go_enter Tryz.func64, Tryz.ntmps64
  go_wp2_with fail
  refine (count_on H h0 h1 h2 ho).mono ?_
  rintro e w1 ⟨rfl, H1, hO⟩
  go_wp2_with fail
  refine (find_none H1 n hn HF.out).mono ?_
  rintro e w2 ⟨rfl, hw⟩
  rw [hw]
  clear hw
  go_wp2
  go_ret2
  exact ⟨rfl, H1, hO⟩
set_option maxHeartbeats 800000 in
theorem operate_some {S : Nat → Prop} {w : World} {p : Nat} {h : Hd} (H : HeapDisk S w p h) (h0 : h.power ≠ 0) (h1 : -1 ≤ h.power) (h2 : h.power ≤ 9223372036854775807) (ho : h.ops < 4611686018427387904) (n : ByteArray) (hn : n.size ≤ maxLen) {i : Nat} (hf : h.f n = some i) :
    Calls Tryz.prog 64 #[.pointer (some ⟨p, 0, none⟩), .string n] w fun e w' => e = .returned (.tuple #[.pointer (some ⟨h.bl i, 0, none⟩), .int .i64 0]) ∧ HeapDisk S w' p h.on ∧ Only S w w' := by
  have HF := hide hf
  clear hf
  go_enter Tryz.func64, Tryz.ntmps64
  go_wp2_with fail
  refine (count_on H h0 h1 h2 ho).mono ?_
  rintro e w1 ⟨rfl, H1, hO⟩
  go_wp2_with fail
  refine (find_some H1 n hn HF.out).mono ?_
  rintro e w2 ⟨rfl, hw⟩
  rw [hw]
  clear hw
  go_wp2
  go_ret2
  exact ⟨rfl, H1, hO⟩

set_option maxHeartbeats 800000 in
theorem fails_no {S : Nat → Prop} {w : World} {p : Nat} {h : Hd} (H : HeapDisk S w p h) (h0 : h.fail < 1) :
    Calls Tryz.prog 65 #[.pointer (some ⟨p, 0, none⟩)] w fun e w' => e = .returned (.bool false) ∧ w' = w := by
  obtain ⟨c0, c1, c2, c3, c4, c5, c6, c7, cf⟩ := H.look
  clear H
  go_enter Tryz.func65, Tryz.ntmps65
  go_wp2
  go_ret
  exact ⟨rfl, rfl⟩
set_option maxHeartbeats 800000 in
theorem fails_on {S : Nat → Prop} {w : World} {p : Nat} {h : Hd} (H : HeapDisk S w p h) (h0 : 1 ≤ h.fail) (h1 : h.fail ≤ 9223372036854775807) :
    Calls Tryz.prog 65 #[.pointer (some ⟨p, 0, none⟩)] w fun e w' => e = .returned (.bool (h.fail - 1 == 0)) ∧ HeapDisk S w' p { h with fail := h.fail - 1 } ∧ Only S w w' := by
  obtain ⟨c0, c1, c2, c3, c4, c5, c6, c7, cf⟩ := H.look
  have HH := hide H
  clear H
  go_enter Tryz.func65, Tryz.ntmps65
  go_wp2
  go_ret
  exact ⟨rfl, HH.out.set { h with fail := h.fail - 1 } 5 _ rfl rfl, HH.out.only _ _⟩

set_option maxHeartbeats 800000 in
theorem used_at {S : Nat → Prop} {w : World} {p : Nat} {h : Hd} (H : HeapDisk S w p h) :
    Calls Tryz.prog 31 #[.pointer (some ⟨p, 0, none⟩)] w fun e w' => e = .returned (.int .i64 h.used) ∧ w' = w := by
  obtain ⟨c0, c1, c2, c3, c4, c5, c6, c7, cf⟩ := H.look
  clear H
  go_enter Tryz.func31, Tryz.ntmps31
  go_wp2
  go_ret
  exact ⟨rfl, rfl⟩
set_option maxHeartbeats 800000 in
theorem ops_at {S : Nat → Prop} {w : World} {p : Nat} {h : Hd} (H : HeapDisk S w p h) :
    Calls Tryz.prog 13 #[.pointer (some ⟨p, 0, none⟩)] w fun e w' => e = .returned (.int .i64 (h.ops : Int)) ∧ w' = w := by
  obtain ⟨c0, c1, c2, c3, c4, c5, c6, c7, cf⟩ := H.look
  clear H
  go_enter Tryz.func13, Tryz.ntmps13
  go_wp2
  go_ret
  exact ⟨rfl, rfl⟩
set_option maxHeartbeats 800000 in
theorem fail_at {S : Nat → Prop} {w : World} {p : Nat} {h : Hd} (H : HeapDisk S w p h) (n : Int) :
    Calls Tryz.prog 25 #[.pointer (some ⟨p, 0, none⟩), .int .i64 n] w fun e w' => e = .returned (.tuple #[]) ∧ HeapDisk S w' p { h with fail := n } ∧ Only S w w' := by
  obtain ⟨c0, c1, c2, c3, c4, c5, c6, c7, cf⟩ := H.look
  have HH := hide H
  clear H
  go_enter Tryz.func25, Tryz.ntmps25
  go_wp2
  go_end0
  exact ⟨rfl, HH.out.set { h with fail := n } 5 _ rfl rfl, HH.out.only _ _⟩
set_option maxHeartbeats 800000 in
theorem stop_at {S : Nat → Prop} {w : World} {p : Nat} {h : Hd} (H : HeapDisk S w p h) (n : Int) :
    Calls Tryz.prog 27 #[.pointer (some ⟨p, 0, none⟩), .int .i64 n] w fun e w' => e = .returned (.tuple #[]) ∧ HeapDisk S w' p { h with power := max n (-1) } ∧ Only S w w' := by
  obtain ⟨c0, c1, c2, c3, c4, c5, c6, c7, cf⟩ := H.look
  have HH := hide H
  clear H
  by_cases hn : n < -1
  · rw [show max n (-1) = -1 by omega]
    go_enter Tryz.func27, Tryz.ntmps27
    go_wp2
    go_end0
    exact ⟨rfl, HH.out.set { h with power := -1 } 4 _ rfl rfl, HH.out.only _ _⟩
  · rw [show max n (-1) = n by omega]
    go_enter Tryz.func27, Tryz.ntmps27
    go_wp2
    go_end0
    exact ⟨rfl, HH.out.set { h with power := n } 4 _ rfl rfl, HH.out.only _ _⟩

end Go.Proofs.YtleomppgkikhnaaGreat
