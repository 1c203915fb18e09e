/-
  What a destination waits for, by one number.
-/
import Derived.Test.YtjbdofjheeljkaaLdgBsW
namespace Go.Proofs.Ytjbdofjheeljkaa
open Go.RowKit
open Ldg (De Le Rd Rl)

set_option maxRecDepth 100000 in
set_option maxHeartbeats 800000 in
theorem dwaits_any {X : Nat → Prop} {w : World} (nm : ByteArray) (s lo ak ev rj : Nat) {ab : List Nat} {va : Option Addr} {vc : Nat} (h : SlIn X w (.slice va ab.length vc) ab) (hl : ab.length ≤ 1000000000) (hr : ab.Pairwise (· < ·)) (q next : Nat) :
    Calls Try.prog 59 #[.agg #[.string nm, .int .u64 (s : Int), .int .u64 (lo : Int), .slice va ab.length vc, .int .u64 (ak : Int), .int .u64 (ev : Int), .int .u64 (rj : Int)], .int .u64 (q : Int), .int .u64 (next : Int)] w fun e w' =>
      e = .returned (.bool (De.waits q next ⟨nm, s, lo, ab, ak, ev, rj⟩)) ∧ Below w.heap.size w w' := by
  have HH := hide h
  have HR := hide hr
  obtain ⟨_, _, _, _, _, hu⟩ := h
  obtain ⟨an, han⟩ : ∃ n, ab.length = n := ⟨_, rfl⟩
  rw [han] at HH ⊢
  have HN := hide han
  have HA := hide ((Below.refl w.heap.size w).alloc (Nat.le_refl _) (Obj.cells #[.string nm, .int .u64 (s : Int), .int .u64 (lo : Int), .slice va an vc, .int .u64 (ak : Int), .int .u64 (ev : Int), .int .u64 (rj : Int)] 41))
  clear hr han hu
  by_cases h1 : q < lo
  · go_enter Try.func59, Try.ntmps59
    go_wp2_with fail
    go_ret
    refine ⟨lret_b ?_, HA.out⟩
    simp [De.waits, Nat.not_le.2 h1]
  · by_cases h2 : q < next
    · go_enter Try.func59, Try.ntmps59
      go_wp2_with fail
      obtain ⟨a', c', e1, _, _, hu⟩ := HH.out.below HA.out
      simp only [Value.slice.injEq] at e1
      obtain ⟨rfl, e2, rfl⟩ := e1
      have hb := bs_any (c := vc) hu (by rw [HN.out]; omega) HR.out q
      rw [HN.out] at hb
      refine hb.mono ?_
      clear hb hu
      rintro e w1 ⟨rfl, hb1⟩
      have HB := hide (bl HA.out hb1)
      clear hb1
      go_wp2
      go_ret
      refine ⟨lret_b ?_, HB.out⟩
      simp [De.waits, Nat.not_lt.1 h1, h2]
    · go_enter Try.func59, Try.ntmps59
      go_wp2_with fail
      go_ret
      refine ⟨lret_b ?_, HA.out⟩
      simp [De.waits, h2]
end Go.Proofs.Ytjbdofjheeljkaa
