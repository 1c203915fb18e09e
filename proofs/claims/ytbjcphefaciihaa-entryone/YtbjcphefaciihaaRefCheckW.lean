/-
  The document's own Check.
-/
import Derived.Test.YtbjcphefaciihaaCheckW
import Derived.Test.YtbjcphefaciihaaCalm
namespace Go.Proofs.Ytbjcphefaciihaa
open Go.RowKit
open Lab (Pr)

theorem has_take_next {l : List Pr} {j : Nat} {zn yn yv : ByteArray} (hj : j < l.length) (hy : l[j] = (yn, yv)) (h : Lab.has (l.take j) zn = false) (hn : (yn.toList == zn.toList) = false) : Lab.has (l.take (j + 1)) zn = false := by
  rw [List.take_succ_eq_append_getElem hj, Lab.has_app, h, hy]
  simpa [Lab.has] using Lab.eqB_false hn
theorem has_take_found {l : List Pr} {j k : Nat} {zn yn yv : ByteArray} (hj : j < l.length) (hjk : j < k) (hy : l[j] = (yn, yv)) (hn : (yn.toList == zn.toList) = true) : Lab.has (l.take k) zn = true := by
  refine Lab.has_iff.2 ⟨l[j], List.mem_iff_getElem.2 ⟨j, by simp; omega, by simp⟩, ?_⟩
  rw [hy]; exact Lab.eqB_true hn
theorem drewN_below {B : Nat} {a w : World} (h : Below B a w) (n : Nat) : Below B a (w.drewN n) := ⟨h.os, h.tape, h.output, h.size, h.block⟩

set_option maxRecDepth 100000 in
set_option maxHeartbeats 1600000 in
theorem refCheck_any (a : Option Addr) (cap : Nat) (l : List Pr) (w : World) (hp : PairsAt w a l) (hl : l.length ≤ 9223372036854775807) (hs : ∀ p ∈ l, p.1.size ≤ 9223372036854775807 ∧ p.2.size ≤ 9223372036854775807) :
    Calls Try.prog 43 #[.slice a l.length cap] w fun e w' => e = .returned (.int .i64 (Lab.check l : Int)) ∧ Below w.heap.size w w' := by
  have HP := hide hp
  have HS := hide hs
  clear hp hs
  by_cases h8 : 8 < l.length
  · go_enter Try.func43, Try.ntmps43
    go_wp2
    go_ret
    exact ⟨ret_i (by rw [check_many h8]; rfl), Below.refl _ _⟩
  have h8' : l.length ≤ 8 := by omega
  go_enter Try.func43, Try.ntmps43
  go_wp2
  go_loopw [3] (fun i wr => ∃ k : Nat, k ≤ l.length ∧ i = .int .i64 (k : Int) ∧ Lab.chk (l.take k) (l.drop k) = Lab.chk [] l ∧ Below w.heap.size w wr)
    (fun i _ => l.length - (intOf i).toNat)
  case atStart => exact ⟨0, Nat.zero_le _, rfl, rfl, Below.refl _ _⟩
  case round =>
    obtain ⟨k, hk, rfl, hno, hnx⟩ := hrel
    have HN := hide hno
    clear hno
    have hsz := hnx.size
    by_cases hlt : k < l.length
    · obtain ⟨b, off, zn, zv, rfl, hbl, hz, hc1, hc2⟩ := (unhide HP).get hnx hlt
      have hsm := unhide HS l[k] (List.getElem_mem hlt)
      rw [hz] at hsm
      obtain ⟨hs1, hs2⟩ := hsm
      have HZ := hide hz
      clear hz
      cases hN : Lab.isName zn with
      | false =>
        go_wp2_with fail
        refine (refName_any _ _ hs1).mono ?_
        rw [hN]
        rintro e w1 ⟨rfl, rfl⟩
        go_wp2
        go_ret
        exact ⟨ret_i (stop_3 h8' hlt (unhide HZ) (unhide HN) hN), hnx⟩
      | true =>
        by_cases h40 : 40 < zv.size
        · go_wp2_with fail
          refine (refName_any _ _ hs1).mono ?_
          rw [hN]
          rintro e w1 ⟨rfl, rfl⟩
          go_wp2
          go_ret
          exact ⟨ret_i (stop_7 h8' hlt (unhide HZ) (unhide HN) hN h40), hnx⟩
        · go_wp2_with fail
          refine (refName_any _ _ hs1).mono ?_
          rw [hN]
          rintro e w1 ⟨rfl, rfl⟩
          go_wp2
          go_loopw [4] (fun i wi => ∃ j : Nat, j ≤ k ∧ i = .int .i64 (j : Int) ∧ Lab.has (l.take j) zn = false ∧ Below w.heap.size w wi)
            (fun i _ => k - (intOf i).toNat)
          case atStart => exact ⟨0, Nat.zero_le _, rfl, rfl, hnx⟩
          case round =>
            obtain ⟨j, hj, rfl, hna, hnj⟩ := hrel
            have HA := hide hna
            clear hna
            by_cases hjk : j < k
            · obtain ⟨b2, off2, yn, yv, hbe, hbl2, hy, hd1, hd2⟩ := (unhide HP).get hnj (show j < l.length by omega)
              obtain ⟨b3, off3, xn, xv, hbe3, hbl3, hx, hd3, hd4⟩ := (unhide HP).get hnj hlt
              simp only [Option.some.injEq, Addr.mk.injEq, and_true] at hbe hbe3
              obtain ⟨rfl, rfl⟩ := hbe
              obtain ⟨rfl, rfl⟩ := hbe3
              rw [HZ.out] at hx
              simp only [Prod.mk.injEq] at hx
              obtain ⟨rfl, rfl⟩ := hx
              have HY := hide hy
              have hji : (j : Int) < (l.length : Int) := by omega
              have hki : (k : Int) < (l.length : Int) := by omega
              clear hy
              obtain ⟨t, ht⟩ : ∃ t, (yn.toList == zn.toList) = t := ⟨_, rfl⟩
              cases t with
              | true =>
                go_wp2_with fail
                go_quiet (fail)
                go_wp2
                go_ret
                exact ⟨ret_i (stop_4 h8' hlt (unhide HZ) (unhide HN) hN (by omega) (has_take_found (by omega) hjk HY.out ht)), drewN_below hnj nq⟩
              | false =>
                go_wp2_with fail
                go_quiet (fail)
                go_wp2
                go_roundw
                case rel => exact ⟨j + 1, by omega, by go_num, has_take_next (by omega) HY.out HA.out ht, drewN_below hnj nq⟩
                case measure => simp [intOf]; omega
            · obtain rfl : j = k := by omega
              go_wp2
              go_roundw
              case rel => exact ⟨j + 1, by omega, by go_num, chk_step hlt (unhide HZ) (unhide HN) hN (by omega) HA.out, hnj⟩
              case measure => simp [intOf]; omega
    · go_wp2
      go_ret
      exact ⟨ret_i (stop_0 h8' hlt (unhide HN)), hnx⟩

end Go.Proofs.Ytbjcphefaciihaa
