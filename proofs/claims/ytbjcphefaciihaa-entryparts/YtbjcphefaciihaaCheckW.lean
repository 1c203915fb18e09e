/-
  What is wrong with labels: label.Check, and the document's own.
-/
import Derived.Test.YtbjcphefaciihaaNameW
import Derived.Deep.DeepCutAuto
import Derived.Deep.RegionWith
namespace Go.Proofs.Ytbjcphefaciihaa
open Go.RowKit
open Lab (Pr)

theorem ret_i {a b : Int} (h : a = b) : Ending.returned (.int .i64 a) = .returned (.int .i64 b) := by rw [h]

theorem chk_step {l : List Pr} {k : Nat} {zn zv : ByteArray} (hk : k < l.length) (hz : l[k] = (zn, zv)) (h : Lab.chk (l.take k) (l.drop k) = Lab.chk [] l) (h1 : Lab.isName zn = true) (h2 : zv.size ≤ 40) (h3 : Lab.has (l.take k) zn = false) :
    Lab.chk (l.take (k + 1)) (l.drop (k + 1)) = Lab.chk [] l := by
  rw [← h, List.drop_eq_getElem_cons hk, Lab.chk, if_pos, List.take_succ_eq_append_getElem hk, hz]
  rw [hz]
  unfold Lab.chkAt
  rw [if_neg (by simp [h1]), if_neg (by simp; omega), if_neg (by simp [h3])]
theorem chk_stop {l : List Pr} {k : Nat} {zn zv : ByteArray} (hk : k < l.length) (hz : l[k] = (zn, zv)) (h : Lab.chk (l.take k) (l.drop k) = Lab.chk [] l) (h0 : Lab.chkAt (l.take k) (zn, zv) ≠ 0) :
    Lab.chk [] l = Lab.chkAt (l.take k) (zn, zv) := by
  rw [← h, List.drop_eq_getElem_cons hk, Lab.chk, hz, if_neg h0]
theorem check_few {l : List Pr} (h : l.length ≤ 8) : Lab.check l = Lab.chk [] l := if_neg (by omega)
theorem check_many {l : List Pr} (h : 8 < l.length) : Lab.check l = 6 := if_pos h
theorem stop_3 {l : List Pr} {k : Nat} {zn zv : ByteArray} (h8 : l.length ≤ 8) (hk : k < l.length) (hz : l[k] = (zn, zv)) (h : Lab.chk (l.take k) (l.drop k) = Lab.chk [] l) (h1 : Lab.isName zn = false) : (3 : Int) = (Lab.check l : Int) := by
  have e : Lab.chkAt (l.take k) (zn, zv) = 3 := by unfold Lab.chkAt; rw [if_pos h1]
  rw [check_few h8, chk_stop hk hz h (by rw [e]; decide), e]; rfl
theorem stop_7 {l : List Pr} {k : Nat} {zn zv : ByteArray} (h8 : l.length ≤ 8) (hk : k < l.length) (hz : l[k] = (zn, zv)) (h : Lab.chk (l.take k) (l.drop k) = Lab.chk [] l) (h1 : Lab.isName zn = true) (h2 : 40 < zv.size) : (7 : Int) = (Lab.check l : Int) := by
  have e : Lab.chkAt (l.take k) (zn, zv) = 7 := by unfold Lab.chkAt; rw [if_neg (by simp [h1]), if_pos h2]
  rw [check_few h8, chk_stop hk hz h (by rw [e]; decide), e]; rfl
theorem stop_4 {l : List Pr} {k : Nat} {zn zv : ByteArray} (h8 : l.length ≤ 8) (hk : k < l.length) (hz : l[k] = (zn, zv)) (h : Lab.chk (l.take k) (l.drop k) = Lab.chk [] l) (h1 : Lab.isName zn = true) (h2 : zv.size ≤ 40) (h3 : Lab.has (l.take k) zn = true) : (4 : Int) = (Lab.check l : Int) := by
  have e : Lab.chkAt (l.take k) (zn, zv) = 4 := by unfold Lab.chkAt; rw [if_neg (by simp [h1]), if_neg (by simp; omega), if_pos h3]
  rw [check_few h8, chk_stop hk hz h (by rw [e]; decide), e]; rfl
theorem stop_0 {l : List Pr} {k : Nat} (h8 : l.length ≤ 8) (hk : ¬ k < l.length) (h : Lab.chk (l.take k) (l.drop k) = Lab.chk [] l) : (0 : Int) = (Lab.check l : Int) := by
  rw [check_few h8, ← h, List.drop_eq_nil_of_le (by omega)]; rfl

theorem hasName_take (a : Option Addr) (cap k : Nat) (l : List Pr) (n : ByteArray) (w : World) (hp : PairsAt w a l) (hl : l.length ≤ 9223372036854775807) (hk : k ≤ l.length) :
    Calls Try.prog 68 #[.slice a k cap, .string n] w fun e w' => e = .returned (.bool (Lab.has (l.take k) n)) ∧ Below w.heap.size w w' := by
  have := hasName_any a cap (l.take k) n w (hp.take k) (by simp; omega)
  rwa [List.length_take, Nat.min_eq_left hk] at this

set_option maxRecDepth 100000 in
set_option maxHeartbeats 1600000 in
theorem check_any (a : Option Addr) (cap : Nat) (l : List Pr) (w : World) (hp : PairsAt w a l) (hl : l.length ≤ 9223372036854775807) (hcap : l.length ≤ cap) (hs : ∀ p ∈ l, p.1.size ≤ 9223372036854775807 ∧ p.2.size ≤ 9223372036854775807) :
    Calls Try.prog 41 #[.slice a l.length cap] w fun e w' => e = .returned (.int .i64 (Lab.check l : Int)) ∧ Below w.heap.size w w' := by
  have HP := hide hp
  have HS := hide hs
  clear hp hs
  by_cases h8 : 8 < l.length
  · go_enter Try.func41, Try.ntmps41
    go_wp2
    go_ret
    exact ⟨ret_i (by rw [check_many h8]; rfl), Below.refl _ _⟩
  have h8' : l.length ≤ 8 := by omega
  go_enter Try.func41, Try.ntmps41
  go_wp2
  go_loopw [10] (fun i wr => ∃ k : Nat, k ≤ l.length ∧ i = .int .i64 (k : Int) ∧ Lab.chk (l.take k) (l.drop k) = Lab.chk [] l ∧ Below w.heap.size w wr)
    (fun i _ => l.length - (intOf i).toNat)
  case atStart => exact ⟨0, Nat.zero_le _, rfl, rfl, Below.refl _ _⟩
  case round =>
    obtain ⟨k, hk, rfl, hno, hnx⟩ := hrel
    have HN := hide hno
    clear hno
    have hsz := hnx.size
    by_cases hlt : k < l.length
    · obtain ⟨b, off, zn, zv, rfl, hbl, hz, hc1, hc2⟩ := (unhide HP).get hnx hlt
      have hsm := unhide HS l[k] (List.getElem_mem hlt)
      rw [hz] at hsm
      obtain ⟨hs1, hs2⟩ := hsm
      have HZ := hide hz
      clear hz
      have hal := hnx.alloc hsz (Obj.cells #[.string zn, .string zv] 53)
      cases hN : Lab.isName zn with
      | false =>
        go_wp2_with fail
        refine (name_any _ _ hs1).mono ?_
        rintro e w1 ⟨rfl, rfl⟩
        go_wp2
        go_ret
        exact ⟨ret_i (stop_3 h8' hlt (unhide HZ) (unhide HN) hN), hal⟩
      | true =>
        by_cases h40 : 40 < zv.size
        · go_wp2_with fail
          refine (name_any _ _ hs1).mono ?_
          rintro e w1 ⟨rfl, rfl⟩
          go_wp2
          go_ret
          exact ⟨ret_i (stop_7 h8' hlt (unhide HZ) (unhide HN) hN h40), hal⟩
        · go_wp2_with fail
          refine (name_any _ _ hs1).mono ?_
          rintro e w1 ⟨rfl, rfl⟩
          have hB : ∃ q, Lab.has (l.take k) zn = q := ⟨_, rfl⟩
          obtain ⟨q, hq⟩ := hB
          have HC := hide (fun wx (hb : Below w.heap.size w wx) => hasName_take (some ⟨b, off, none⟩) cap k l zn wx ((unhide HP).below hb) hl hk)
          rw [hq] at HC
          have HQ := hide hq
          clear hq
          have hkl : (k : Int) ≤ (cap : Int) := by omega
          go_wp2_with fail
          go_cut [25] (fun t wc => t = .bool q ∧ Below w.heap.size w wc)
          case first =>
            go_region_with (go_at_call 68; refine (HC.out _ hal.drew).mono ?_; rintro e w1 ⟨rfl, hb1⟩)
            all_goals
              have hbz := bl hal.drew (by assumption)
              go_wp2_with fail
              go_meet
              case rel => exact ⟨rfl, hbz⟩
          case rest =>
            obtain ⟨rfl, hbz⟩ := hcut
            cases q with
            | true =>
              go_wp2
              go_ret
              exact ⟨ret_i (stop_4 h8' hlt (unhide HZ) (unhide HN) hN (by omega) (unhide HQ)), hbz⟩
            | false =>
              go_wp2
              go_roundw
              case rel => exact ⟨k + 1, by omega, by go_num, chk_step hlt (unhide HZ) (unhide HN) hN (by omega) (unhide HQ), hbz⟩
              case measure => simp [intOf]; omega
    · go_wp2
      go_ret
      exact ⟨ret_i (stop_0 h8' hlt (unhide HN)), hnx⟩

end Go.Proofs.Ytbjcphefaciihaa
