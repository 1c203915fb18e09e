/-
  Between, the document's own Between.
-/
import Derived.Test.YtbjcphefaciihaaSmpCheckW
namespace Go.Proofs.Ytbjcphefaciihaa
open Go.RowKit
open Smp (Sm)

theorem bet_yes {ss : List Sm} {k : Nat} {f t x v : Int} (hk : k < ss.length) (hz : ss[k] = (x, v)) (h1 : f ≤ x) (h2 : x ≤ t) : Smp.between (ss.take (k + 1)) f t = Smp.between (ss.take k) f t ++ [(x, v)] := by
  rw [List.take_succ_eq_append_getElem hk]
  simp [Smp.between, List.filter_append, hz, Smp.inT, h1, h2]
theorem bet_no {ss : List Sm} {k : Nat} {f t x v : Int} (hk : k < ss.length) (hz : ss[k] = (x, v)) (h : ¬ (f ≤ x ∧ x ≤ t)) : Smp.between (ss.take (k + 1)) f t = Smp.between (ss.take k) f t := by
  rw [List.take_succ_eq_append_getElem hk]
  have : Smp.inT f t (x, v) = false := by
    refine Bool.eq_false_iff.2 fun c => h ?_
    simpa [Smp.inT] using c
  simp [Smp.between, List.filter_append, hz, this]
theorem bet_len (l : List Sm) (f t : Int) : (Smp.between l f t).length ≤ l.length := List.length_filter_le _ _
theorem bet_len_take (l : List Sm) (k : Nat) (f t : Int) : (Smp.between (l.take k) f t).length ≤ l.length := Nat.le_trans (bet_len _ _ _) (by simp; omega)

set_option maxRecDepth 100000 in
set_option maxHeartbeats 1600000 in
theorem between_any (a : Option Addr) (cap : Nat) (ss : List Sm) (f t : Int) (w : World) (hp : SmpsAt w a ss) (hl : ss.length ≤ 1000) :
    Calls Try.prog 46 #[.slice a ss.length cap, .int .u64 f, .int .u64 t] w fun e w' => ∃ v, e = .returned v ∧ OwnS w' w.heap.size v (Smp.between ss f t) ∧ Below w.heap.size w w' := by
  obtain ⟨i0, hi, hz0, hz1, hz2⟩ := info_parts info_smp
  have HP := hide hp
  clear hp
  go_enter Try.func46, Try.ntmps46
  go_wp2
  go_loopw [12, 7] (fun i v wr => ∃ k : Nat, k ≤ ss.length ∧ i = .int .i64 (k : Int) ∧ OwnS wr w.heap.size v (Smp.between (ss.take k) f t) ∧ Below w.heap.size w wr)
    (fun i _ _ => ss.length - (intOf i).toNat)
  case atStart => exact ⟨0, Nat.zero_le _, rfl, OwnS.nil _ _, Below.refl _ _⟩
  case round =>
    obtain ⟨k, hk, rfl, hown, hnx⟩ := hrel
    have hsz := hnx.size
    have hbl := bet_len_take ss k f t
    by_cases hlt : k < ss.length
    · obtain ⟨b, off, x, v, rfl, hbl', hz, c1, c2⟩ := HP.out.get hnx hlt
      have hki : (k : Int) < (ss.length : Int) := by omega
      have hal := hnx.alloc hsz (Obj.cells #[.int .u64 x, .int .i64 v] 67)
      have hown1 := hown.alloc (Obj.cells #[.int .u64 x, .int .i64 v] 67)
      by_cases h1 : f ≤ x
      · by_cases h2 : x ≤ t
        · have HN := hide (bet_yes hlt hz h1 h2)
          generalize Smp.between (ss.take k) f t = o at *
          unfold OwnS at hown1
          have hszz := hal.size
          simp at hszz
          clear hz hown
          go_wp2_with (at_builtin; refine wpList_append_own _ rfl _ _ 23 rfl w.heap.size 67 i0 _ 2 16 Try.underlying23 hi hz0 hz1 hz2 rfl (by decide) _ _ _ rfl (hown1.alloc _) ⟨wr.heap.size + 1, 0, none⟩ 1 1 [.int .u64 x, .int .i64 v] rfl rfl ?c1 ?c2 ?c3 ?c4 ?c5 ?_)
          case c1 => exact scells_two_at _ _ _ _ _ (by simp)
          case c2 => intro y hy; simp at hy; rcases hy with rfl | rfl <;> rfl
          case c3 => unfold maxLen; omega
          case c4 => omega
          case c5 => simp; omega
          intro v' w7 hown' hgrow _
          have R := owns_step rfl (by simp; omega) (hown1.alloc _) hal hown' hgrow
          clear hown1 hown' hgrow
          go_wp2
          go_roundw
          case rel => exact ⟨k + 1, by omega, by go_num, by rw [HN.out]; exact R.1, R.2⟩
          case measure => simp [intOf]; omega
        · have HN := hide (bet_no (f := f) (t := t) hlt hz (fun c => h2 c.2))
          clear hz
          go_wp2
          go_roundw
          case rel => exact ⟨k + 1, by omega, by go_num, by rw [HN.out]; exact hown1, hal⟩
          case measure => simp [intOf]; omega
      · have HN := hide (bet_no (f := f) (t := t) hlt hz (fun c => h1 c.1))
        clear hz
        go_wp2
        go_roundw
        case rel => exact ⟨k + 1, by omega, by go_num, by rw [HN.out]; exact hown1, hal⟩
        case measure => simp [intOf]; omega
    · rw [List.take_of_length_le (by omega)] at hown
      go_wp2
      go_ret
      exact ⟨_, rfl, hown, hnx⟩
set_option maxRecDepth 100000 in
set_option maxHeartbeats 1600000 in
theorem refBetween_any (a : Option Addr) (cap : Nat) (ss : List Sm) (f t : Int) (w : World) (hp : SmpsAt w a ss) (hl : ss.length ≤ 1000) :
    Calls Try.prog 23 #[.slice a ss.length cap, .int .u64 f, .int .u64 t] w fun e w' => ∃ v, e = .returned v ∧ OwnS w' w.heap.size v (Smp.between ss f t) ∧ Below w.heap.size w w' := by
  obtain ⟨i0, hi, hz0, hz1, hz2⟩ := info_parts info_smp
  have HP := hide hp
  clear hp
  go_enter Try.func23, Try.ntmps23
  go_wp2
  go_loopw [8, 7] (fun i v wr => ∃ k : Nat, k ≤ ss.length ∧ i = .int .i64 (k : Int) ∧ OwnS wr w.heap.size v (Smp.between (ss.take k) f t) ∧ Below w.heap.size w wr)
    (fun i _ _ => ss.length - (intOf i).toNat)
  case atStart => exact ⟨0, Nat.zero_le _, rfl, OwnS.nil _ _, Below.refl _ _⟩
  case round =>
    obtain ⟨k, hk, rfl, hown, hnx⟩ := hrel
    have hsz := hnx.size
    have hbl := bet_len_take ss k f t
    by_cases hlt : k < ss.length
    · obtain ⟨b, off, x, v, rfl, hbl', hz, c1, c2⟩ := HP.out.get hnx hlt
      have hki : (k : Int) < (ss.length : Int) := by omega
      by_cases h1 : f ≤ x
      · by_cases h2 : x ≤ t
        · have HN := hide (bet_yes hlt hz h1 h2)
          generalize Smp.between (ss.take k) f t = o at *
          have hown1 := hown
          unfold OwnS at hown1
          clear hz hown
          go_wp2_with (at_builtin; refine wpList_append_own _ rfl _ _ 23 rfl w.heap.size 67 i0 _ 2 16 Try.underlying23 hi hz0 hz1 hz2 rfl (by decide) _ _ _ rfl (hown1.alloc _) ⟨wr.heap.size, 0, none⟩ 1 1 [.int .u64 x, .int .i64 v] rfl rfl ?c1 ?c2 ?c3 ?c4 ?c5 ?_)
          case c1 => exact scells_two_at _ _ _ _ _ (by simp)
          case c2 => intro y hy; simp at hy; rcases hy with rfl | rfl <;> rfl
          case c3 => unfold maxLen; omega
          case c4 => omega
          case c5 => simp; omega
          intro v' w7 hown' hgrow _
          have R := owns_step rfl hsz (hown1.alloc _) hnx hown' hgrow
          clear hown1 hown' hgrow
          go_wp2
          go_roundw
          case rel => exact ⟨k + 1, by omega, by go_num, by rw [HN.out]; exact R.1, R.2⟩
          case measure => simp [intOf]; omega
        · have HN := hide (bet_no (f := f) (t := t) hlt hz (fun c => h2 c.2))
          clear hz
          go_wp2
          go_roundw
          case rel => exact ⟨k + 1, by omega, by go_num, by rw [HN.out]; exact hown, hnx⟩
          case measure => simp [intOf]; omega
      · have HN := hide (bet_no (f := f) (t := t) hlt hz (fun c => h1 c.1))
        clear hz
        go_wp2
        go_roundw
        case rel => exact ⟨k + 1, by omega, by go_num, by rw [HN.out]; exact hown, hnx⟩
        case measure => simp [intOf]; omega
    · rw [List.take_of_length_le (by omega)] at hown
      go_wp2
      go_ret
      exact ⟨_, rfl, hown, hnx⟩

end Go.Proofs.Ytbjcphefaciihaa
