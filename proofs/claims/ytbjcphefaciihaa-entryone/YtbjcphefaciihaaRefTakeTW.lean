/-
  What the document's own TakeInt and TakeText (postroomref1) do: the same as num's.
-/
import Derived.Test.YtbjcphefaciihaaRefTakeW
namespace Go.Proofs.Ytbjcphefaciihaa
open Go.RowKit

theorem refTake_none (s : ByteArray) (w : World) (hs : s.size ≤ maxLen) (h : Num.take s.data.toList = none) :
    Calls Try.prog 64 #[.string s] w fun e w' => e = .returned (.tuple #[.int .u64 0, .string ⟨#[]⟩, .int .i64 2]) ∧ Below w.heap.size w w' := by
  have := refTake_any s w hs
  rwa [takeV, h] at this
theorem refTake_some (s : ByteArray) (w : World) (hs : s.size ≤ maxLen) {n : Nat} {r : List UInt8} (h : Num.take s.data.toList = some (n, r)) :
    Calls Try.prog 64 #[.string s] w fun e w' => e = .returned (.tuple #[.int .u64 (n : Int), .string (Num.bs r), .int .i64 0]) ∧ Below w.heap.size w w' := by
  have := refTake_any s w hs
  rwa [takeV, h] at this

set_option maxRecDepth 100000 in
set_option maxHeartbeats 800000 in
theorem refTakeInt_any (s : ByteArray) (w : World) (hs : s.size ≤ maxLen) :
    Calls Try.prog 66 #[.string s] w fun e w' => e = .returned (takeIntV s.data.toList) ∧ Below w.heap.size w w' := by
  cases h : Num.take s.data.toList with
  | none =>
    have H : Hid (Num.take s.data.toList = none) := h
    clear h
    go_enter Try.func66, Try.ntmps66
    go_wp2_with fail
    refine (refTake_none _ _ hs H.out).mono ?_
    rintro e w1 ⟨rfl, hb⟩
    go_wp2
    go_ret3
    exact ⟨takeIntV_none H.out, hb⟩
  | some p =>
    obtain ⟨n, r⟩ := p
    have hn := Num.take_lt h
    have H : Hid (Num.take s.data.toList = some (n, r)) := h
    clear h
    by_cases ho : n % 2 = 1
    · have ho' : (((n : Int) % 2) == 0) = false := beq_eq_false_iff_ne.2 (by omega)
      have HZ : Hid (-((n : Int) / 2) - 1 = Num.zag n) := by rw [Hid, Num.zag, if_pos ho]; omega
      clear ho
      go_enter Try.func66, Try.ntmps66
      go_wp2_with fail
      refine (refTake_some _ _ hs H.out).mono ?_
      rintro e w1 ⟨rfl, hb⟩
      go_wp2
      go_ret3
      exact ⟨takeIntV_some H.out HZ.out, hb⟩
    · have ho' : (((n : Int) % 2) == 0) = true := beq_iff_eq.2 (by omega)
      have HZ : Hid (((n : Int) / 2) = Num.zag n) := by rw [Hid, Num.zag, if_neg ho]; omega
      clear ho
      go_enter Try.func66, Try.ntmps66
      go_wp2_with fail
      refine (refTake_some _ _ hs H.out).mono ?_
      rintro e w1 ⟨rfl, hb⟩
      go_wp2
      go_ret3
      exact ⟨takeIntV_some H.out HZ.out, hb⟩

set_option maxRecDepth 100000 in
set_option maxHeartbeats 800000 in
theorem refTakeText_any (s : ByteArray) (most : Int) (w : World) (hs : s.size ≤ maxLen) (h0 : -9223372036854775808 ≤ most) (h1 : most ≤ 9223372036854775807) :
    Calls Try.prog 65 #[.string s, .int .i64 most] w fun e w' => e = .returned (takeTextV s.data.toList most) ∧ Below w.heap.size w w' := by
  cases h : Num.take s.data.toList with
  | none =>
    have H : Hid (Num.take s.data.toList = none) := h
    clear h
    go_enter Try.func65, Try.ntmps65
    go_wp2_with fail
    refine (refTake_none _ _ hs H.out).mono ?_
    rintro e w1 ⟨rfl, hb⟩
    go_wp2
    go_ret3
    exact ⟨takeTextV_none H.out, hb⟩
  | some p =>
    obtain ⟨n, r⟩ := p
    have hn := Num.take_lt h
    have hrl : r.length ≤ 9223372036854775807 := Nat.le_trans (take_len h) (by unfold maxLen at hs; simpa using hs)
    have hbs := Num.bs_size r
    have H : Hid (Num.take s.data.toList = some (n, r)) := h
    have hmo : most < 0 → mostOf most = 0 := fun c => by rw [mostOf, if_pos c]
    have hmo' : ¬ most < 0 → mostOf most = most := fun c => by rw [mostOf, if_neg c]
    clear h
    by_cases c1 : mostOf most < (n : Int)
    · by_cases hm : most < 0
      · have c2 : 0 < n := by rw [hmo hm] at c1; omega
        have C1 : Hid (mostOf most < (n : Int)) := c1
        clear c1 hmo hmo'
        go_enter Try.func65, Try.ntmps65
        go_wp2_with fail
        refine (refTake_some _ _ hs H.out).mono ?_
        rintro e w1 ⟨rfl, hb⟩
        go_wp2
        go_ret3
        exact ⟨takeTextV_long H.out C1.out, hb⟩
      · have c2 : most < (n : Int) := by rw [hmo' hm] at c1; omega
        have C1 : Hid (mostOf most < (n : Int)) := c1
        clear c1 hmo hmo'
        go_enter Try.func65, Try.ntmps65
        go_wp2_with fail
        refine (refTake_some _ _ hs H.out).mono ?_
        rintro e w1 ⟨rfl, hb⟩
        go_wp2
        go_ret3
        exact ⟨takeTextV_long H.out C1.out, hb⟩
    · have C1 : Hid (¬ mostOf most < (n : Int)) := c1
      have c2 : most < 0 → n = 0 := fun c => by rw [hmo c] at c1; omega
      have c3 : ¬ most < 0 → (n : Int) ≤ most := fun c => by rw [hmo' c] at c1; omega
      clear c1 hmo hmo'
      by_cases hm : most < 0
      · obtain rfl : n = 0 := c2 hm
        clear c2 c3
        go_enter Try.func65, Try.ntmps65
        go_wp2_with fail
        refine (refTake_some _ _ hs H.out).mono ?_
        rintro e w1 ⟨rfl, hb⟩
        go_wp2
        go_region
        all_goals
          go_wp2
          go_ret3
          exact ⟨takeTextV_some H.out (by have := C1.out; omega) (by omega) (by first | exact bs_front r _ | rfl) (by first | exact bs_back r _ | simp), by first | exact hb | exact hb.drew⟩
      · have c4 := c3 hm
        clear c2 c3
        by_cases d : r.length < n
        · go_enter Try.func65, Try.ntmps65
          go_wp2_with fail
          refine (refTake_some _ _ hs H.out).mono ?_
          rintro e w1 ⟨rfl, hb⟩
          go_wp2
          go_ret3
          exact ⟨takeTextV_short H.out (by have := C1.out; omega) d, hb⟩
        · go_enter Try.func65, Try.ntmps65
          go_wp2_with fail
          refine (refTake_some _ _ hs H.out).mono ?_
          rintro e w1 ⟨rfl, hb⟩
          go_wp2
          go_region
          all_goals
            go_wp2
            go_ret3
            exact ⟨takeTextV_some H.out (by have := C1.out; omega) (by omega) (by first | exact bs_front r _ | rfl) (by first | exact bs_back r _ | simp), by first | exact hb | exact hb.drew⟩
end Go.Proofs.Ytbjcphefaciihaa
