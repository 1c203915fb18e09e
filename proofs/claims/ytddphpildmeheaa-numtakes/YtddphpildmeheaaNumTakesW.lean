/-
  The walk of NumTakes.
-/
import Derived.Test.YtddphpildmeheaaShownW
import Derived.Test.YtddphpildmeheaaRefTakeTW
namespace Go.Proofs.Ytddphpildmeheaa
open Go.RowKit

theorem tuple3 {a b c : Value} {v : Value} (h : v = .tuple #[a, b, c]) : v = .tuple #[a, b, c] := h

/-- What is returned by Take, TakeInt and TakeText is three values of their kinds. -/
theorem takeV_form (l : List UInt8) : ∃ (n : Int) (t : ByteArray) (e : Int), takeV l = .tuple #[.int .u64 n, .string t, .int .i64 e] := by
  unfold takeV
  cases Num.take l with
  | none => exact ⟨_, _, _, rfl⟩
  | some p => exact ⟨_, _, _, rfl⟩
theorem takeIntV_form (l : List UInt8) : ∃ (n : Int) (t : ByteArray) (e : Int), takeIntV l = .tuple #[.int .i64 n, .string t, .int .i64 e] := by
  unfold takeIntV
  cases Num.take l with
  | none => exact ⟨_, _, _, rfl⟩
  | some p => exact ⟨_, _, _, rfl⟩
theorem takeTextV_form (l : List UInt8) (m : Int) : ∃ (x t : ByteArray) (e : Int), takeTextV l m = .tuple #[.string x, .string t, .int .i64 e] := by
  unfold takeTextV
  cases Num.take l with
  | none => exact ⟨_, _, _, rfl⟩
  | some p =>
    simp only []
    split
    · exact ⟨_, _, _, rfl⟩
    · split <;> exact ⟨_, _, _, rfl⟩

set_option maxRecDepth 100000 in
set_option maxHeartbeats 1600000 in
theorem walkNumTakes (s : ByteArray) (most : Int) (w : World) (hs : s.size ≤ maxLen) (hm : -9223372036854775808 ≤ most ∧ most ≤ 9223372036854775807) :
    Calls Try.prog 3 #[.string s, .int .i64 most] w fun e w' => e = .returned (.bool true) ∧ Below w.heap.size w w' := by
  obtain ⟨hm0, hm1⟩ := hm
  by_cases hl : 3000 < s.size
  · go_enter Try.func3, Try.ntmps3
    go_wp2_with fail
    refine (shown_any _).mono ?_
    rintro e w1 ⟨rfl, hb1⟩
    go_wp2
    go_ret
    exact ⟨rfl, hb1⟩
  · obtain ⟨n1, t1, e1, h1⟩ := takeV_form s.data.toList
    obtain ⟨n2, t2, e2, h2⟩ := takeIntV_form s.data.toList
    obtain ⟨x3, t3, e3, h3⟩ := takeTextV_form s.data.toList most
    have H1 := hide h1
    have H2 := hide h2
    have H3 := hide h3
    clear h1 h2 h3
    go_enter Try.func3, Try.ntmps3
    go_wp2_with fail
    refine (shown_any _).mono ?_
    rintro e w1 ⟨rfl, hb1⟩
    go_wp2_with fail
    refine (take_any s _ hs).mono ?_
    rw [unhide H1]
    rintro e w2 ⟨rfl, hb2⟩
    go_wp2_with fail
    refine (refTake_any s _ hs).mono ?_
    rw [unhide H1]
    rintro e w3 ⟨rfl, hb3⟩
    go_wp2_with fail
    refine (takeInt_any s _ hs).mono ?_
    rw [unhide H2]
    rintro e w4 ⟨rfl, hb4⟩
    go_wp2_with fail
    refine (refTakeInt_any s _ hs).mono ?_
    rw [unhide H2]
    rintro e w5 ⟨rfl, hb5⟩
    go_wp2_with fail
    refine (takeText_any s most _ hs hm0 hm1).mono ?_
    rw [unhide H3]
    rintro e w6 ⟨rfl, hb6⟩
    go_wp2_with fail
    refine (refTakeText_any s most _ hs hm0 hm1).mono ?_
    rw [unhide H3]
    rintro e w7 ⟨rfl, hb7⟩
    have hbb := bl (bl (bl (bl (bl (bl hb1 hb2) hb3) hb4) hb5) hb6) hb7
    clear hb1 hb2 hb3 hb4 hb5 hb6 hb7
    go_wp2
    go_ret
    exact ⟨rfl, hbb⟩
end Go.Proofs.Ytddphpildmeheaa
