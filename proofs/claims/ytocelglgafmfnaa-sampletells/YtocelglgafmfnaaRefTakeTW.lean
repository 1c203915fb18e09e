/-
  What the document's own TakeInt and TakeText (postroomref1) do: the same as num's.
-/
import Derived.Test.YtocelglgafmfnaaRefTakeW
namespace Go.Proofs.Ytocelglgafmfnaa
open Go.RowKit

theorem refTake_none (s : ByteArray) (w : World) (hs : s.size ≤ maxLen) (h : Num.take s.data.toList = none) :
    Calls Try.prog 33 #[.string s] w fun e w' => e = .returned (.tuple #[.int .u64 0, .string ⟨#[]⟩, .int .i64 2]) ∧ Below w.heap.size w w' := by
  have := refTake_any s w hs
  rwa [takeV, h] at this
theorem refTake_some (s : ByteArray) (w : World) (hs : s.size ≤ maxLen) {n : Nat} {r : List UInt8} (h : Num.take s.data.toList = some (n, r)) :
    Calls Try.prog 33 #[.string s] w fun e w' => e = .returned (.tuple #[.int .u64 (n : Int), .string (Num.bs r), .int .i64 0]) ∧ Below w.heap.size w w' := by
  have := refTake_any s w hs
  rwa [takeV, h] at this

set_option maxRecDepth 100000 in
set_option maxHeartbeats 800000 in
theorem refTakeInt_any (s : ByteArray) (w : World) (hs : s.size ≤ maxLen) :
    Calls Try.prog 34 #[.string s] w fun e w' => e = .returned (takeIntV s.data.toList) ∧ Below w.heap.size w w' := by
  cases h : Num.take s.data.toList with
  | none =>
    have H : Hid (Num.take s.data.toList = none) := h
    clear h
    go_enter Try.func34, Try.ntmps34
    go_wp2_with fail
    refine (refTake_none _ _ hs H.out).mono ?_
    rintro e w1 ⟨rfl, hb⟩
    go_wp2
    go_ret3
    exact ⟨takeIntV_none H.out, hb⟩
  | some p =>
    obtain ⟨n, r⟩ := p
    have hn := Num.take_lt h
    have H : Hid (Num.take s.data.toList = some (n, r)) := h
    clear h
    by_cases ho : n % 2 = 1
    · have ho' : (((n : Int) % 2) == 0) = false := beq_eq_false_iff_ne.2 (by omega)
      have HZ : Hid (-((n : Int) / 2) - 1 = Num.zag n) := by rw [Hid, Num.zag, if_pos ho]; omega
      clear ho
      go_enter Try.func34, Try.ntmps34
      go_wp2_with fail
      refine (refTake_some _ _ hs H.out).mono ?_
      rintro e w1 ⟨rfl, hb⟩
      go_wp2
      go_ret3
      exact ⟨takeIntV_some H.out HZ.out, hb⟩
    · have ho' : (((n : Int) % 2) == 0) = true := beq_iff_eq.2 (by omega)
      have HZ : Hid (((n : Int) / 2) = Num.zag n) := by rw [Hid, Num.zag, if_neg ho]; omega
      clear ho
      go_enter Try.func34, Try.ntmps34
      go_wp2_with fail
      refine (refTake_some _ _ hs H.out).mono ?_
      rintro e w1 ⟨rfl, hb⟩
      go_wp2
      go_ret3
      exact ⟨takeIntV_some H.out HZ.out, hb⟩

end Go.Proofs.Ytocelglgafmfnaa
