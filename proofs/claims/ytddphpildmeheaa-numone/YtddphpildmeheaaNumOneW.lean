/-
  The walk of NumOne.
-/
import Derived.Test.YtddphpildmeheaaShownW
import Derived.Test.YtddphpildmeheaaTakeCW
namespace Go.Proofs.Ytddphpildmeheaa
open Go.RowKit

set_option maxRecDepth 100000 in
set_option maxHeartbeats 1600000 in
theorem walkNumOne (s : ByteArray) (w : World) (hs : s.size ≤ maxLen) :
    Calls Try.prog 6 #[.string s] w fun e w' => e = .returned (.bool true) ∧ Below w.heap.size w w' := by
  by_cases hl : 3000 < s.size
  · go_enter Try.func6, Try.ntmps6
    go_wp2_with fail
    refine (shown_any _).mono ?_
    rintro e w1 ⟨rfl, hb1⟩
    go_wp2
    go_ret
    exact ⟨rfl, hb1⟩
  · cases h : Num.take s.data.toList with
    | none =>
      have H : Hid (Num.take s.data.toList = none) := h
      clear h
      go_enter Try.func6, Try.ntmps6
      go_wp2_with fail
      refine (shown_any _).mono ?_
      rintro e w1 ⟨rfl, hb1⟩
      go_wp2_with fail
      refine (take_none _ _ hs H.out).mono ?_
      rintro e w2 ⟨rfl, hb2⟩
      go_wp2
      go_ret
      exact ⟨rfl, bl hb1 hb2⟩
    | some p =>
      obtain ⟨n, r⟩ := p
      have hn := Num.take_lt h
      have hz := Num.zag_bd hn
      have hj := join_take h
      have H : Hid (Num.take s.data.toList = some (n, r)) := h
      have hrs : (Num.bs r).size ≤ 3000 := by
        have := take_len h
        rw [Num.bs_size]; simp at this; omega
      have hps : (Num.bs (Num.put n)).size ≤ 10 := by rw [Num.bs_size]; exact Num.put_len10 hn
      obtain ⟨hz0, hz1⟩ := hz
      have HZ : Hid (Num.zig (Num.zag n) = n) := Num.zig_zag n
      clear h
      go_enter Try.func6, Try.ntmps6
      go_wp2_with fail
      refine (shown_any _).mono ?_
      rintro e w1 ⟨rfl, hb1⟩
      go_wp2_with fail
      refine (take_some _ _ hs H.out).mono ?_
      rintro e w2 ⟨rfl, hb2⟩
      go_wp2_with fail
      refine (takeInt_some _ _ hs H.out).mono ?_
      rintro e w3 ⟨rfl, hb3⟩
      go_wp2_with fail
      refine (put_any n _ hn).mono ?_
      rintro e w4 ⟨rfl, hb4⟩
      go_wp2_with fail
      refine (putInt_any _ _ hz0 hz1).mono ?_
      rw [HZ.out]
      rintro e w5 ⟨rfl, hb5⟩
      go_wp2_with fail
      by_cases c : mostOf (s.size : Int) < (n : Int)
      · refine (takeText_long s _ _ hs (by omega) (by omega) H.out c).mono ?_
        rintro e w6 ⟨rfl, hb6⟩
        clear c
        go_wp2
        go_ret
        exact ⟨rfl, bl (bl (bl (bl (bl hb1 hb2) hb3) hb4) hb5) hb6⟩
      · by_cases d : r.length < n
        · refine (takeText_short s _ _ hs (by omega) (by omega) H.out c d).mono ?_
          rintro e w6 ⟨rfl, hb6⟩
          clear c d
          go_wp2
          go_ret
          exact ⟨rfl, bl (bl (bl (bl (bl hb1 hb2) hb3) hb4) hb5) hb6⟩
        · refine (takeText_some s _ _ hs (by omega) (by omega) H.out c d).mono ?_
          rintro e w6 ⟨rfl, hb6⟩
          have hlen : (r.take n).length = n := by simp; omega
          have hj2 : Num.bs (Num.put n ++ r.take n) ++ Num.bs (r.drop n) = s := by
            rw [bs_append, Num.bs_toList, List.append_assoc, List.take_append_drop, ← (Num.of_take H.out).1, Num.bs_of]
          have hsz1 : (Num.bs (Num.put n ++ r.take n)).size ≤ 4000 := by
            rw [Num.bs_size]
            rw [Num.bs_size] at hrs
            have := Num.put_len10 hn
            simp; omega
          have hsz2 : (Num.bs (r.drop n)).size ≤ 4000 := by
            rw [Num.bs_size]
            rw [Num.bs_size] at hrs
            simp; omega
          have hsz3 : (Num.bs (r.take n)).size = n := by rw [Num.bs_size, hlen]
          have hn4 : n ≤ 4000 := by
            rw [Num.bs_size] at hrs
            omega
          have HL : Hid ((r.take n).length = n) := hlen
          clear c d hlen
          go_wp2_with fail
          refine (putText_bs _ _ (by rw [HL.out]; omega)).mono ?_
          rw [HL.out]
          rintro e w7 ⟨rfl, hb7⟩
          go_wp2
          go_ret
          exact ⟨rfl, bl (bl (bl (bl (bl (bl hb1 hb2) hb3) hb4) hb5) hb6) hb7⟩

end Go.Proofs.Ytddphpildmeheaa
