/-
  What num.TakeInt and num.TakeText do: for every text, and every bound.
-/
import Derived.Test.YtjbdofjheeljkaaTakeW
import Derived.BigQuiet
namespace Go.Proofs.Ytjbdofjheeljkaa
open Go.RowKit

theorem take_none (s : ByteArray) (w : World) (hs : s.size ≤ maxLen) (h : Num.take s.data.toList = none) :
    Calls Try.prog 96 #[.string s] w fun e w' => e = .returned (.tuple #[.int .u64 0, .string ⟨#[]⟩, .int .i64 2]) ∧ Below w.heap.size w w' := by
  have := take_any s w hs
  rwa [takeV, h] at this
theorem take_some (s : ByteArray) (w : World) (hs : s.size ≤ maxLen) {n : Nat} {r : List UInt8} (h : Num.take s.data.toList = some (n, r)) :
    Calls Try.prog 96 #[.string s] w fun e w' => e = .returned (.tuple #[.int .u64 (n : Int), .string (Num.bs r), .int .i64 0]) ∧ Below w.heap.size w w' := by
  have := take_any s w hs
  rwa [takeV, h] at this

def takeIntV (l : List UInt8) : Value :=
  match Num.take l with
  | none => .tuple #[.int .i64 0, .string ⟨#[]⟩, .int .i64 2]
  | some (n, r) => .tuple #[.int .i64 (Num.zag n), .string (Num.bs r), .int .i64 0]

theorem takeIntV_some {l r : List UInt8} {n : Nat} {N : Int} (h : Num.take l = some (n, r)) (hn : N = Num.zag n) : Ending.returned (.tuple #[.int .i64 N, .string (Num.bs r), .int .i64 0]) = .returned (takeIntV l) := by rw [takeIntV, h, hn]
theorem takeIntV_none {l : List UInt8} (h : Num.take l = none) : Ending.returned (.tuple #[.int .i64 0, .string ⟨#[]⟩, .int .i64 2]) = .returned (takeIntV l) := by rw [takeIntV, h]

def mostOf (most : Int) : Int := if most < 0 then 0 else most
def takeTextV (l : List UInt8) (most : Int) : Value :=
  match Num.take l with
  | none => .tuple #[.string ⟨#[]⟩, .string ⟨#[]⟩, .int .i64 2]
  | some (n, r) => if mostOf most < (n : Int) then .tuple #[.string ⟨#[]⟩, .string ⟨#[]⟩, .int .i64 7] else if r.length < n then .tuple #[.string ⟨#[]⟩, .string ⟨#[]⟩, .int .i64 2]
      else .tuple #[.string (Num.bs (r.take n)), .string (Num.bs (r.drop n)), .int .i64 0]

theorem take_len {l r : List UInt8} {n : Nat} (h : Num.take l = some (n, r)) : r.length ≤ l.length := by
  rw [(Num.of_take h).1]; simp

theorem takeTextV_none {l : List UInt8} {most : Int} (h : Num.take l = none) : Ending.returned (.tuple #[.string ⟨#[]⟩, .string ⟨#[]⟩, .int .i64 2]) = .returned (takeTextV l most) := by rw [takeTextV, h]
theorem takeTextV_long {l r : List UInt8} {n : Nat} {most : Int} (h : Num.take l = some (n, r)) (c : mostOf most < (n : Int)) : Ending.returned (.tuple #[.string ⟨#[]⟩, .string ⟨#[]⟩, .int .i64 7]) = .returned (takeTextV l most) := by
  rw [takeTextV, h]; simp only []; rw [if_pos c]
theorem takeTextV_short {l r : List UInt8} {n : Nat} {most : Int} (h : Num.take l = some (n, r)) (c : ¬ mostOf most < (n : Int)) (d : r.length < n) : Ending.returned (.tuple #[.string ⟨#[]⟩, .string ⟨#[]⟩, .int .i64 2]) = .returned (takeTextV l most) := by
  rw [takeTextV, h]; simp only []; rw [if_neg c, if_pos d]
theorem takeTextV_some {l r : List UInt8} {n : Nat} {most : Int} {x y : ByteArray} (h : Num.take l = some (n, r)) (c : ¬ mostOf most < (n : Int)) (d : ¬ r.length < n) (hx : x = Num.bs (r.take n)) (hy : y = Num.bs (r.drop n)) :
    Ending.returned (.tuple #[.string x, .string y, .int .i64 0]) = .returned (takeTextV l most) := by
  rw [takeTextV, h, hx, hy]; simp only []; rw [if_neg c, if_neg d]

theorem bs_front (r : List UInt8) (n : Nat) : (Num.bs r).extract 0 n = Num.bs (r.take n) := by
  apply ByteArray.ext
  apply Array.ext'
  simp [Num.bs]
theorem bs_back (r : List UInt8) (n : Nat) : (Num.bs r).extract n r.length = Num.bs (r.drop n) := by
  have h := extract_bs (Num.bs r) n
  rw [Num.bs_size] at h
  exact h

set_option maxRecDepth 100000 in
set_option maxHeartbeats 800000 in
theorem takeText_any (s : ByteArray) (most : Int) (w : World) (hs : s.size ≤ maxLen) (h0 : -9223372036854775808 ≤ most) (h1 : most ≤ 9223372036854775807) :
    Calls Try.prog 97 #[.string s, .int .i64 most] w fun e w' => e = .returned (takeTextV s.data.toList most) ∧ Below w.heap.size w w' := by
  cases h : Num.take s.data.toList with
  | none =>
    have H : Hid (Num.take s.data.toList = none) := h
    clear h
    go_enter Try.func97, Try.ntmps97
    go_wp2_with fail
    refine (take_none _ _ hs H.out).mono ?_
    rintro e w1 ⟨rfl, hb⟩
    go_wp2
    go_ret3
    exact ⟨takeTextV_none H.out, hb⟩
  | some p =>
    obtain ⟨n, r⟩ := p
    have hn := Num.take_lt h
    have hrl : r.length ≤ 9223372036854775807 := Nat.le_trans (take_len h) (by unfold maxLen at hs; simpa using hs)
    have hbs := Num.bs_size r
    have H : Hid (Num.take s.data.toList = some (n, r)) := h
    have hmo : most < 0 → mostOf most = 0 := fun c => by rw [mostOf, if_pos c]
    have hmo' : ¬ most < 0 → mostOf most = most := fun c => by rw [mostOf, if_neg c]
    clear h
    by_cases c1 : mostOf most < (n : Int)
    · by_cases hm : most < 0
      · have c2 : 0 < n := by rw [hmo hm] at c1; omega
        have C1 : Hid (mostOf most < (n : Int)) := c1
        clear c1 hmo hmo'
        go_enter Try.func97, Try.ntmps97
        go_wp2_with fail
        refine (take_some _ _ hs H.out).mono ?_
        rintro e w1 ⟨rfl, hb⟩
        go_wp2
        go_ret3
        exact ⟨takeTextV_long H.out C1.out, hb⟩
      · have c2 : most < (n : Int) := by rw [hmo' hm] at c1; omega
        have C1 : Hid (mostOf most < (n : Int)) := c1
        clear c1 hmo hmo'
        go_enter Try.func97, Try.ntmps97
        go_wp2_with fail
        refine (take_some _ _ hs H.out).mono ?_
        rintro e w1 ⟨rfl, hb⟩
        go_wp2
        go_ret3
        exact ⟨takeTextV_long H.out C1.out, hb⟩
    · have C1 : Hid (¬ mostOf most < (n : Int)) := c1
      have c2 : most < 0 → n = 0 := fun c => by rw [hmo c] at c1; omega
      have c3 : ¬ most < 0 → (n : Int) ≤ most := fun c => by rw [hmo' c] at c1; omega
      clear c1 hmo hmo'
      by_cases hm : most < 0
      · obtain rfl : n = 0 := c2 hm
        clear c2 c3
        go_enter Try.func97, Try.ntmps97
        go_wp2_with fail
        refine (take_some _ _ hs H.out).mono ?_
        rintro e w1 ⟨rfl, hb⟩
        go_wp2
        go_region
        all_goals
          go_wp2
          go_ret3
          exact ⟨takeTextV_some H.out (by have := C1.out; omega) (by omega) (by first | exact bs_front r _ | rfl) (by first | exact bs_back r _ | simp), by first | exact hb | exact hb.drew⟩
      · have c4 := c3 hm
        clear c2 c3
        by_cases d : r.length < n
        · go_enter Try.func97, Try.ntmps97
          go_wp2_with fail
          refine (take_some _ _ hs H.out).mono ?_
          rintro e w1 ⟨rfl, hb⟩
          go_wp2
          go_ret3
          exact ⟨takeTextV_short H.out (by have := C1.out; omega) d, hb⟩
        · go_enter Try.func97, Try.ntmps97
          go_wp2_with fail
          refine (take_some _ _ hs H.out).mono ?_
          rintro e w1 ⟨rfl, hb⟩
          go_wp2
          go_region
          all_goals
            go_wp2
            go_ret3
            exact ⟨takeTextV_some H.out (by have := C1.out; omega) (by omega) (by first | exact bs_front r _ | rfl) (by first | exact bs_back r _ | simp), by first | exact hb | exact hb.drew⟩
end Go.Proofs.Ytjbdofjheeljkaa
