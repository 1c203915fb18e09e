/-
  A name that may be swapped; a name that ends so.
-/
import Derived.Test.YtleomppgkikhnaaGreatDskNameW
import Derived.Test.YtleomppgkikhnaaGreatPlain
namespace Go.Proofs.YtleomppgkikhnaaGreat
open Go.RowKit
open Dsk (By Dk)

theorem ends_no {n : ByteArray} (h : n.size = 0) : Dsk.endsT n = false := by
  unfold Dsk.endsT
  have : n.data.toList = [] := by
    apply List.eq_nil_of_length_eq_zero
    simpa using h
  rw [this]
  rfl
theorem ends_last {n : ByteArray} {k : Nat} (h : n.size = k + 1) : ((n.extract k (k + 1)).toList == [126]) = Dsk.endsT n := by
  have hl : n.data.toList.length = k + 1 := by simpa using h
  have hk : k < n.data.toList.length := by omega
  have e1 : n.extract k (k + 1) = ⟨#[n.data.toList[k]]⟩ := by
    apply ByteArray.ext
    rw [ByteArray.data_extract]
    apply Array.ext'
    rw [Array.toList_extract]
    show (n.data.toList.drop k).take (k + 1 - k) = _
    rw [Nat.add_sub_cancel_left, List.drop_eq_getElem_cons hk]
    rfl
  have e2 : n.data.toList.getLast? = some n.data.toList[k] := by
    rw [List.getLast?_eq_getElem?, hl, Nat.add_sub_cancel, List.getElem?_eq_getElem hk]
  have e3 : ([126] : List UInt8) = (⟨#[126]⟩ : ByteArray).toList := by first | rfl | (simp; done) | (simp [go_sem]; done)
  unfold Dsk.endsT
  rw [e3, Lab.eqB, e1, e2]
  generalize n.data.toList[k] = b
  refine decide_eq_decide.2 ⟨fun e => ?_, fun e => ?_⟩
  · have := congrArg (fun x => x.data.toList) e
    simpa using this
  · simp at e
    rw [e]
set_option maxRecDepth 100000 in
set_option maxHeartbeats 800000 in
theorem suffix_any (n : ByteArray) (w : World) (hs : n.size ≤ 9223372036854775807) :
    Calls Tryz.prog 86 #[.string n, .string ⟨#[126]⟩] w fun e w' => e = .returned (.bool (Dsk.endsT n)) ∧ w' = w := by
  by_cases h0 : n.size = 0
  · have HE := hide (ends_no h0)
    go_enter Tryz.func86, Tryz.ntmps86
    go_wp2
    go_ret
    exact ⟨ret_bool HE.out.symm, rfl⟩
  · obtain ⟨k, hk⟩ : ∃ k, n.size = k + 1 := ⟨n.size - 1, by omega⟩
    have HE := hide (ends_last hk)
    have hki : ((n.size : Nat) : Int) = (k : Int) + 1 := by omega
    have HK := hide hk
    go_enter Tryz.func86, Tryz.ntmps86
    go_wp2
    go_ret
    exact ⟨ret_bool HE.out, rfl⟩
theorem hasSuffix_any (n : ByteArray) (w : World) (hs : n.size ≤ 9223372036854775807) :
    Calls Tryz.prog 54 #[.string n, .string ⟨#[126]⟩] w fun e w' => e = .returned (.bool (Dsk.endsT n)) ∧ w' = w := by
  go_enter Tryz.func54, Tryz.ntmps54
  go_wp2_with fail
  refine (suffix_any n w hs).mono ?_
  rintro e w1 ⟨rfl, hw⟩
  rw [hw]
  go_wp2
  go_ret
  exact ⟨rfl, rfl⟩
theorem maySwap_no {s : ByteArray} (h : Dsk.isName s = false) : Dsk.maySwap s = false := by unfold Dsk.maySwap; rw [h]; rfl
theorem maySwap_long {s : ByteArray} (h : 23 < s.size) : Dsk.maySwap s = false := by
  unfold Dsk.maySwap
  rw [decide_eq_false (by omega)]
  simp
theorem maySwap_ends {s : ByteArray} (h : Dsk.endsT s = true) : Dsk.maySwap s = false := by
  unfold Dsk.maySwap
  rw [h]
  simp
theorem maySwap_yes {s : ByteArray} (h1 : Dsk.isName s = true) (h2 : s.size ≤ 23) (h3 : Dsk.endsT s = false) : Dsk.maySwap s = true := Dsk.maySwap_iff.2 ⟨h1, h2, h3⟩

set_option maxRecDepth 100000 in
set_option maxHeartbeats 1600000 in
theorem maySwap_any (s : ByteArray) (w : World) (hs : s.size ≤ 9223372036854775807) :
    Calls Tryz.prog 38 #[.string s] w fun e w' => e = .returned (.bool (Dsk.maySwap s)) ∧ w' = w := by
  by_cases h0 : s.size = 0
  · have HE := hide (maySwap_no (isName_long (.inl h0)))
    have h0' : ((s.size : Int) == 0) = true := by simp [h0]
    go_enter Tryz.func38, Tryz.ntmps38
    go_wp2
    go_ret
    exact ⟨ret_bool HE.out.symm, rfl⟩
  have h0' : ((s.size : Int) == 0) = false := beq_eq_false_iff_ne.2 (by omega)
  by_cases h23 : 23 < s.size
  · have HE := hide (maySwap_long h23)
    go_enter Tryz.func38, Tryz.ntmps38
    go_wp2
    go_ret
    exact ⟨ret_bool HE.out.symm, rfl⟩
  cases het : Dsk.endsT s with
  | true =>
    have HE := hide (maySwap_ends het)
    have HT := hide het
    clear het
    go_enter Tryz.func38, Tryz.ntmps38
    go_wp2_with fail
    refine (hasSuffix_any s _ hs).mono ?_
    rintro e w1 ⟨rfl, hw⟩
    rw [hw, HT.out]
    go_wp2
    go_ret
    exact ⟨ret_bool HE.out.symm, rfl⟩
  | false =>
    have HT := hide het
    clear het
    go_enter Tryz.func38, Tryz.ntmps38
    go_wp2_with fail
    refine (hasSuffix_any s _ hs).mono ?_
    rintro e w1 ⟨rfl, hw⟩
    rw [hw, HT.out]
    clear hw
    go_wp2

    go_loopw [18] (fun i wr => ∃ k : Nat, k ≤ s.size ∧ i = .int .i64 (k : Int) ∧ Hid (∀ b ∈ s.data.toList.take k, okB b) ∧ wr = w)
      (fun i _ => s.size - (intOf i).toNat)
    case atStart => exact ⟨0, Nat.zero_le _, rfl, hide (by simp), rfl⟩
    case round =>
      obtain ⟨k, hk, rfl, HO, rfl⟩ := hrel
      by_cases hlt : k < s.size
      · have hb : (s[k]).toNat < 256 := (s[k]).toNat_lt
        by_cases h1 : (s[k]).toNat < 33
        · have HE := hide (maySwap_no (isName_no hlt (fun x => by have := x.1; omega)))
          go_wp2
          go_ret
          exact ⟨ret_bool HE.out.symm, rfl⟩
        by_cases h2 : 126 < (s[k]).toNat
        · have HE := hide (maySwap_no (isName_no hlt (fun x => by have := x.2; omega)))
          go_wp2
          go_ret
          exact ⟨ret_bool HE.out.symm, rfl⟩
        have HN := hide (okB_next hlt HO.out (by omega) (by omega))
        go_wp2
        go_roundw
        case rel => exact ⟨k + 1, by omega, by go_num, HN, trivial⟩
        case measure => simp [intOf]; omega
      · obtain rfl : k = s.size := by omega
        have HE := hide (maySwap_yes (isName_yes (by omega) (by omega) HO.out) (by omega) HT.out)
        go_wp2
        go_ret
        exact ⟨ret_bool HE.out.symm, rfl⟩

end Go.Proofs.YtleomppgkikhnaaGreat
