/-
  The walk of NumFirst.
-/
import Derived.Test.YtddphpildmeheaaShownW
import Derived.Test.YtddphpildmeheaaTakeCW
import Derived.Deep.RegionWith
namespace Go.Proofs.Ytddphpildmeheaa
open Go.RowKit

theorem ret_i64 {a b : Int} (h : a = b) : Ending.returned (.int .i64 a) = .returned (.int .i64 b) := by rw [h]

set_option maxRecDepth 100000 in
theorem pick_any (c : Int) (n : Nat) (w : World) (hc0 : -9223372036854775808 ≤ c) (hc1 : c ≤ 9223372036854775807) (hn : 0 < n) (hn1 : n ≤ 1000000) :
    Calls Try.prog 23 #[.int .i64 c, .int .i64 (n : Int)] w fun e w' => (∃ r : Nat, e = .returned (.int .i64 (r : Int)) ∧ r < n) ∧ Below w.heap.size w w' := by
  have hz : ((n : Int) == 0) = false := beq_eq_false_iff_ne.2 (by omega)
  by_cases h : c < 0
  · have hm := Int.emod_nonneg (-(c + 1)) (show (n : Int) ≠ 0 by omega)
    have hl := Int.emod_lt_of_pos (-(c + 1)) (show (0 : Int) < n by omega)
    have HM := hide hm
    have HL := hide hl
    clear hm hl
    go_enter Try.func23, Try.ntmps23
    go_wp2
    go_ret
    exact ⟨⟨(-(c + 1) % (n : Int)).toNat, ret_i64 (by rw [Int.toNat_of_nonneg (unhide HM), ← Int.neg_tmod, Int.tmod_eq_emod_of_nonneg (by omega)]), by have := unhide HL; omega⟩, Below.refl _ _⟩
  · have hm := Int.emod_nonneg c (show (n : Int) ≠ 0 by omega)
    have hl := Int.emod_lt_of_pos c (show (0 : Int) < n by omega)
    have HM := hide hm
    have HL := hide hl
    clear hm hl
    go_enter Try.func23, Try.ntmps23
    go_wp2
    go_ret
    exact ⟨⟨(c % (n : Int)).toNat, by rw [Int.toNat_of_nonneg (unhide HM)]; rfl, by have := unhide HL; omega⟩, Below.refl _ _⟩

/-- Cut off, a number's bytes are none. -/
theorem take_cut (n r : Nat) (hn : n < 18446744073709551616) (hr : r < (Num.put n).length) : Num.take ((Num.put n).take r) = none := by
  cases h : Num.take ((Num.put n).take r) with
  | none => rfl
  | some p =>
    obtain ⟨m, x⟩ := p
    obtain ⟨e1, e2⟩ := Num.of_take h
    have e3 : Num.put n ++ [] = Num.put m ++ (x ++ (Num.put n).drop r) := by
      rw [← List.append_assoc, ← e1, List.take_append_drop, List.append_nil]
    have e4 := (Num.put_inj hn e2 e3).2
    have := congrArg List.length e4
    simp at this
    omega

/-- With its last byte going on, too. -/
theorem take_onward (n : Nat) (b : UInt8) (hb : 128 ≤ b.toNat) : Num.take ((Num.put n).take ((Num.put n).length - 1) ++ [b]) = none := by
  have hp := Num.put_pos n
  refine Num.take_on (k := (Num.put n).length) (Or.inl (by simp; omega)) fun i hi hk => ?_
  by_cases h : i = (Num.put n).length - 1
  · subst h
    rw [List.getElem_append_right (by simp)]
    simpa using hb
  · rw [List.getElem_append_left (by simp; omega), List.getElem_take]
    exact (Num.put_form n n (Nat.le_refl _)).1 i (by omega) (by omega)

/-- 'string([]byte{x})'. -/
theorem conv_one (W : World) (x : Int) (v : UInt8) (h : x = (v.toNat : Int)) :
    (convert 39 9 (.slice (some ⟨W.heap.size, 0, none⟩) 1 1)).run Try.prog (W.alloc (.cells #[.int .u8 x] 5)).drew = .ok (.string (Num.bs [v])) (W.alloc (.cells #[.int .u8 x] 5)).drew := by
  refine run_convert_bytes_back (P := Try.prog) (W.alloc (.cells #[.int .u8 x] 5)).drew 39 9 5 ⟨W.heap.size, 0, none⟩ 1 [v] Try.underlying39 Try.underlying5 Try.underlying9 fun j hj => ?_
  have e : (W.alloc (.cells #[.int .u8 x] 5)).drew.cell? ((⟨W.heap.size, 0, none⟩ : Addr).add j) = (W.alloc (.cells #[.int .u8 x] 5)).cell? ((⟨W.heap.size, 0, none⟩ : Addr).add j) := rfl
  obtain rfl : j = 0 := by simp at hj; omega
  rw [e, Addr.add_lit, World.cell?_alloc_mark]
  simp [h]

theorem or_high (b : UInt8) : ∃ v : UInt8, bits .or .u8 (b.toNat : Int) 128 = (v.toNat : Int) ∧ 128 ≤ v.toNat := by
  have hb := b.toNat_lt
  have h1 : b.toNat ||| 128 < 256 := Nat.or_lt_two_pow (n := 8) hb (by decide)
  have h2 : 128 ≤ b.toNat ||| 128 := Nat.right_le_or
  refine ⟨UInt8.ofNat (b.toNat ||| 128), ?_, by rw [Num.ofNat_toNat h1]; exact h2⟩
  rw [Num.ofNat_toNat h1]
  exact u8_or_nat b.toNat 128 hb (by decide)

/-- How many groups are left. -/
def Left (n g m : Nat) : Prop := (m = 0 → g = (Num.put n).length) ∧ (0 < m → g + (Num.put m).length = (Num.put n).length)
theorem left_start (n : Nat) : Left n 1 (n / 128) := by
  by_cases h : n < 128
  · exact ⟨fun _ => by rw [Num.put_lt h]; rfl, fun c => by omega⟩
  · exact ⟨fun c => by omega, fun _ => by rw [Num.put_ge (n := n) (by omega)]; simp; omega⟩
theorem left_step {n g m : Nat} (h : Left n g m) (hm : 0 < m) : Left n (g + 1) (m / 128) := by
  have h2 := h.2 hm
  by_cases c : m < 128
  · rw [Num.put_lt c] at h2
    exact ⟨fun _ => by simpa using h2, fun c => by omega⟩
  · rw [Num.put_ge (by omega)] at h2
    exact ⟨fun c => by omega, fun _ => by simp at h2; omega⟩

set_option maxRecDepth 100000 in
set_option maxHeartbeats 1600000 in
theorem walkNumFirst (a b c : Int) (w : World) (ha : 0 ≤ a ∧ a ≤ 18446744073709551615) (hb : 0 ≤ b ∧ b ≤ 18446744073709551615) (hc : -9223372036854775808 ≤ c ∧ c ≤ 9223372036854775807) :
    Calls Try.prog 7 #[.int .u64 a, .int .u64 b, .int .i64 c] w fun e w' => e = .returned (.bool true) ∧ Below w.heap.size w w' := by
  obtain ⟨ha0, ha1⟩ := ha
  obtain ⟨hb0, hb1⟩ := hb
  obtain ⟨hc0, hc1⟩ := hc
  obtain ⟨n, rfl⟩ := Int.eq_ofNat_of_zero_le ha0
  obtain ⟨m, rfl⟩ := Int.eq_ofNat_of_zero_le hb0
  have hn : n < 18446744073709551616 := by omega
  have hm : m < 18446744073709551616 := by omega
  have h10 := Num.put_len10 hn
  have h10' := Num.put_len10 hm
  have hp := Num.put_pos n
  have hp' := Num.put_pos m
  have sx := Num.bs_size (Num.put n)
  have sy := Num.bs_size (Num.put m)
  go_enter Try.func7, Try.ntmps7
  go_wp2_with fail
  refine (shown_any _).mono ?_
  rintro e w1 ⟨rfl, hb1⟩
  go_wp2_with fail
  refine (put_any _ _ hn).mono ?_
  rintro e w2 ⟨rfl, hb2⟩
  go_wp2_with fail
  refine (put_any _ _ hm).mono ?_
  rintro e w3 ⟨rfl, hb3⟩
  have hbb := bl (bl hb1 hb2) hb3
  clear hb1 hb2 hb3
  go_wp2
  go_loop [10, 11] (fun g x => ∃ (G M : Nat), g = .int .i64 (G : Int) ∧ x = .int .u64 (M : Int) ∧ G ≤ 10 ∧ M ≤ n ∧ Left n G M) (fun _ x => (intOf x).toNat)
  case atStart => exact ⟨1, n / 128, rfl, by go_num, by omega, by omega, left_start n⟩
  case round =>
    obtain ⟨G, M, rfl, rfl, hG, hM, hL⟩ := hrel
    by_cases hM0 : 0 < M
    · have HL := hide (left_step hL hM0)
      have hG9 : G ≤ 9 := by have := hL.2 hM0; have := Num.put_pos M; omega
      clear hL
      go_wp2
      go_round
      case rel => exact ⟨G + 1, M / 128, by go_num, by go_num, by omega, by omega, unhide HL⟩
      case measure => simp [intOf]; omega
    · have hGl : G = (Num.put n).length := hL.1 (by omega)
      have hGt : (((Num.put n).length : Int) != (G : Int)) = false := by rw [hGl]; simp
      clear hL hGl
      obtain ⟨L, hL⟩ : ∃ L, L + 1 = (Num.put n).length := ⟨(Num.put n).length - 1, by omega⟩
      have hw : IntKind.i64.wrap (((Num.put n).length : Int) - 1) = (L : Int) := by rw [IntWalk.i64_in _ ⟨by omega, by omega⟩]; omega
      have k2 : (L : Int) ≤ ((Num.put n).length : Int) := by omega
      have k3 : (L : Int) < ((Num.put n).length : Int) := by omega
      have k4 : L < (Num.put n).length := by omega
      have k5 : L < (Num.bs (Num.put n)).size := by rw [Num.bs_size]; omega
      obtain ⟨v, hv, hv128⟩ := or_high ((Num.bs (Num.put n))[L]'k5)
      have hcv := fun W : World => conv_one W _ v hv
      have hS : (Num.bs [v]).size ≤ 1 := by rw [Num.bs_size]; exact Nat.le_refl _
      have hS2 : ((Num.bs (Num.put n)).extract 0 L).size ≤ 10 := by simp; omega
      have ho : Num.take ((Num.bs (Num.put n)).extract 0 L ++ Num.bs [v]).data.toList = none := by
        rw [bs_front, bs_append, Num.bs_toList, Num.bs_toList, show L = (Num.put n).length - 1 from by omega]
        exact take_onward n v hv128
      have hk : ((Num.bs (Num.put n)).extract 0 L ++ Num.bs [v]).size ≤ maxLen := by
        rw [bs_front, bs_append, Num.bs_size, Num.bs_toList]; unfold maxLen; simp; omega
      have HO := hide ho
      have HK := hide hk
      have HL := hide hL
      clear hL hv ho hk hv128
      by_cases hnm : n = m
      · subst hnm
        have hB : (((Num.bs (Num.put n)).extract 0 (Num.put n).length).toList == (Num.bs (Num.put n)).toList) = true := by
          rw [bs_front, List.take_of_length_le (Nat.le_refl _)]; simp
        clear hm h10' hp' sy
        go_wp2_with fail
        refine (pick_any _ _ _ hc0 hc1 hp (by omega)).mono ?_
        rintro e w4 ⟨⟨r, rfl, hr⟩, hb4⟩
        go_wp2_with fail
        refine (take_none _ _ ?_ ?_).mono ?_
        · rw [bs_front, Num.bs_size]; unfold maxLen; simp; omega
        · rw [bs_front, Num.bs_toList]; exact take_cut n r hn hr
        rintro e w5 ⟨rfl, hb5⟩
        go_wp2_with fail
        go_region_with (go_at_call 11; refine (take_none _ _ (unhide HK) (unhide HO)).mono ?_; rintro e w6 ⟨rfl, hb6⟩)
        have hbz := bl hbb (bl hb4 (bl hb5 (bl (((Below.refl _ _).alloc (Nat.le_refl _) _).drew) (by assumption))))
        clear hb4 hb5 hbb
        go_wp2
        go_ret
        exact ⟨rfl, hbz⟩
      · have hq : ((n : Int) == (m : Int)) = false := beq_eq_false_iff_ne.2 (by omega)
        by_cases hle : (Num.put n).length ≤ (Num.put m).length
        · have hB : (((Num.bs (Num.put m)).extract 0 (Num.put n).length).toList == (Num.bs (Num.put n)).toList) = false := by
            rw [bs_front]
            refine beq_eq_false_iff_ne.2 fun e => hnm ?_
            rw [ByteArray.toList_eq, ByteArray.toList_eq, Num.bs_toList, Num.bs_toList] at e
            have e2 : Num.put m ++ [] = Num.put n ++ (Num.put m).drop (Num.put n).length := by
              have h := List.take_append_drop (Num.put n).length (Num.put m)
              rw [e] at h
              rw [List.append_nil]; exact h.symm
            exact (Num.put_inj hm hn e2).1.symm
          clear hnm
          go_wp2_with fail
          refine (pick_any _ _ _ hc0 hc1 hp (by omega)).mono ?_
          rintro e w4 ⟨⟨r, rfl, hr⟩, hb4⟩
          go_wp2_with fail
          refine (take_none _ _ ?_ ?_).mono ?_
          · rw [bs_front, Num.bs_size]; unfold maxLen; simp; omega
          · rw [bs_front, Num.bs_toList]; exact take_cut n r hn hr
          rintro e w5 ⟨rfl, hb5⟩
          go_wp2_with fail
          go_region_with (go_at_call 11; refine (take_none _ _ (unhide HK) (unhide HO)).mono ?_; rintro e w6 ⟨rfl, hb6⟩)
          have hbz := bl hbb (bl hb4 (bl hb5 (bl (((Below.refl _ _).alloc (Nat.le_refl _) _).drew) (by assumption))))
          clear hb4 hb5 hbb
          go_wp2
          go_ret
          exact ⟨rfl, hbz⟩
        · clear hnm
          go_wp2_with fail
          refine (pick_any _ _ _ hc0 hc1 hp (by omega)).mono ?_
          rintro e w4 ⟨⟨r, rfl, hr⟩, hb4⟩
          go_wp2_with fail
          refine (take_none _ _ ?_ ?_).mono ?_
          · rw [bs_front, Num.bs_size]; unfold maxLen; simp; omega
          · rw [bs_front, Num.bs_toList]; exact take_cut n r hn hr
          rintro e w5 ⟨rfl, hb5⟩
          go_wp2_with fail
          go_region_with (go_at_call 11; refine (take_none _ _ (unhide HK) (unhide HO)).mono ?_; rintro e w6 ⟨rfl, hb6⟩)
          have hbz := bl hbb (bl hb4 (bl hb5 (bl (((Below.refl _ _).alloc (Nat.le_refl _) _).drew) (by assumption))))
          clear hb4 hb5 hbb
          go_wp2
          go_ret
          exact ⟨rfl, hbz⟩

end Go.Proofs.Ytddphpildmeheaa
