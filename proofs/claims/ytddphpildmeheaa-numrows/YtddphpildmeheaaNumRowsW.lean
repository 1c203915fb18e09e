/-
  The walk of NumRows.
-/
import Derived.Test.YtddphpildmeheaaKinds
import Derived.Test.YtddphpildmeheaaShownW
import Derived.Test.YtddphpildmeheaaTakeCW
namespace Go.Proofs.Ytddphpildmeheaa
open Go.RowKit

/-- Texts' bytes, and numbers', one behind the other. -/
def tx : List (List UInt8) → List UInt8
  | [] => []
  | t :: r => Num.put t.length ++ t ++ tx r
def nx : List Nat → List UInt8
  | [] => []
  | n :: r => Num.put n ++ nx r
theorem tx_app : ∀ a b : List (List UInt8), tx (a ++ b) = tx a ++ tx b
  | [], b => rfl
  | t :: r, b => by simp only [List.cons_append, tx]; rw [tx_app r b]; simp
theorem nx_app : ∀ a b : List Nat, nx (a ++ b) = nx a ++ nx b
  | [], b => rfl
  | t :: r, b => by simp only [List.cons_append, nx]; rw [nx_app r b]; simp
theorem tx_len : ∀ (l : List (List UInt8)), (∀ t ∈ l, t.length ≤ 200) → (tx l).length ≤ 210 * l.length
  | [], _ => by simp [tx]
  | t :: r, h => by
    have h1 := tx_len r (fun x hx => h x (List.mem_cons_of_mem _ hx))
    have h2 := h t (List.mem_cons_self ..)
    have h3 := Num.put_len10 (n := t.length) (by omega)
    simp only [tx, List.length_append, List.length_cons]; omega
theorem nx_len : ∀ (l : List Nat), (∀ t ∈ l, t < 18446744073709551616) → (nx l).length ≤ 10 * l.length
  | [], _ => by simp [nx]
  | t :: r, h => by
    have h1 := nx_len r (fun x hx => h x (List.mem_cons_of_mem _ hx))
    have h3 := Num.put_len10 (h t (List.mem_cons_self ..))
    simp only [nx, List.length_append, List.length_cons]; omega
theorem take_next {α : Type} (l : List α) (k : Nat) (h : k < l.length) : l.take (k + 1) = l.take k ++ [l[k]] := by
  rw [List.take_succ_eq_append_getElem h]
theorem drop_next {α : Type} (l : List α) (k : Nat) (h : k < l.length) : l.drop k = l[k] :: l.drop (k + 1) := List.drop_eq_getElem_cons h

theorem takeText_row (z : ByteArray) (rest : List UInt8) (w : World) (ht : z.size ≤ 200) (hr : rest.length ≤ 1000000) :
    Calls Try.prog 15 #[.string (Num.bs (Num.put z.size ++ (z.data.toList ++ rest))), .int .i64 200] w fun e w' => e = .returned (.tuple #[.string z, .string (Num.bs rest), .int .i64 0]) ∧ Below w.heap.size w w' := by
  have h10 := Num.put_len10 (n := z.size) (by omega)
  have h := takeText_some (Num.bs (Num.put z.size ++ (z.data.toList ++ rest))) 200 w (by rw [Num.bs_size]; unfold maxLen; simp; omega) (by omega) (by omega) (n := z.size) (r := z.data.toList ++ rest)
    (by rw [Num.bs_toList, Num.take_put _ _ (by omega)]) (by unfold mostOf; rw [if_neg (by omega)]; omega) (by simp)
  rwa [List.take_left' (by simp), List.drop_left' (by simp), Num.bs_of] at h
theorem take_row (n : Nat) (rest : List UInt8) (w : World) (hn : n < 18446744073709551616) (hr : rest.length ≤ 1000000) :
    Calls Try.prog 11 #[.string (Num.bs (Num.put n ++ rest))] w fun e w' => e = .returned (.tuple #[.int .u64 (n : Int), .string (Num.bs rest), .int .i64 0]) ∧ Below w.heap.size w w' := by
  have h10 := Num.put_len10 hn
  exact take_some _ _ (by rw [Num.bs_size]; unfold maxLen; simp; omega) (by rw [Num.bs_toList, Num.take_put _ _ hn])

/-- What came in, as plain lists. -/
def texts (z : List ByteArray) (len : Nat) : List (List UInt8) := (z.take len).map (·.data.toList)
def nums (z : List Int) (len : Nat) : List Nat := (z.take len).map Int.toNat

theorem texts_at {z : List ByteArray} {len k : Nat} (hk : k < len) (hl : len ≤ z.length) (h : k < (texts z len).length) : (texts z len)[k] = (z.getD k ByteArray.empty).data.toList := by
  simp [texts, List.getD, show k < z.length by omega]
theorem nums_at {z : List Int} {len k : Nat} (hk : k < len) (hl : len ≤ z.length) (h : k < (nums z len).length) : (nums z len)[k] = (z.getD k 0).toNat := by
  simp [nums, List.getD, show k < z.length by omega]

theorem getD_mem {z : List Int} {j : Nat} (h : j < z.length) : z.getD j 0 ∈ z := by simp [List.getD, h]

theorem step1 {T : List (List UInt8)} {k : Nat} {z : ByteArray} (h : k < T.length) (hz : T[k] = z.data.toList) : Num.bs (tx (T.take k)) ++ Num.bs (Num.put z.size ++ z.data.toList) = Num.bs (tx (T.take (k + 1))) := by
  rw [bs_append, Num.bs_toList, take_next T k h, tx_app, hz]
  simp [tx]
theorem step2 {T : List UInt8} {M : List Nat} {k n : Nat} (h : k < M.length) (hz : M[k] = n) : Num.bs (T ++ nx (M.take k)) ++ Num.bs (Num.put n) = Num.bs (T ++ nx (M.take (k + 1))) := by
  rw [bs_append, Num.bs_toList, take_next M k h, nx_app, hz]
  simp [nx]
theorem step3 {T : List (List UInt8)} {R : List UInt8} {k : Nat} {z : ByteArray} (h : k < T.length) (hz : T[k] = z.data.toList) : tx (T.drop k) ++ R = Num.put z.size ++ (z.data.toList ++ (tx (T.drop (k + 1)) ++ R)) := by
  rw [drop_next T k h, tx, hz]
  simp
theorem step4 {M : List Nat} {k n : Nat} (h : k < M.length) (hz : M[k] = n) : nx (M.drop k) = Num.put n ++ nx (M.drop (k + 1)) := by
  rw [drop_next M k h, nx, hz]

set_option maxRecDepth 100000 in
set_option maxHeartbeats 3200000 in
theorem walkNumRows (a0 : Option Addr) (len0 cap0 : Nat) (z0 : List ByteArray) (a1 : Option Addr) (len1 cap1 : Nat) (z1 : List Int) (w : World) (h0 : IsStrs w a0 len0 cap0 z0) (h1 : IsRow .u64 w a1 len1 cap1 z1) :
    Calls Try.prog 9 #[.slice a0 len0 cap0, .slice a1 len1 cap1] w fun e w' => e = .returned (.bool true) ∧ Below w.heap.size w w' := by
  obtain ⟨hl0, hm0, hv0, hs0⟩ := view_strs h0
  obtain ⟨hl1, hm1, hv1, hs1⟩ := view_row h1
  clear h0 h1
  unfold maxLen at hm0 hm1
  by_cases hb0 : 20 < len0
  · go_enter Try.func9, Try.ntmps9
    go_wp2_with fail
    refine (shown_any _).mono ?_
    rintro e w1 ⟨rfl, hb1⟩
    go_wp2
    go_ret
    exact ⟨rfl, hb1⟩
  by_cases hb1 : 20 < len1
  · go_enter Try.func9, Try.ntmps9
    go_wp2_with fail
    refine (shown_any _).mono ?_
    rintro e w1 ⟨rfl, hb1⟩
    go_wp2
    go_ret
    exact ⟨rfl, hb1⟩
  have hTl : (texts z0 len0).length = len0 := by simp [texts]; omega
  have hNl : (nums z1 len1).length = len1 := by simp [nums]; omega
  have hNb : ∀ n ∈ nums z1 len1, n < 18446744073709551616 := by
    intro n hn
    obtain ⟨x, hx, rfl⟩ := List.mem_map.1 hn
    have := bounds_u64 (hs1 x (List.mem_of_mem_take hx))
    omega
  have HT := hide hTl
  have HN := hide hNl
  have HB := hide hNb
  have HV0 := hide hv0
  have HV1 := hide hv1
  have HS0 := hide hs0
  have HS1 := hide hs1
  clear hTl hNl hNb hv0 hv1 hs0 hs1
  go_enter Try.func9, Try.ntmps9
  go_wp2_with fail
  refine (shown_any _).mono ?_
  rintro e w1 ⟨rfl, hbw⟩
  go_wp2
  go_loopw [6, 7] (fun s i wr => ∃ k : Nat, k ≤ len0 ∧ i = .int .i64 (k : Int) ∧ s = .string (Num.bs (tx ((texts z0 len0).take k))) ∧ (∀ t ∈ (texts z0 len0).take k, t.length ≤ 200) ∧ Below w.heap.size w wr)
    (fun _ i _ => len0 - (intOf i).toNat)
  case atStart => exact ⟨0, Nat.zero_le _, rfl, rfl, fun t h => by simp at h, hbw⟩
  case round =>
    obtain ⟨k, hk, rfl, rfl, hsm, hnx⟩ := hrel
    by_cases hlt : k < len0
    · obtain ⟨b, off, rfl, hbl, hc⟩ := unhide HV0 k hlt
      have hcx : wr.cell? ⟨b, off + k, none⟩ = some (.string (z0.getD k ByteArray.empty)) := (hnx.cell (by exact hbl)).trans (hc k hlt)
      have HSM := hide hsm
      clear hc hsm
      generalize hz : z0.getD k ByteArray.empty = z at *
      have HZ := hide hz
      clear hz
      by_cases hz2 : 200 < z.size
      · go_wp2
        go_ret
        exact ⟨rfl, hnx⟩
      · have hq : k < (texts z0 len0).length := by rw [unhide HT]; exact hlt
        have ht := texts_at hlt hl0 hq
        rw [unhide HZ] at ht
        have HS := hide (step1 hq ht)
        have l1 : (Num.bs (tx ((texts z0 len0).take k))).size ≤ 5000 := by
          have := tx_len _ (unhide HSM)
          rw [Num.bs_size]; simp at this; omega
        have l2 : (Num.bs (Num.put z.size ++ z.data.toList)).size ≤ 300 := by
          have := Num.put_len10 (n := z.size) (by omega)
          rw [Num.bs_size]; simp; omega
        have HQ := hide (show ∀ t ∈ (texts z0 len0).take (k + 1), t.length ≤ 200 by
          intro t h
          rw [take_next _ k hq] at h
          rcases List.mem_append.1 h with h | h
          · exact unhide HSM t h
          · rw [List.mem_singleton.1 h, ht]; simp; omega)
        clear ht hq
        go_wp2_with fail
        refine (putText_any _ _ (by omega)).mono ?_
        rintro e w2 ⟨rfl, hb2⟩
        have hnx2 := bl hnx hb2
        clear hb2 hnx hcx
        go_wp2
        go_roundw
        case rel => exact ⟨k + 1, by omega, by go_num, by rw [unhide HS], unhide HQ, hnx2⟩
        case measure => simp [intOf]; omega
    · obtain rfl : k = len0 := by omega
      rw [List.take_of_length_le (by rw [unhide HT]; exact Nat.le_refl _)] at hsm
      rw [List.take_of_length_le (by rw [unhide HT]; exact Nat.le_refl _)]
      have hXl : (tx (texts z0 k)).length ≤ 4200 := by
        have := tx_len _ hsm
        rw [unhide HT] at this; omega
      have HSM := hide hsm
      clear hsm
      go_wp2
      go_loopw [6, 8] (fun s i wr => ∃ j : Nat, j ≤ len1 ∧ i = .int .i64 (j : Int) ∧ s = .string (Num.bs (tx (texts z0 k) ++ nx ((nums z1 len1).take j))) ∧ Below w.heap.size w wr)
        (fun _ i _ => len1 - (intOf i).toNat)
      case atStart => exact ⟨0, Nat.zero_le _, rfl, by simp [nx], hnx⟩
      case round =>
        clear hnx
        obtain ⟨j, hj, rfl, rfl, hnx⟩ := hrel
        by_cases hlt : j < len1
        · obtain ⟨b, off, rfl, hbl, hc⟩ := unhide HV1 j hlt
          have hq : j < (nums z1 len1).length := by rw [unhide HN]; exact hlt
          have ht := nums_at hlt hl1 hq
          have hw := bounds_u64 (unhide HS1 (z1.getD j 0) (getD_mem (by omega)))
          obtain ⟨n, hn⟩ := Int.eq_ofNat_of_zero_le hw.1
          have hcx : wr.cell? ⟨b, off + j, none⟩ = some (.int .u64 (n : Int)) := by rw [← hn]; exact (hnx.cell (by exact hbl)).trans (hc j hlt)
          rw [hn] at ht hw
          rw [Int.toNat_natCast] at ht
          have HS := hide (step2 (T := tx (texts z0 k)) hq ht)
          have hn2 : n < 18446744073709551616 := by omega
          have l1 : (Num.bs (tx (texts z0 k) ++ nx ((nums z1 len1).take j))).size ≤ 5000 := by
            have := nx_len ((nums z1 len1).take j) (fun t h => unhide HB t (List.mem_of_mem_take h))
            rw [Num.bs_size]; simp at this ⊢; omega
          have l2 : (Num.bs (Num.put n)).size ≤ 10 := by rw [Num.bs_size]; exact Num.put_len10 hn2
          clear hc ht hq hn hw
          go_wp2_with fail
          refine (put_any _ _ hn2).mono ?_
          rintro e w2 ⟨rfl, hb2⟩
          have hnx2 := bl hnx hb2
          clear hb2 hnx hcx
          go_wp2
          go_roundw
          case rel => exact ⟨j + 1, by omega, by go_num, by rw [unhide HS], hnx2⟩
          case measure => simp [intOf]; omega
        · obtain rfl : j = len1 := by omega
          rw [List.take_of_length_le (by rw [unhide HN]; exact Nat.le_refl _)]
          have hYl : (nx (nums z1 j)).length ≤ 200 := by
            have := nx_len _ (unhide HB)
            rw [unhide HN] at this; omega
          go_wp2
          go_loopw [6, 9] (fun s i wr => ∃ m : Nat, m ≤ k ∧ i = .int .i64 (m : Int) ∧ s = .string (Num.bs (tx ((texts z0 k).drop m) ++ nx (nums z1 j))) ∧ Below w.heap.size w wr)
            (fun _ i _ => k - (intOf i).toNat)
          case atStart => exact ⟨0, Nat.zero_le _, rfl, by simp, hnx⟩
          case round =>
            clear hnx
            obtain ⟨m, hm, rfl, rfl, hnx⟩ := hrel
            by_cases hlt3 : m < k
            · obtain ⟨b, off, rfl, hbl, hc⟩ := unhide HV0 m hlt3
              have hcx : wr.cell? ⟨b, off + m, none⟩ = some (.string (z0.getD m ByteArray.empty)) := (hnx.cell (by exact hbl)).trans (hc m hlt3)
              generalize hz : z0.getD m ByteArray.empty = z at *
              have hq : m < (texts z0 k).length := by rw [unhide HT]; exact hlt3
              have ht := texts_at hlt3 hl0 hq
              rw [hz] at ht
              have hzl : z.size ≤ 200 := by
                have h := unhide HSM _ (List.getElem_mem hq)
                rw [ht] at h; simpa using h
              have hrl : (tx ((texts z0 k).drop (m + 1)) ++ nx (nums z1 j)).length ≤ 1000000 := by
                have h1 := tx_len ((texts z0 k).drop (m + 1)) (fun t h => unhide HSM t (List.mem_of_mem_drop h))
                rw [List.length_drop, unhide HT] at h1
                rw [List.length_append]; omega
              rw [step3 hq ht]
              clear hc ht hq hz
              generalize hR : tx ((texts z0 k).drop (m + 1)) ++ nx (nums z1 j) = R at *
              have HR := hide hR
              clear hR
              go_wp2_with fail
              refine (takeText_row _ _ _ hzl hrl).mono ?_
              rintro e w2 ⟨rfl, hb2⟩
              have hnx2 := bl hnx hb2
              have hcx2 : w2.cell? ⟨b, off + m, none⟩ = some (.string z) := (hb2.cell (by exact Nat.lt_of_lt_of_le hbl hnx.size)).trans hcx
              clear hb2 hnx hcx
              go_wp2
              go_roundw
              case rel => exact ⟨m + 1, by omega, by go_num, by rw [unhide HR], hnx2⟩
              case measure => simp [intOf]; omega
            · obtain rfl : m = k := by omega
              rw [List.drop_eq_nil_of_le (by rw [unhide HT]; exact Nat.le_refl _), tx, List.nil_append]
              go_wp2
              go_loopw [6, 13] (fun s i wr => ∃ q : Nat, q ≤ j ∧ i = .int .i64 (q : Int) ∧ s = .string (Num.bs (nx ((nums z1 j).drop q))) ∧ Below w.heap.size w wr)
                (fun _ i _ => j - (intOf i).toNat)
              case atStart => exact ⟨0, Nat.zero_le _, rfl, by simp, hnx⟩
              case round =>
                clear hnx
                obtain ⟨q, hq0, rfl, rfl, hnx⟩ := hrel
                by_cases hlt4 : q < j
                · obtain ⟨b, off, rfl, hbl, hc⟩ := unhide HV1 q hlt4
                  have hq : q < (nums z1 j).length := by rw [unhide HN]; exact hlt4
                  have ht := nums_at hlt4 hl1 hq
                  have hw := bounds_u64 (unhide HS1 (z1.getD q 0) (getD_mem (by omega)))
                  obtain ⟨n, hn⟩ := Int.eq_ofNat_of_zero_le hw.1
                  have hcx : wr.cell? ⟨b, off + q, none⟩ = some (.int .u64 (n : Int)) := by rw [← hn]; exact (hnx.cell (by exact hbl)).trans (hc q hlt4)
                  rw [hn] at ht hw
                  rw [Int.toNat_natCast] at ht
                  have hn2 : n < 18446744073709551616 := by omega
                  have hrl : (nx ((nums z1 j).drop (q + 1))).length ≤ 1000000 := by
                    have h1 := nx_len ((nums z1 j).drop (q + 1)) (fun t h => unhide HB t (List.mem_of_mem_drop h))
                    rw [List.length_drop, unhide HN] at h1
                    omega
                  rw [step4 hq ht]
                  clear hc ht hq hn hw
                  generalize hR : nx ((nums z1 j).drop (q + 1)) = R at *
                  have HR := hide hR
                  clear hR
                  go_wp2_with fail
                  refine (take_row _ _ _ hn2 hrl).mono ?_
                  rintro e w2 ⟨rfl, hb2⟩
                  have hnx2 := bl hnx hb2
                  have hcx2 : w2.cell? ⟨b, off + q, none⟩ = some (.int .u64 (n : Int)) := (hb2.cell (by exact Nat.lt_of_lt_of_le hbl hnx.size)).trans hcx
                  clear hb2 hnx hcx
                  go_wp2
                  go_roundw
                  case rel => exact ⟨q + 1, by omega, by go_num, by rw [unhide HR], hnx2⟩
                  case measure => simp [intOf]; omega
                · obtain rfl : q = j := by omega
                  rw [List.drop_eq_nil_of_le (by rw [unhide HN]; exact Nat.le_refl _), nx]
                  go_wp2
                  go_ret
                  exact ⟨ret_true (by rw [ByteArray.toList_eq, Num.bs_toList]; rfl), hnx⟩
end Go.Proofs.Ytddphpildmeheaa
