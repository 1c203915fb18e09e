/-
  putSum, Put, Size.
-/
import Derived.Test.YtdpkpcoadojkhaaDoorFrmW
import Derived.Test.YtdpkpcoadojkhaaDoorPutW
import Derived.Test.YtdpkpcoadojkhaaDoorCrcW
import Derived.Test.YtdpkpcoadojkhaaDoorBytesW
namespace Go.Proofs.YtdpkpcoadojkhaaDoor
open Go.RowKit
open Frm (Fr)

theorem app_bs (a t : List UInt8) : Num.bs a ++ Num.bs t = Num.bs (a ++ t) := by rw [bs_append, Num.bs_toList]
theorem sum_app (a t : List UInt8) (w : World) (ha : a.length ≤ 10) (ht : t.length ≤ 2000) (hT : Tab w) :
    Calls Tryd.prog 29 #[.string (Num.bs a ++ Num.bs t)] w fun e w' => e = .returned (.int .u32 ((Crc.sum (a ++ t) : Nat) : Int)) ∧ w' = w := by
  have := sum_any (Num.bs a ++ Num.bs t) w (by rw [app_bs, Num.bs_size, List.length_append]; unfold maxLen; omega) hT
  rwa [app_bs, Num.bs_toList, ← app_bs] at this

theorem ret2_bs {a b : ByteArray} {x : Value} (h : a = b) : Ending.returned (.tuple #[.string a, x]) = .returned (.tuple #[.string b, x]) := by rw [h]
theorem four_new (w : World) (t : TypeId) : BytesAt (w.alloc (.cells #[.int .u8 0, .int .u8 0, .int .u8 0, .int .u8 0] t)) w.heap.size [0, 0, 0, 0] := by
  refine ⟨fun j hj => ?_, fun j hj => ?_⟩
  · match j, hj with
    | 0, _ => simp
    | 1, _ => simp
    | 2, _ => simp
    | 3, _ => simp
  · rw [World.frozen?_alloc_at _ _ _ _ rfl]

theorem four_step {wr : World} {b k n : Nat} {l : List UInt8} {x : Int} (hB : BytesAt wr b l) (hl : l.length = 4) (hk : k < 4) (ht : l.take k = (Crc.four n).take k) (hx : x = (((Crc.four n)[k]'hk).toNat : Int)) :
    ∃ l' : List UInt8, l'.length = 4 ∧ Hid (l'.take (k + 1) = (Crc.four n).take (k + 1)) ∧ BytesAt (wr.setCell ⟨b, k, none⟩ (.int .u8 x)) b l' := by
  refine ⟨l.set k ((Crc.four n)[k]'hk), by rw [List.length_set, hl], ?_, by rw [hx]; exact hB.set (by omega) _⟩
  show _ = _
  rw [List.take_succ_eq_append_getElem (by rw [List.length_set]; omega), List.take_succ_eq_append_getElem (by exact hk), List.getElem_set_self, List.take_set_of_le (by omega), ht]

set_option maxRecDepth 100000 in
set_option maxHeartbeats 800000 in
theorem putSum_any (q : Nat) (t : List UInt8) (w : World) (hq : q < 18446744073709551616) (ht : t.length ≤ 2000) (hT : Tab w) :
    Calls Tryd.prog 23 #[.int .u64 (q : Int), .string (Num.bs t)] w fun e w' => e = .returned (.string (Num.bs (Frm.sum4 q t))) ∧ Below w.heap.size w w' := by
  have HT := hide hT
  clear hT
  have h10 := Num.put_len10 hq
  have hps : (Num.bs (Num.put q)).size ≤ 10 := by rw [Num.bs_size]; exact h10
  have hts : (Num.bs t).size ≤ 2000 := by rw [Num.bs_size]; exact ht
  go_enter Tryd.func23, Tryd.ntmps23
  go_wp2_with fail
  refine (put_any _ _ hq).mono ?_
  rintro e w1 ⟨rfl, hb1⟩
  go_wp2_with fail
  refine (sum_app _ _ _ h10 ht (HT.out.below hb1)).mono ?_
  rintro e w2 ⟨rfl, hw⟩
  rw [hw]
  clear hw
  have hS := Crc.sum_lt (Num.put q ++ t)
  have HF : Hid (Frm.sum4 q t = Crc.four (Crc.sum (Num.put q ++ t))) := rfl
  generalize Crc.sum (Num.put q ++ t) = n at *
  go_wp2
  go_loopw [13] (fun i wr => ∃ (k : Nat) (l : List UInt8), k ≤ 4 ∧ i = .int .i64 (k : Int) ∧ l.length = 4 ∧ Hid (l.take k = (Crc.four n).take k) ∧ BytesAt wr w1.heap.size l ∧ Below w.heap.size w wr)
    (fun i _ => 4 - (intOf i).toNat)
  case atStart => exact ⟨0, [0, 0, 0, 0], by omega, rfl, rfl, rfl, four_new _ _, hb1.alloc hb1.size _⟩
  case round =>
    obtain ⟨k, l, hk, rfl, hl, hta, hB, hnx⟩ := hrel
    have hz1 := hb1.size
    by_cases hlt : k < 4
    · have c0 := hB.1 k (by omega)
      have f0 := hB.2 k (by omega)
      have HB := hide hB
      clear hB
      rcases (show k = 0 ∨ k = 1 ∨ k = 2 ∨ k = 3 by omega) with rfl | rfl | rfl | rfl
      · go_wp2
        go_roundw
        case rel =>
          obtain ⟨l', h1, h2, h3⟩ := four_step (n := n) HB.out hl (by omega) hta.out (x := (n : Int) % 256) (by simp only [Crc.four, List.getElem_cons_zero]; rw [Crc.ofNat_mod]; omega)
          exact ⟨1, l', by omega, rfl, h1, h2, h3, hnx.setCell hz1 _⟩
        case measure => simp [intOf]
      · go_wp2
        go_roundw
        case rel =>
          obtain ⟨l', h1, h2, h3⟩ := four_step (n := n) HB.out hl (by omega) hta.out (x := (n : Int) / 256 % 256) (by simp only [Crc.four, List.getElem_cons_zero, List.getElem_cons_succ]; rw [Crc.ofNat_mod]; omega)
          exact ⟨2, l', by omega, rfl, h1, h2, h3, hnx.setCell hz1 _⟩
        case measure => simp [intOf]
      · go_wp2
        go_roundw
        case rel =>
          obtain ⟨l', h1, h2, h3⟩ := four_step (n := n) HB.out hl (by omega) hta.out (x := (n : Int) / 65536 % 256) (by simp only [Crc.four, List.getElem_cons_zero, List.getElem_cons_succ]; rw [Crc.ofNat_mod]; omega)
          exact ⟨3, l', by omega, rfl, h1, h2, h3, hnx.setCell hz1 _⟩
        case measure => simp [intOf]
      · go_wp2
        go_roundw
        case rel =>
          obtain ⟨l', h1, h2, h3⟩ := four_step (n := n) HB.out hl (by omega) hta.out (x := (n : Int) / 16777216) (by simp only [Crc.four, List.getElem_cons_zero, List.getElem_cons_succ]; rw [Crc.ofNat_mod]; omega)
          exact ⟨4, l', by omega, rfl, h1, h2, h3, hnx.setCell hz1 _⟩
        case measure => simp [intOf]
    · obtain rfl : k = 4 := by omega
      have hl4 : l = Crc.four n := by
        have := hta.out
        rwa [List.take_of_length_le (by omega), List.take_of_length_le (by exact Nat.le_refl _)] at this
      subst hl4
      have hcv := fun cap => hB.conv (P := Tryd.prog) cap 49 9 5 Tryd.underlying49 Tryd.underlying5 Tryd.underlying9
      rw [show (Crc.four n).length = 4 from rfl] at hcv
      clear hB hta hl
      go_wp2
      go_ret
      exact ⟨ret_bs HF.out.symm, hnx⟩

set_option maxRecDepth 100000 in
set_option maxHeartbeats 800000 in
theorem fput_ok (q : Nat) (t : List UInt8) (w : World) (hq : q < 18446744073709551616) (ht : t.length ≤ 2000) (hT : Tab w) :
    Calls Tryd.prog 11 #[.int .u64 (q : Int), .string (Num.bs t)] w fun e w' => e = .returned (.tuple #[.string (Num.bs (Frm.put (q, t))), .int .i64 0]) ∧ Below w.heap.size w w' := by
  have HT := hide hT
  clear hT
  have hts : (Num.bs t).size = t.length := Num.bs_size _
  have h1 : (Num.bs (Num.put t.length)).size ≤ 10 := by rw [Num.bs_size]; exact Num.put_len10 (by omega)
  have h2 : (Num.bs (Num.put q)).size ≤ 10 := by rw [Num.bs_size]; exact Num.put_len10 hq
  have h3 : (Num.bs (Frm.sum4 q t)).size = 4 := by rw [Num.bs_size]; rfl
  have HP : Hid (Num.bs (Num.put t.length) ++ Num.bs (Num.put q) ++ Num.bs (Frm.sum4 q t) ++ Num.bs t = Num.bs (Frm.put (q, t))) := hide (by simp only [app_bs, Frm.put, List.append_assoc])
  go_enter Tryd.func11, Tryd.ntmps11
  go_wp2_with fail
  refine (put_any _ _ (by omega)).mono ?_
  rintro e w1 ⟨rfl, hb1⟩
  go_wp2_with fail
  refine (put_any _ _ hq).mono ?_
  rintro e w2 ⟨rfl, hb2⟩
  have hb3 := bl hb1 hb2
  clear hb1 hb2
  go_wp2_with fail
  refine (putSum_any _ _ _ hq ht (HT.out.below hb3)).mono ?_
  rintro e w3 ⟨rfl, hb4⟩
  have hb5 := bl hb3 hb4
  clear hb3 hb4
  go_wp2
  go_ret2
  exact ⟨ret2_bs HP.out, hb5⟩

set_option maxRecDepth 100000 in
set_option maxHeartbeats 800000 in
theorem fput_long (q : Nat) (t : List UInt8) (w : World) (ht : 2000 < t.length) :
    Calls Tryd.prog 11 #[.int .u64 (q : Int), .string (Num.bs t)] w fun e w' => e = .returned (.tuple #[.string ⟨#[]⟩, .int .i64 7]) ∧ Below w.heap.size w w' := by
  have hts : (Num.bs t).size = t.length := Num.bs_size _
  go_enter Tryd.func11, Tryd.ntmps11
  go_wp2
  go_ret2
  exact ⟨rfl, Below.refl _ _⟩

set_option maxRecDepth 100000 in
set_option maxHeartbeats 800000 in
theorem fsize_ok (q : Nat) (t : List UInt8) (w : World) (hq : q < 18446744073709551616) (ht : t.length ≤ 2000) (hT : Tab w) :
    Calls Tryd.prog 17 #[.int .u64 (q : Int), .string (Num.bs t)] w fun e w' => e = .returned (.int .i64 ((Frm.size (q, t) : Nat) : Int)) ∧ Below w.heap.size w w' := by
  have HC := hide (fput_ok q t w hq ht hT)
  clear hT
  have hps : (Num.bs (Frm.put (q, t))).size = Frm.size (q, t) := Num.bs_size _
  go_enter Tryd.func17, Tryd.ntmps17
  go_wp2_with fail
  refine HC.out.mono ?_
  rintro e w1 ⟨rfl, hb1⟩
  go_wp2
  go_ret
  exact ⟨rfl, hb1⟩
set_option maxRecDepth 100000 in
set_option maxHeartbeats 800000 in
theorem fsize_long (q : Nat) (t : List UInt8) (w : World) (ht : 2000 < t.length) :
    Calls Tryd.prog 17 #[.int .u64 (q : Int), .string (Num.bs t)] w fun e w' => e = .returned (.int .i64 0) ∧ Below w.heap.size w w' := by
  have HC := hide (fput_long q t w ht)
  go_enter Tryd.func17, Tryd.ntmps17
  go_wp2_with fail
  refine HC.out.mono ?_
  rintro e w1 ⟨rfl, hb1⟩
  go_wp2
  go_ret
  exact ⟨rfl, hb1⟩
end Go.Proofs.YtdpkpcoadojkhaaDoor
