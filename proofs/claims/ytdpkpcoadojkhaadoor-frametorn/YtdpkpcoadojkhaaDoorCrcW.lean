/-
  What crc's functions do, where the table reads as it was laid: for every number below 2^32 and every text they return what the register comes to, and turn nothing.
-/
import Derived.Test.YtdpkpcoadojkhaaDoorBase
import Derived.Test.YtdpkpcoadojkhaaDoorCrcMath
import Derived.Laws.BitsAllLaws
namespace Go.Proofs.YtdpkpcoadojkhaaDoor
open Go.RowKit

/-- The table, as its initialiser lays it. -/
def Tab (w : World) : Prop := ∀ m : Nat, m < 16 → w.cell? ⟨0, m, none⟩ = some (.int .u32 ((Crc.tab m : Nat) : Int))

theorem Tab.pos {w : World} (h : Tab w) : 0 < w.heap.size := block_lt_of_cell (h 0 (by decide))
theorem Tab.below {w w' : World} (h : Tab w) (hb : Below w.heap.size w w') : Tab w' := fun m hm => by
  rw [hb.cell (p := ⟨0, m, none⟩) h.pos]; exact h m hm
theorem Tab.alloc {w : World} (h : Tab w) (o : Obj) : Tab (w.alloc o) := h.below ((Below.refl _ _).alloc (Nat.le_refl _) o)

theorem Tab.drewN {w : World} (h : Tab w) (n : Nat) : Tab (w.drewN n) := h

theorem and15 (r : Nat) (h : r < 4294967296) : bits .and .u32 (r : Int) 15 = ((r % 16 : Nat) : Int) := by
  have := u32_and_nat r 15 h (by omega)
  rw [nat_mask4] at this
  exact this
theorem ret_int {k : IntKind} {a b : Int} (h : a = b) : Ending.returned (.int k a) = .returned (.int k b) := by rw [h]
theorem half_eq (r : Nat) (hr : r < 4294967296) : bits .xor .u32 ((r : Int) / 16) ((Crc.tab (r % 16) : Nat) : Int) = ((Crc.half r : Nat) : Int) := by
  have := u32_xor_nat (r / 16) (Crc.tab (r % 16)) (by omega) (Crc.tab_lt _ (Nat.mod_lt _ (by decide)))
  rw [show (r : Int) / 16 = ((r / 16 : Nat) : Int) from by omega, this]; rfl
theorem xor32 (a b : Nat) (ha : a < 4294967296) (hb : b < 4294967296) : bits .xor .u32 (a : Int) (b : Int) = ((a ^^^ b : Nat) : Int) := u32_xor_nat a b ha hb

set_option maxRecDepth 100000 in
set_option maxHeartbeats 400000 in
theorem half_any (r : Nat) (w : World) (hr : r < 4294967296) (ht : Tab w) :
    Calls Tryd.prog 33 #[.int .u32 (r : Int)] w fun e w' => e = .returned (.int .u32 ((Crc.half r : Nat) : Int)) ∧ w' = w := by
  have h15 := and15 r hr
  have hc := ht (r % 16) (Nat.mod_lt _ (by decide))
  go_enter Tryd.func33, Tryd.ntmps33
  go_wp2
  go_ret
  exact ⟨ret_int (half_eq r hr), rfl⟩

theorem half_at (x : Int) (r : Nat) (w : World) (hx : x = (r : Int)) (hr : r < 4294967296) (ht : Tab w) :
    Calls Tryd.prog 33 #[.int .u32 x] w fun e w' => e = .returned (.int .u32 ((Crc.half r : Nat) : Int)) ∧ w' = w := by
  subst hx; exact half_any r w hr ht

theorem take_snoc (s : ByteArray) (k : Nat) (h : k < s.size) : s.data.toList.take (k + 1) = s.data.toList.take k ++ [s[k]] := by
  rw [List.take_succ_eq_append_getElem (by simpa using h)]; rfl
theorem run_next (r : Nat) (s : ByteArray) (k : Nat) (h : k < s.size) : Crc.half (Crc.half (Crc.run r (s.data.toList.take k) ^^^ s[k].toNat)) = Crc.run r (s.data.toList.take (k + 1)) := by
  rw [take_snoc s k h, Crc.run_snoc, Crc.half_half]; rfl
theorem not32 (a : Nat) (ha : a < 4294967296) : bits .xor .u32 IntKind.u32.max (a : Int) = ((a ^^^ 4294967295 : Nat) : Int) := by
  have h := u32_xor_nat 4294967295 a (by omega) ha
  rw [Nat.xor_comm] at h
  exact h
theorem byte32 (a : Nat) (b : UInt8) (ha : a < 4294967296) : bits .xor .u32 (a : Int) ((b.toNat : Int) % 4294967296) = ((a ^^^ b.toNat : Nat) : Int) := by
  have hb := b.toNat_lt
  rw [show (b.toNat : Int) % 4294967296 = (b.toNat : Int) from by omega]
  exact u32_xor_nat a b.toNat ha (by omega)

set_option maxRecDepth 100000 in
set_option maxHeartbeats 400000 in
theorem add_any (sum : Nat) (s : ByteArray) (w : World) (hr : sum < 4294967296) (hs : s.size ≤ maxLen) (ht : Tab w) :
    Calls Tryd.prog 32 #[.int .u32 (sum : Int), .string s] w fun e w' => e = .returned (.int .u32 ((Crc.add sum s.data.toList : Nat) : Int)) ∧ w' = w := by
  unfold maxLen at hs
  have HT := hide ht
  clear ht
  have H0 := hide (not32 sum hr)
  go_enter Tryd.func32, Tryd.ntmps32
  go_wp2
  go_loop [5, 11] (fun r i => ∃ k : Nat, k ≤ s.size ∧ i = .int .i64 k ∧ r = .int .u32 ((Crc.run (sum ^^^ 4294967295) (s.data.toList.take k) : Nat) : Int)) (fun _ i => s.size - (intOf i).toNat)
  case atStart => exact ⟨0, Nat.zero_le _, rfl, by rw [H0.out]; rfl⟩
  case round =>
    obtain ⟨k, hk, rfl, rfl⟩ := hrel
    have hR := Crc.run_lt (s.data.toList.take k) _ (Crc.inv_lt hr)
    by_cases hlt : k < s.size
    · have HN := hide (run_next (sum ^^^ 4294967295) s k hlt)
      go_wp2_with fail
      refine (half_at _ _ _ (byte32 _ _ hR) (Crc.xor_lt hR (Crc.byte_lt _)) HT.out).mono ?_
      rintro e w1 ⟨rfl, rfl⟩
      go_wp2_with fail
      refine (half_at _ _ _ rfl (Crc.half_lt (Crc.xor_lt hR (Crc.byte_lt _))) HT.out).mono ?_
      rintro e w1 ⟨rfl, rfl⟩
      rw [HN.out]
      go_wp2
      go_round
      case rel => exact ⟨k + 1, by omega, by go_num, rfl⟩
      case measure => simp [intOf]; omega
    · have HE := hide (not32 _ hR)
      have HL : Hid (s.data.toList.take k = s.data.toList) := List.take_of_length_le (by simp; omega)
      go_wp2
      go_ret
      exact ⟨ret_int (by rw [HE.out, HL.out]; rfl), rfl⟩

theorem add_at (x : Int) (sum : Nat) (s : ByteArray) (w : World) (hx : x = (sum : Int)) (hr : sum < 4294967296) (hs : s.size ≤ maxLen) (ht : Tab w) :
    Calls Tryd.prog 32 #[.int .u32 x, .string s] w fun e w' => e = .returned (.int .u32 ((Crc.add sum s.data.toList : Nat) : Int)) ∧ w' = w := by
  subst hx; exact add_any sum s w hr hs ht

set_option maxRecDepth 100000 in
set_option maxHeartbeats 400000 in
theorem sum_any (s : ByteArray) (w : World) (hs : s.size ≤ maxLen) (ht : Tab w) :
    Calls Tryd.prog 29 #[.string s] w fun e w' => e = .returned (.int .u32 ((Crc.sum s.data.toList : Nat) : Int)) ∧ w' = w := by
  have HT := hide ht
  clear ht
  go_enter Tryd.func29, Tryd.ntmps29
  go_wp2_with fail
  refine (add_at _ 0 s _ rfl (by omega) hs HT.out).mono ?_
  rintro e w1 ⟨rfl, rfl⟩
  go_wp2
  go_ret
  exact ⟨rfl, rfl⟩

theorem shown1 : Crc.sum [49, 50, 51, 52, 53, 54, 55, 56, 57] = 3808858755 := by decide +kernel
theorem shown2 : Crc.sum [] = 0 := by decide +kernel

end Go.Proofs.YtdpkpcoadojkhaaDoor
