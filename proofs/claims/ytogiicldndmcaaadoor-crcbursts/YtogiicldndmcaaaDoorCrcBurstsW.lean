/-
  The walk of CrcBursts.
-/
import Derived.Test.YtogiicldndmcaaaDoorCrcJoinsW
namespace Go.Proofs.YtogiicldndmcaaaDoor
open Go.RowKit

theorem conv4 (n : Nat) (hn : n < 4294967296) (w : World) (b : Nat) (hb : w.heap.size = b) :
    (convert 28 9 (.slice (some ⟨b, 0, none⟩) 4 4)).run Tryd.prog (w.alloc (.cells #[.int .u8 ((n : Int) % 256), .int .u8 ((n : Int) / 256 % 256), .int .u8 ((n : Int) / 65536 % 256), .int .u8 ((n : Int) / 16777216)] 5))
      = .ok (.string (Num.bs (Crc.four n))) (w.alloc (.cells #[.int .u8 ((n : Int) % 256), .int .u8 ((n : Int) / 256 % 256), .int .u8 ((n : Int) / 65536 % 256), .int .u8 ((n : Int) / 16777216)] 5)) := by
  subst hb
  refine run_convert_bytes_back (P := Tryd.prog) _ 28 9 5 ⟨w.heap.size, 0, none⟩ 4 (Crc.four n) Tryd.underlying28 Tryd.underlying5 Tryd.underlying9 fun j hj => ?_
  have hj4 : j < 4 := by simpa [Crc.four] using hj
  rw [Addr.add_lit, Nat.zero_add]
  match j, hj4 with
  | 0, _ => simp [Crc.four]
  | 1, _ => simp [Crc.four]
  | 2, _ => simp [Crc.four]
  | 3, _ => simp [Crc.four]; omega

theorem four_size (n : Nat) : (Num.bs (Crc.four n)).size ≤ 4 := by rw [Num.bs_size]; simp [Crc.four]
theorem burst_size {s t : ByteArray} (n : Nat) (h : s.size + t.size ≤ 2000) : (s ++ Num.bs (Crc.four n) ++ t).size ≤ maxLen := by
  rw [ByteArray.size_append, ByteArray.size_append, Num.bs_size]; unfold maxLen; simp [Crc.four]; omega
theorem burst_eq (s t : ByteArray) (n m : Nat) (hn : n < 4294967296) (hm : m < 4294967296) :
    ((((Crc.sum (s ++ Num.bs (Crc.four n) ++ t).data.toList : Nat) : Int) == ((Crc.sum (s ++ Num.bs (Crc.four (n ^^^ m)) ++ t).data.toList : Nat) : Int)) == ((m : Int) == 0)) = true := by
  have h := Crc.sum_four s.data.toList t.data.toList n (n ^^^ m) hn (Crc.xor_lt hn hm)
  simp only [app_list, Num.bs_toList]
  by_cases c : m = 0
  · subst c; simp
  · have h0 : ¬ n = n ^^^ m := fun e => c (by
      have := congrArg (n ^^^ ·) e
      simp only [← Nat.xor_assoc, Nat.xor_self, Nat.zero_xor] at this
      exact this.symm)
    have h1 := fun e => h0 (h.1 e)
    have h2 : (((Crc.sum (s.data.toList ++ Crc.four n ++ t.data.toList) : Nat) : Int) == ((Crc.sum (s.data.toList ++ Crc.four (n ^^^ m) ++ t.data.toList) : Nat) : Int)) = false := beq_eq_false_iff_ne.2 (by omega)
    have h3 : ((m : Int) == 0) = false := beq_eq_false_iff_ne.2 (by omega)
    rw [h2, h3]; rfl

set_option maxRecDepth 100000 in
set_option maxHeartbeats 400000 in
theorem walkCrcBursts (s t : ByteArray) (x y : Int) (w : World) (hs : s.size ≤ 140737488351232) (ht : t.size ≤ 140737488351232) (hx : 0 ≤ x ∧ x ≤ 4294967295) (hy : 0 ≤ y ∧ y ≤ 4294967295) (hT : Tab w) :
    Calls Tryd.prog 7 #[.string s, .string t, .int .u32 x, .int .u32 y] w fun e w' => e = .returned (.bool true) ∧ Below w.heap.size w w' := by
  obtain ⟨n, rfl⟩ := Int.eq_ofNat_of_zero_le hx.1
  obtain ⟨m, rfl⟩ := Int.eq_ofNat_of_zero_le hy.1
  have hn : n < 4294967296 := by omega
  have hm : m < 4294967296 := by omega
  clear hx hy
  have HT := hide hT
  clear hT
  by_cases hl : s.size + t.size ≤ 2000
  · have hg : ¬ (2000 : Int) < (s.size : Int) + (t.size : Int) := by omega
    have HX := hide (xor32 n m hn hm)
    have hz1 := four_size n
    have hz2 := four_size (n ^^^ m)
    have hc1 := fun w : World => conv4 n hn w w.heap.size rfl
    have hc2 := fun (w : World) (o : Obj) => conv4 (n ^^^ m) (Crc.xor_lt hn hm) (w.alloc o) (w.heap.size + 1) (by simp)
    have hlt := Crc.xor_lt hn hm
    have HB := hide (burst_eq s t n m hn hm)
    have HZ1 := hide (burst_size n hl)
    have HZ2 := hide (burst_size (n ^^^ m) hl)
    have hx := HX.out
    go_enter Tryd.func7, Tryd.ntmps7
    go_wp2_with fail
    refine (shown_any _ HT.out).mono ?_
    rintro e w1 ⟨rfl, rfl⟩
    go_wp2_with fail
    refine (sum_any _ _ HZ1.out ((HT.out.alloc _).alloc _)).mono ?_
    rintro e w1 ⟨rfl, rfl⟩
    go_wp2_with fail
    refine (sum_any _ _ HZ2.out ((HT.out.alloc _).alloc _)).mono ?_
    rintro e w1 ⟨rfl, rfl⟩
    go_wp2
    go_ret
    exact ⟨ret_true (by simpa using HB.out), ((Below.refl _ _).alloc (Nat.le_refl _) _).alloc (by simp) _⟩
  · have hg : (2000 : Int) < (s.size : Int) + (t.size : Int) := by omega
    go_enter Tryd.func7, Tryd.ntmps7
    go_wp2_with fail
    refine (shown_any _ HT.out).mono ?_
    rintro e w1 ⟨rfl, rfl⟩
    go_wp2
    go_ret
    exact ⟨rfl, Below.refl _ _⟩
end Go.Proofs.YtogiicldndmcaaaDoor
