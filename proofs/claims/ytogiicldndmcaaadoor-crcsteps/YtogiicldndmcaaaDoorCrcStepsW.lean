/-
  The walk of CrcSteps.
-/
import Derived.Test.YtogiicldndmcaaaDoorCrcW
namespace Go.Proofs.YtogiicldndmcaaaDoor
open Go.RowKit

theorem steps_eq (a b : Nat) (l : List UInt8) (ha : a < 4294967296) (hb : b < 4294967296) : ((((Crc.add a l : Nat) : Int) == ((Crc.add b l : Nat) : Int)) == ((a : Int) == (b : Int))) = true := by
  by_cases h : a = b
  · subst h; simp
  · have : ¬ Crc.add a l = Crc.add b l := fun e => h (Crc.add_inj ha hb e)
    have h1 : (((Crc.add a l : Nat) : Int) == ((Crc.add b l : Nat) : Int)) = false := beq_eq_false_iff_ne.2 (by omega)
    have h2 : ((a : Int) == (b : Int)) = false := beq_eq_false_iff_ne.2 (by omega)
    rw [h1, h2]; rfl

set_option maxRecDepth 100000 in
set_option maxHeartbeats 400000 in
theorem walkCrcSteps (s : ByteArray) (x y : Int) (w : World) (hs : s.size ≤ maxLen) (hx : 0 ≤ x ∧ x ≤ 4294967295) (hy : 0 ≤ y ∧ y ≤ 4294967295) (ht : Tab w) :
    Calls Tryd.prog 8 #[.string s, .int .u32 x, .int .u32 y] w fun e w' => e = .returned (.bool true) ∧ Below w.heap.size w w' := by
  obtain ⟨a, rfl⟩ := Int.eq_ofNat_of_zero_le hx.1
  obtain ⟨b, rfl⟩ := Int.eq_ofNat_of_zero_le hy.1
  have ha : a < 4294967296 := by omega
  have hb : b < 4294967296 := by omega
  clear hx hy
  have HT := hide ht
  clear ht
  have HS := hide hs
  unfold maxLen at hs
  have HE := hide (steps_eq a b s.data.toList ha hb)
  by_cases hl : s.size ≤ 2000
  · have hg : ¬ (2000 : Int) < (s.size : Int) := by omega
    go_enter Tryd.func8, Tryd.ntmps8
    go_wp2_with fail
    refine (shown_any _ HT.out).mono ?_
    rintro e w1 ⟨rfl, rfl⟩
    go_wp2_with fail
    refine (add_at _ a _ _ rfl ha HS.out HT.out).mono ?_
    rintro e w1 ⟨rfl, rfl⟩
    go_wp2_with fail
    refine (add_at _ b _ _ rfl hb HS.out HT.out).mono ?_
    rintro e w1 ⟨rfl, rfl⟩
    go_wp2
    go_ret
    exact ⟨ret_true HE.out, Below.refl _ _⟩
  · have hg : (2000 : Int) < (s.size : Int) := by omega
    go_enter Tryd.func8, Tryd.ntmps8
    go_wp2_with fail
    refine (shown_any _ HT.out).mono ?_
    rintro e w1 ⟨rfl, rfl⟩
    go_wp2
    go_ret
    exact ⟨rfl, Below.refl _ _⟩
end Go.Proofs.YtogiicldndmcaaaDoor
