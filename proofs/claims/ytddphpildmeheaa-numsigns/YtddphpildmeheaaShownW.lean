/-
  The chapter's examples, which every statement of layer 1 asks first: they hold.
-/
import Derived.Test.YtddphpildmeheaaPutW
namespace Go.Proofs.Ytddphpildmeheaa
open Go.RowKit

theorem ex_put : Num.bs (Num.put (300 : Int).toNat) = ⟨#[172, 2]⟩ := by
  rw [show (300 : Int).toNat = 300 from rfl, Num.put_ge (by decide), Num.put_lt (by decide)]; rfl
theorem ex_neg : Num.bs (Num.put (Num.zig (-1))) = ⟨#[1]⟩ := by
  rw [show Num.zig (-1) = 1 from rfl, Num.put_lt (by decide)]; rfl
theorem ex_pos : Num.bs (Num.put (Num.zig 1)) = ⟨#[2]⟩ := by
  rw [show Num.zig 1 = 2 from rfl, Num.put_lt (by decide)]; rfl
theorem ex_text : Num.bs (Num.put (ByteArray.size ⟨#[97]⟩) ++ (ByteArray.data ⟨#[97]⟩).toList) = ⟨#[1, 97]⟩ := by
  rw [show ByteArray.size ⟨#[97]⟩ = 1 from rfl, Num.put_lt (by decide)]; rfl

set_option maxRecDepth 100000 in
set_option maxHeartbeats 400000 in
theorem shown_any (w : World) : Calls Try.prog 10 #[] w fun e w' => e = .returned (.bool true) ∧ Below w.heap.size w w' := by
  go_enter Try.func10, Try.ntmps10
  go_wp2_with fail
  refine (put_int _ _ (by omega) (by omega)).mono ?_
  rw [ex_put]
  rintro e w1 ⟨rfl, hb1⟩
  go_wp2_with fail
  refine (putInt_any _ _ (by omega) (by omega)).mono ?_
  rw [ex_neg]
  rintro e w2 ⟨rfl, hb2⟩
  go_wp2_with fail
  refine (putInt_any _ _ (by omega) (by omega)).mono ?_
  rw [ex_pos]
  rintro e w3 ⟨rfl, hb3⟩
  go_wp2_with fail
  refine (putText_any _ _ (by decide)).mono ?_
  rw [ex_text]
  rintro e w4 ⟨rfl, hb4⟩
  go_wp2
  go_ret
  have hz1 := hb1.size
  have hz2 := hb2.size
  have hz3 := hb3.size
  exact ⟨rfl, hb1.trans ((hb2.mono hz1).trans ((hb3.mono (by omega)).trans (hb4.mono (by omega))))⟩

end Go.Proofs.Ytddphpildmeheaa
