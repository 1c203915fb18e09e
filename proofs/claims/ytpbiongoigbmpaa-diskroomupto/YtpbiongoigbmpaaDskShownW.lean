/-
  The chapter's example.
-/
import Derived.Test.YtpbiongoigbmpaaDskCrashW
namespace Go.Proofs.Ytpbiongoigbmpaa
open Go.RowKit
open Dsk (Nm Hold Fl Ct By Dk FRel NRel)

theorem keep_one (w : World) (x : Int) (t : TypeId) : KeepAt (w.alloc (.cells #[.int .i64 x] t)) (some ⟨w.heap.size, 0, none⟩) [x] :=
  ⟨w.heap.size, 0, fun _ => ⟨rfl, by simp⟩, fun j hj => by
    have : j = 0 := by simpa using hj
    subst this
    simp⟩
theorem more_in {S : Nat → Prop} {w0 a b : World} (h : ∀ k, S k → w0.heap.size ≤ k) (ha : w0.heap.size ≤ a.heap.size) : ∀ k, more S a b k → w0.heap.size ≤ k := fun k hk => by
  rcases hk with hk | hk
  · exact h k hk
  · omega
theorem noneS_in {w0 a b : World} (ha : w0.heap.size ≤ a.heap.size) : ∀ k, more noneS a b k → w0.heap.size ≤ k := more_in (fun _ h => h.elim) ha
/-- Since w0 nothing that was there has changed, and what S has is new. -/
structure Own (w0 : World) (S : Nat → Prop) (w : World) : Prop where
  below : Below w0.heap.size w0 w
  all : ∀ k, S k → w0.heap.size ≤ k
theorem Own.new {w0 w : World} (h : Below w0.heap.size w0 w) : Own w0 (more noneS w0 w) w := ⟨h, noneS_in (Nat.le_refl _)⟩
theorem Own.next {w0 w w' : World} {S : Nat → Prop} (h : Own w0 S w) (ho : Only S w w') : Own w0 (more S w w') w' := ⟨h.below.trans (ho.below h.below.size h.all), more_in h.all h.below.size⟩
theorem Own.only {w0 w w' : World} {S : Nat → Prop} (h : Own w0 S w) (ho : Only S w w') : Own w0 S w' := ⟨h.below.trans (ho.below h.below.size h.all), h.all⟩
theorem Own.then {w0 w w' : World} {S : Nat → Prop} (h : Own w0 S w) (hb : Below w.heap.size w w') : Own w0 S w' := ⟨bl h.below hb, h.all⟩
def nA : ByteArray := ⟨#[97]⟩
def shD : Dk := (Dsk.append nA [120, 121, 122] (Dsk.syncDir (Dsk.create nA (Dsk.fresh 9)).1).1).1
theorem sh_create : (Dsk.create nA (Dsk.fresh 9)).2 = 0 := by decide
theorem sh_sync : (Dsk.syncDir (Dsk.create nA (Dsk.fresh 9)).1).2 = 0 := by decide
theorem sh_app : (Dsk.append nA [120, 121, 122] (Dsk.syncDir (Dsk.create nA (Dsk.fresh 9)).1).1).2 = 0 := by decide
theorem sh_read : Dsk.read nA (Dsk.crash 0 [2] shD) = ([120, 121], 0) := by decide
set_option maxRecDepth 100000 in
set_option maxHeartbeats 800000 in
theorem dshown_any (w : World) : Calls Try.prog 4 #[] w fun e w' => e = .returned (.bool true) ∧ Below w.heap.size w w' := by
  go_enter Try.func4, Try.ntmps4
  go_wp2_with fail
  refine (new_dk 9 _ (by omega)).mono ?_
  rintro e w1 ⟨rfl, hd1, hb1⟩
  obtain ⟨q, hq⟩ : ∃ q, w.heap.size + 1 = q := ⟨_, rfl⟩
  rw [hq] at hd1 ⊢
  have HD1 := hide hd1
  have HB1 := hide (Own.new hb1)
  clear hd1 hq hb1
  go_wp2_with fail
  refine (create_dk HD1.out nA (by decide) (by omega)).mono ?_
  rintro e w2 ⟨rfl, hd2, ho2⟩
  rw [sh_create]
  have HD2 := hide hd2
  have HB2 := hide (HB1.out.next ho2)
  clear hd2 ho2
  go_wp2_with fail
  refine (syncDir_dk HD2.out (by omega)).mono ?_
  rintro e w3 ⟨rfl, hd3, ho3⟩
  rw [sh_sync]
  have HD3 := hide hd3
  have HB3 := hide (HB2.out.next ho3)
  clear hd3 ho3
  go_wp2_with fail
  refine (append_dk HD3.out nA ⟨#[120, 121, 122]⟩ (by decide) (by decide)).mono ?_
  rintro e w4 ⟨rfl, hd4, ho4⟩
  rw [show (Dsk.append nA (⟨#[120, 121, 122]⟩ : ByteArray).data.toList (Dsk.syncDir (Dsk.create nA (Dsk.fresh 9)).1).1).2 = 0 from sh_app]
  have HD4 : Hid (IsDk _ w4 q shD _) := hide hd4
  have HB4 := hide (HB3.out.next ho4)
  clear hd4 ho4
  go_wp2_with fail
  have b5 : Below w4.heap.size w4 (w4.alloc (.cells #[.int .i64 2] 3)) := (Below.refl _ w4).alloc (Nat.le_refl _) _
  have hk5 := keep_one w4 2 3
  have HD5 := hide (HD4.out.below b5)
  have HB5 := hide (HB4.out.then b5)
  refine (crash_dk HD5.out (by decide) 0 _ 1 [2] hk5 (by decide)).mono ?_
  rintro e w6 ⟨c, rfl, hd6, hb6⟩
  have HB6 := hide (HB5.out.then hb6)
  have HD6 := hide hd6
  clear hd6 hb6 b5 hk5
  go_wp2_with fail
  refine (read_dk HD6.out nA (by decide)).mono ?_
  rintro e w7 ⟨rfl, hw⟩
  rw [hw, sh_read, show Num.bs [120, 121] = (⟨#[120, 121]⟩ : ByteArray) from rfl]
  clear hw
  go_wp2
  go_ret
  exact ⟨rfl, HB6.out.below⟩

end Go.Proofs.Ytpbiongoigbmpaa
