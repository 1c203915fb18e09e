/-
  The chapter's example.
-/
import Derived.Test.YtleomppgkikhnaaGreatSwpW
import Derived.Test.YtleomppgkikhnaaGreatPlain
import Derived.Test.YtleomppgkikhnaaGreatDskShownW
import Derived.Test.YtleomppgkikhnaaGreatDskListW
namespace Go.Proofs.YtleomppgkikhnaaGreat
open Go.RowKit
open Dsk (By Dk)

set_option maxRecDepth 100000 in
set_option maxHeartbeats 800000 in
theorem sshown_any (w : World) : Calls Tryz.prog 4 #[] w fun e w' => e = .returned (.bool true) ∧ Below w.heap.size w w' := by
  obtain ⟨f1, f2, f3, f4⟩ := Dsk.one_first 9 [120] (by decide)
  have F1 := hide f1
  have F2 := hide (f2.now.read f3)
  have F3 := hide f2.now.list
  have F4 := hide f4
  clear f1 f2 f3 f4
  go_enter Tryz.func4, Tryz.ntmps4
  go_wp2_with fail
  refine (new_dk 9 _ (by omega)).mono ?_
  rintro e w1 ⟨rfl, hd1, hb1⟩
  obtain ⟨q, hq⟩ : ∃ q, w.heap.size + 1 = q := ⟨_, rfl⟩
  rw [hq] at hd1 ⊢
  have HD1 := hide hd1
  have HB1 := hide (Own.new hb1)
  clear hd1 hq hb1
  go_wp2_with fail
  refine (write_dk HD1.out Dsk.ck ⟨#[120]⟩ (by decide) (by decide)).mono ?_
  rintro e w2 ⟨rfl, hg2⟩
  rw [show (Dsk.write Dsk.ck (⟨#[120]⟩ : ByteArray).data.toList (Dsk.fresh 9)).2 = 0 from F1.out]
  have HD2 := hide hg2.dk
  have HB2 := hide (HB1.out.next hg2.only)
  clear hg2
  go_wp2_with fail
  refine (ops_dk HD2.out).mono ?_
  rintro e w3 ⟨rfl, hw⟩
  rw [hw, show (Dsk.write Dsk.ck (⟨#[120]⟩ : ByteArray).data.toList (Dsk.fresh 9)).1.ops = 6 from F4.out]
  clear hw
  go_wp2_with fail
  refine (read_dk HD2.out Dsk.ck (by decide)).mono ?_
  rintro e w4 ⟨rfl, hw⟩
  rw [hw, show Dsk.read Dsk.ck (Dsk.write Dsk.ck (⟨#[120]⟩ : ByteArray).data.toList (Dsk.fresh 9)).1 = ([120], 0) from F2.out, show Num.bs [120] = (⟨#[120]⟩ : ByteArray) from rfl]
  clear hw
  go_wp2_with fail
  refine (list_dk HD2.out (by decide)).mono ?_
  rintro e w5 ⟨v, rfl, ho, hb5⟩
  obtain ⟨a, c, rfl⟩ := own_slice ho
  rw [show Dsk.list (Dsk.write Dsk.ck (⟨#[120]⟩ : ByteArray).data.toList (Dsk.fresh 9)).1 = [Dsk.ck] from F3.out]
  have HB5 := hide (HB2.out.then hb5)
  clear ho hb5
  go_wp2
  go_ret
  exact ⟨rfl, HB5.out.below⟩

end Go.Proofs.YtleomppgkikhnaaGreat
