/-
  FrameBack: the walk.
-/
import Derived.Test.YtdpkpcoadojkhaaDoorFrmOfW
namespace Go.Proofs.YtdpkpcoadojkhaaDoor
open Go.RowKit
open Frm (Fr)

set_option maxRecDepth 100000 in
set_option maxHeartbeats 3200000 in
theorem walkFrameBack (x : Int) (body rest : ByteArray) (w : World) (hx : 0 ≤ x ∧ x ≤ 18446744073709551615) (hb : body.size ≤ maxLen) (hr : rest.size ≤ maxLen) (hT : Tab w) :
    Calls Tryd.prog 4 #[.int .u64 x, .string body, .string rest] w fun e w' => e = .returned (.bool true) ∧ Below w.heap.size w w' := by
  obtain ⟨q, rfl⟩ := Int.eq_ofNat_of_zero_le hx.1
  have hq : q < 18446744073709551616 := by omega
  have HT := hide hT
  clear hT hx
  unfold maxLen at hb hr
  by_cases h1 : body.size ≤ 2000
  · by_cases h2 : rest.size ≤ 1000
    · obtain ⟨t, rfl⟩ : ∃ t, body = Num.bs t := ⟨body.data.toList, (Num.bs_of body).symm⟩
      obtain ⟨r, rfl⟩ : ∃ r, rest = Num.bs r := ⟨rest.data.toList, (Num.bs_of rest).symm⟩
      rw [Num.bs_size] at h1 h2
      have hts : (Num.bs t).size = t.length := Num.bs_size _
      have hrs : (Num.bs r).size = r.length := Num.bs_size _
      have hps : (Num.bs (Frm.put (q, t))).size = Frm.size (q, t) := Num.bs_size _
      have hok : Frm.Ok (q, t) := ⟨hq, h1⟩
      have hz1 := Frm.size_le hok
      have hz2 : t.length + 6 ≤ Frm.size (q, t) := Frm.size_ge (q, t)
      have HF := hide (fun wx hTx => ffirst_any (Frm.put (q, t) ++ r) wx (by rw [List.length_append]; unfold maxLen; unfold Frm.size at hz1; omega) hTx)
      unfold firstV at HF
      rw [Frm.first_put hok r, ← app_bs] at HF
      unfold someV fq fb fz at HF
      go_enter Tryd.func4, Tryd.ntmps4
      go_wp2_with fail
      refine (fshown_any _ HT.out).mono ?_
      rintro e w1 ⟨rfl, hb1⟩
      go_wp2_with fail
      refine (fput_ok q t _ hq h1 (HT.out.below hb1)).mono ?_
      rintro e w2 ⟨rfl, hb2⟩
      have hb3 := bl hb1 hb2
      clear hb1 hb2
      go_wp2_with fail
      refine (HF.out _ (HT.out.below hb3)).mono ?_
      rintro e w3 ⟨rfl, hb4⟩
      have hb5 := bl hb3 hb4
      clear hb3 hb4
      go_wp2_with fail
      have hb6 := hb5.alloc hb5.size (Obj.cells #[.int .u64 (q : Int), .string (Num.bs t), .int .i64 ((Frm.size (q, t) : Nat) : Int)] 28)
      refine (fsize_ok q t _ hq h1 (HT.out.below hb6)).mono ?_
      rintro e w5 ⟨rfl, hb7⟩
      have hb8 := bl hb6 hb7
      clear hb5 hb6 hb7
      go_wp2
      go_ret
      exact ⟨fret_b (decide_eq_true (by omega)), hb8⟩
    · go_enter Tryd.func4, Tryd.ntmps4
      go_wp2_with fail
      refine (fshown_any _ HT.out).mono ?_
      rintro e w1 ⟨rfl, hb1⟩
      go_wp2
      go_ret
      exact ⟨rfl, hb1⟩
  · go_enter Tryd.func4, Tryd.ntmps4
    go_wp2_with fail
    refine (fshown_any _ HT.out).mono ?_
    rintro e w1 ⟨rfl, hb1⟩
    go_wp2
    go_ret
    exact ⟨rfl, hb1⟩
end Go.Proofs.YtdpkpcoadojkhaaDoor
