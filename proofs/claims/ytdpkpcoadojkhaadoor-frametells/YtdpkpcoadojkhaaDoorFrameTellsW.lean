/-
  FrameTells: the walk.
-/
import Derived.Test.YtdpkpcoadojkhaaDoorFrmOfW
namespace Go.Proofs.YtdpkpcoadojkhaaDoor
open Go.RowKit
open Frm (Fr)

set_option maxRecDepth 100000 in
set_option maxHeartbeats 3200000 in
theorem walkFrameTells (x : Int) (body s0 : ByteArray) (w : World) (hx : 0 ≤ x ∧ x ≤ 18446744073709551615) (hb : body.size ≤ maxLen) (hr : s0.size ≤ maxLen) (hT : Tab w) :
    Calls Tryd.prog 3 #[.int .u64 x, .string body, .string s0] w fun e w' => e = .returned (.bool true) ∧ Below w.heap.size w w' := by
  obtain ⟨q, rfl⟩ := Int.eq_ofNat_of_zero_le hx.1
  have hq : q < 18446744073709551616 := by omega
  have HT := hide hT
  clear hT hx
  unfold maxLen at hb hr
  by_cases h1 : body.size ≤ 3000
  · by_cases h2 : s0.size ≤ 3000
    · obtain ⟨t, rfl⟩ : ∃ t, body = Num.bs t := ⟨body.data.toList, (Num.bs_of body).symm⟩
      obtain ⟨s, rfl⟩ : ∃ s, s0 = Num.bs s := ⟨s0.data.toList, (Num.bs_of s0).symm⟩
      rw [Num.bs_size] at h1 h2
      have hts : (Num.bs t).size = t.length := Num.bs_size _
      have hss : (Num.bs s).size = s.length := Num.bs_size _
      have hsm : s.length ≤ maxLen := by unfold maxLen; omega
      obtain ⟨P, E, Z, HP, HR, HZ, hPl, hPz⟩ : ∃ (P : ByteArray) (E : Int) (Z : Nat), Hid (∀ wx, Tab wx → Calls Tryd.prog 11 #[.int .u64 (q : Int), .string (Num.bs t)] wx fun e w' => e = .returned (.tuple #[.string P, .int .i64 E]) ∧ Below wx.heap.size wx w') ∧
          Hid (∀ wx, Calls Tryd.prog 12 #[.int .u64 (q : Int), .string (Num.bs t)] wx fun e w' => e = .returned (.tuple #[.string P, .int .i64 E]) ∧ Below wx.heap.size wx w') ∧
          Hid (∀ wx, Tab wx → Calls Tryd.prog 17 #[.int .u64 (q : Int), .string (Num.bs t)] wx fun e w' => e = .returned (.int .i64 (Z : Int)) ∧ Below wx.heap.size wx w') ∧ P.size = Z ∧ Z ≤ 3000 := by
        by_cases ht : t.length ≤ 2000
        · exact ⟨_, _, _, hide (fun wx hTx => fput_ok q t wx hq ht hTx), hide (fun wx => rfput_ok q t wx hq ht), hide (fun wx hTx => fsize_ok q t wx hq ht hTx), Num.bs_size _, by have := Frm.size_le (f := (q, t)) ⟨hq, ht⟩; omega⟩
        · exact ⟨⟨#[]⟩, 7, 0, hide (fun wx _ => fput_long q t wx (by omega)), hide (fun wx => rfput_long q t wx (by omega)), hide (fun wx _ => fsize_long q t wx (by omega)), rfl, by omega⟩
      obtain ⟨A, B, C, G, HF, HG⟩ : ∃ (A : Int) (B : ByteArray) (C G : Int), Hid (∀ wx, Tab wx → Calls Tryd.prog 13 #[.string (Num.bs s)] wx fun e w' => e = .returned (.tuple #[.agg #[.int .u64 A, .string B, .int .i64 C], .int .i64 G]) ∧ Below wx.heap.size wx w') ∧
          Hid (∀ wx, Calls Tryd.prog 14 #[.string (Num.bs s)] wx fun e w' => e = .returned (.tuple #[.agg #[.int .u64 A, .string B, .int .i64 C], .int .i64 G]) ∧ Below wx.heap.size wx w') := by
        have a1 := fun wx hTx => ffirst_any s wx hsm hTx
        have a2 := fun wx => rfirst_any s wx hsm
        unfold firstV at a1 a2
        cases hf : Frm.first s with
        | none => rw [hf] at a1 a2; exact ⟨_, _, _, _, hide a1, hide a2⟩
        | some f => rw [hf] at a1 a2; exact ⟨_, _, _, _, hide a1, hide a2⟩
      go_enter Tryd.func3, Tryd.ntmps3
      go_wp2_with fail
      refine (fshown_any _ HT.out).mono ?_
      rintro e w1 ⟨rfl, hb1⟩
      go_wp2_with fail
      refine (HP.out _ (HT.out.below hb1)).mono ?_
      rintro e w2 ⟨rfl, hb2⟩
      have hb3 := bl hb1 hb2
      clear hb1 hb2
      go_wp2_with fail
      refine (HR.out _).mono ?_
      rintro e w4 ⟨rfl, hb4⟩
      have hb5 := bl hb3 hb4
      clear hb3 hb4
      go_wp2_with fail
      refine (HF.out _ (HT.out.below hb5)).mono ?_
      rintro e w6 ⟨rfl, hb6⟩
      have hb7 := bl hb5 hb6
      clear hb5 hb6
      go_wp2_with fail
      have hb8 := hb7.alloc hb7.size (Obj.cells #[.int .u64 A, .string B, .int .i64 C] 28)
      refine (HG.out _).mono ?_
      rintro e w8 ⟨rfl, hb9⟩
      obtain ⟨c0, c1, c2, _, _, _⟩ := three_later hb9
      have hlt6 : w6.heap.size < w8.heap.size := by have := hb9.size; simp at this; omega
      have hb10 := bl hb8 hb9
      clear hb7 hb8 hb9
      go_wp2_with fail
      have hal := fbel_alloc w8 (Obj.cells #[.int .u64 A, .string B, .int .i64 C] 31)
      have hb11 := bl hb10 hal
      have d := three_later (Below.refl (w8.alloc (Obj.cells #[.int .u64 A, .string B, .int .i64 C] 31)).heap.size _)
      obtain ⟨d0, d1, d2, _, _, _⟩ := d
      have c0 := (hal.cell (p := ⟨w6.heap.size, 0, none⟩) hlt6).trans c0
      have c1 := (hal.cell (p := ⟨w6.heap.size, 1, none⟩) hlt6).trans c1
      have c2 := (hal.cell (p := ⟨w6.heap.size, 2, none⟩) hlt6).trans c2
      have hlt8 : w8.heap.size < (w8.alloc (Obj.cells #[.int .u64 A, .string B, .int .i64 C] 31)).heap.size := by simp
      generalize w8.alloc (Obj.cells #[.int .u64 A, .string B, .int .i64 C] 31) = w9 at *
      have hlt69 : w6.heap.size < w9.heap.size := by omega
      clear hal hb10
      refine (scan_any s _ (by omega) (HT.out.below hb11)).mono ?_
      rintro e w10 ⟨⟨xv, rfl, hxo⟩, hb12⟩
      obtain ⟨xa, xc, rfl, hxc, hxp, _⟩ := hxo.view
      have c0 := (hb12.cell (p := ⟨w6.heap.size, 0, none⟩) hlt69).trans c0
      have c1 := (hb12.cell (p := ⟨w6.heap.size, 1, none⟩) hlt69).trans c1
      have c2 := (hb12.cell (p := ⟨w6.heap.size, 2, none⟩) hlt69).trans c2
      have d0 := (hb12.cell (p := ⟨w8.heap.size, 0, none⟩) hlt8).trans d0
      have d1 := (hb12.cell (p := ⟨w8.heap.size, 1, none⟩) hlt8).trans d1
      have d2 := (hb12.cell (p := ⟨w8.heap.size, 2, none⟩) hlt8).trans d2
      have hz10 := hb12.size
      have hb13 := bl hb11 hb12
      clear hb11 hb12 hxo
      go_wp2_with fail
      refine (rscan_any s _ (by omega)).mono ?_
      rintro e w11 ⟨⟨yv, rfl, hyo⟩, hb14⟩
      obtain ⟨ya, yc, rfl, hyc, hyp, _⟩ := hyo.view
      have c0 := (hb14.cell (p := ⟨w6.heap.size, 0, none⟩) (by show w6.heap.size < _; omega)).trans c0
      have c1 := (hb14.cell (p := ⟨w6.heap.size, 1, none⟩) (by show w6.heap.size < _; omega)).trans c1
      have c2 := (hb14.cell (p := ⟨w6.heap.size, 2, none⟩) (by show w6.heap.size < _; omega)).trans c2
      have d0 := (hb14.cell (p := ⟨w8.heap.size, 0, none⟩) (by show w8.heap.size < _; omega)).trans d0
      have d1 := (hb14.cell (p := ⟨w8.heap.size, 1, none⟩) (by show w8.heap.size < _; omega)).trans d1
      have d2 := (hb14.cell (p := ⟨w8.heap.size, 2, none⟩) (by show w8.heap.size < _; omega)).trans d2
      have HXP := hide (hxp.below hb14)
      have HYP := hide hyp
      have hb15 := bl hb13 hb14
      clear hb13 hb14 hyo hxp hyp
      go_wp2_with fail
      have hz11 : w8.heap.size < w11.heap.size := block_lt_of_cell d0
      refine (HZ.out _ (HT.out.below hb15)).mono ?_
      rintro e w12 ⟨rfl, hb16⟩
      have c0 := (hb16.cell (p := ⟨w6.heap.size, 0, none⟩) (by show w6.heap.size < _; omega)).trans c0
      have c1 := (hb16.cell (p := ⟨w6.heap.size, 1, none⟩) (by show w6.heap.size < _; omega)).trans c1
      have c2 := (hb16.cell (p := ⟨w6.heap.size, 2, none⟩) (by show w6.heap.size < _; omega)).trans c2
      have d0 := (hb16.cell (p := ⟨w8.heap.size, 0, none⟩) (by show w8.heap.size < _; omega)).trans d0
      have d1 := (hb16.cell (p := ⟨w8.heap.size, 1, none⟩) (by show w8.heap.size < _; omega)).trans d1
      have d2 := (hb16.cell (p := ⟨w8.heap.size, 2, none⟩) (by show w8.heap.size < _; omega)).trans d2
      have HXP := hide (HXP.out.below hb16)
      have HYP := hide (HYP.out.below hb16)
      have hb17 := bl hb15 hb16
      have hsl : (Frm.scan s).length ≤ 90000 := by
        have h1 := fr_len (Frm.scan s)
        obtain ⟨_, r, hr1, _⟩ := Frm.scan_of s.length s (Nat.le_refl _)
        have h2 := congrArg List.length hr1
        rw [List.length_append] at h2
        unfold total at h1
        omega
      clear hb15 hb16 hz11
      go_wp2_with fail
      refine (as_any xa xc (Frm.scan s) _ HXP.out hsl).mono ?_
      rintro e w13 ⟨v, rfl, hvo, hb18⟩
      obtain ⟨va, vc, rfl, hvc, hvp, _⟩ := hvo.view
      have hb19 := bl hb17 hb18
      have HYP := hide (HYP.out.below hb18)
      have HVP := hide hvp
      clear hb17 hb18 hvo hvp
      go_wp2_with fail
      refine (fsame_yes va vc (Frm.scan s) ya yc _ _ HVP.out HYP.out rfl (by omega)).mono ?_
      rintro e w14 ⟨rfl, hb20⟩
      have hb21 := bl hb19 hb20
      clear hb19 hb20
      go_wp2
      go_ret
      exact ⟨rfl, hb21⟩
    · go_enter Tryd.func3, Tryd.ntmps3
      go_wp2_with fail
      refine (fshown_any _ HT.out).mono ?_
      rintro e w1 ⟨rfl, hb1⟩
      go_wp2
      go_ret
      exact ⟨rfl, hb1⟩
  · go_enter Tryd.func3, Tryd.ntmps3
    go_wp2_with fail
    refine (fshown_any _ HT.out).mono ?_
    rintro e w1 ⟨rfl, hb1⟩
    go_wp2
    go_ret
    exact ⟨rfl, hb1⟩
end Go.Proofs.YtdpkpcoadojkhaaDoor
