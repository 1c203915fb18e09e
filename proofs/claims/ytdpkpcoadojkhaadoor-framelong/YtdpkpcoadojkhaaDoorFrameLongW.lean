/-
  FrameLong: the walk.
-/
import Derived.Test.YtdpkpcoadojkhaaDoorFrmOfW
import Derived.Test.YtdpkpcoadojkhaaDoorPickW
namespace Go.Proofs.YtdpkpcoadojkhaaDoor
open Go.RowKit
open Frm (Fr)

set_option maxRecDepth 100000 in
set_option maxHeartbeats 3200000 in
theorem walkFrameLong (x c : Int) (w : World) (hx : 0 ≤ x ∧ x ≤ 18446744073709551615) (hc : -9223372036854775808 ≤ c ∧ c ≤ 9223372036854775807) (hT : Tab w) :
    Calls Tryd.prog 8 #[.int .u64 x, .int .i64 c] w fun e w' => e = .returned (.bool true) ∧ Below w.heap.size w w' := by
  obtain ⟨q, rfl⟩ := Int.eq_ofNat_of_zero_le hx.1
  have hq : q < 18446744073709551616 := by omega
  have HT := hide hT
  clear hT hx
  have hpk := pk_lt c (n := 20) (by decide)
  have HPK := hide (fun wx => pick_any c 20 wx hc.1 hc.2 (by decide) (by decide))
  generalize pk c 20 = k at *
  obtain ⟨n, hn⟩ : ∃ n, n = 1990 + k := ⟨_, rfl⟩
  have hkn : (1990 : Int) + (k : Int) = (n : Int) := by omega
  have hnl : n < 2010 := by omega
  go_enter Tryd.func8, Tryd.ntmps8
  go_wp2_with fail
  refine (fshown_any _ HT.out).mono ?_
  rintro e w1 ⟨rfl, hb1⟩
  go_wp2_with fail
  refine (HPK.out _).mono ?_
  rintro e w2 ⟨rfl, hw⟩
  rw [hw]
  clear hw HPK hn
  obtain ⟨wm, hrun, hms, hmb, hBA⟩ := make_of (P := Tryd.prog) w1 49 5 n Tryd.underlying49 info_u8 (by omega)
  have hcv := hBA.conv (P := Tryd.prog) n 49 9 5 Tryd.underlying49 Tryd.underlying5 Tryd.underlying9
  rw [List.length_replicate] at hcv
  have hb2 := bl hb1 hmb
  clear hms hmb hBA hb1
  have hbl : (List.replicate n (0 : UInt8)).length = n := List.length_replicate
  generalize List.replicate n (0 : UInt8) = t at *
  have hts : (Num.bs t).size = n := by rw [Num.bs_size]; exact hbl
  by_cases hlong : 2000 < n
  · have HP := hide (fun wx => fput_long q t wx (by omega))
    have HZ := hide (fun wx => fsize_long q t wx (by omega))
    clear hbl
    go_wp2_with fail
    refine (HP.out _).mono ?_
    rintro e w3 ⟨rfl, hb3⟩
    have hb4 := bl hb2 hb3
    clear hb2 hb3 hcv hrun
    go_wp2_with fail
    refine (HZ.out _).mono ?_
    rintro e w5 ⟨rfl, hb5⟩
    have hb6 := bl hb4 hb5
    clear hb4 hb5
    go_wp2
    go_ret
    exact ⟨rfl, hb6⟩
  · have hok : Frm.Ok (q, t) := ⟨hq, by simp only; omega⟩
    have HP := hide (fun wx hTx => fput_ok q t wx hq (by omega) hTx)
    have hz1 := Frm.size_le hok
    have hps : (Num.bs (Frm.put (q, t))).size = Frm.size (q, t) := Num.bs_size _
    have HF := hide (fun wx hTx => ffirst_any (Frm.put (q, t)) wx (by unfold maxLen; unfold Frm.size at hz1; omega) hTx)
    unfold firstV at HF
    rw [Frm.first_put0 hok] at HF
    unfold someV fq fb fz at HF
    clear hbl
    go_wp2_with fail
    refine (HP.out _ (HT.out.below hb2)).mono ?_
    rintro e w3 ⟨rfl, hb3⟩
    have hb4 := bl hb2 hb3
    clear hb2 hb3 hcv hrun
    go_wp2_with fail
    refine (HF.out _ (HT.out.below hb4)).mono ?_
    rintro e w5 ⟨rfl, hb5⟩
    have hb6 := bl hb4 hb5
    clear hb4 hb5
    go_wp2
    go_ret
    exact ⟨rfl, hb6.alloc hb6.size _⟩
end Go.Proofs.YtdpkpcoadojkhaaDoor
