/-
  The walk of SampleEven.
-/
import Derived.Test.YtocelglgafmfnaaSmpOfW
import Derived.Test.YtocelglgafmfnaaSmpFormW
import Derived.Test.YtocelglgafmfnaaSmpEvenM
import Derived.Test.YtocelglgafmfnaaBytesW
import Derived.BigRegion
namespace Go.Proofs.Ytocelglgafmfnaa
open Go.RowKit
open Smp (Sm)

theorem info_u8e : (Try.prog.info? 5).map (fun i => (i.zero, i.size, i.bytes)) = some (some (.int .u8 0), 1, 1) := by kernel_rfl
theorem OwnS.at' {w : World} {B n cap : Nat} {a : Option Addr} {ss : List Sm} (h : OwnS w B (.slice a n cap) ss) : ss.length = n ∧ ss.length ≤ cap ∧ SmpsAt w a ss := by
  obtain ⟨a', cap', hv, h1, h2, _⟩ := h.view
  simp only [Value.slice.injEq] at hv
  obtain ⟨rfl, rfl, rfl⟩ := hv
  exact ⟨rfl, h1, h2⟩

theorem bs_ext (l : List UInt8) (i j : Nat) : (Num.bs l).extract i j = Num.bs ((l.take j).drop i) := by
  apply ByteArray.ext
  apply Array.ext'
  simp [Num.bs, List.take_drop]
  rcases Nat.le_total i j with h | h
  · rw [Nat.add_sub_cancel' h]
  · rw [List.drop_eq_nil_of_le (by simp; omega), List.drop_eq_nil_of_le (by simp; omega)]
theorem even_cut (b c : UInt8) (C : List UInt8) (M n1 : Nat) (h : n1 = C.length + 1) :
    (Num.bs (c :: (C ++ List.replicate M 0))).extract 1 n1 = Num.bs C ∧ (Num.bs (b :: C)).extract 1 n1 = Num.bs C ∧ (Num.bs (c :: (C ++ List.replicate M 0))).extract n1 (n1 + M) = Num.bs (List.replicate M 0) ∧
    (Num.bs (b :: C)).size = n1 ∧ (Num.bs (c :: (C ++ List.replicate M 0))).size = n1 + M := by
  subst h
  refine ⟨?_, ?_, ?_, ?_, ?_⟩
  · rw [bs_ext]; simp
  · rw [bs_ext]; simp
  · rw [bs_ext, List.take_of_length_le (by simp; omega)]; simp
  · rw [Num.bs_size]; simp
  · rw [Num.bs_size]; simp; omega

set_option maxRecDepth 100000 in
set_option maxHeartbeats 3200000 in
theorem walkSampleEven (t s v c : Int) (w : World) (ht : 0 ≤ t ∧ t ≤ 18446744073709551615) (hs : 0 ≤ s ∧ s ≤ 18446744073709551615) (hv : -9223372036854775808 ≤ v ∧ v ≤ 9223372036854775807) (hc : -9223372036854775808 ≤ c ∧ c ≤ 9223372036854775807) :
    Calls Try.prog 9 #[.int .u64 t, .int .u64 s, .int .i64 v, .int .i64 c] w fun e w' => e = .returned (.bool true) ∧ Below w.heap.size w w' := by
  obtain ⟨i0, hi, hz0, hz1, hz2⟩ := info_parts info_smp
  obtain ⟨hc0, hc1⟩ := hc
  have HPK := hide (fun wx => pick_any c 19 wx hc0 hc1 (by omega) (by omega))
  have hq := pk_lt c (n := 19) (by omega)
  generalize pk c 19 = q at *
  obtain ⟨A, hA⟩ : ∃ A, t.tmod 1099511627776 = A := ⟨_, rfl⟩
  have hAb : 0 ≤ A ∧ A < 1099511627776 := by rw [← hA, Int.tmod_eq_emod_of_nonneg ht.1]; omega
  obtain ⟨r0, hr0⟩ : ∃ r0, s.tmod 1099511627776 = r0 := ⟨_, rfl⟩
  have hrb : 0 ≤ r0 ∧ r0 < 1099511627776 := by rw [← hr0, Int.tmod_eq_emod_of_nonneg hs.1]; omega
  obtain ⟨D, hD⟩ : ∃ D, 1 + r0 = D := ⟨_, rfl⟩
  have hDb : 0 < D ∧ D ≤ 1099511627776 := by omega
  obtain ⟨N, hN⟩ : ∃ N, q + 2 = N := ⟨_, rfl⟩
  have hNi : 2 + (q : Int) = (N : Int) := by omega
  have hNq : (N : Int) - 2 = (q : Int) := by omega
  have hN2 : 2 ≤ N ∧ N ≤ 20 := by omega
  obtain ⟨M, hM⟩ : ∃ M, 2 * q = M := ⟨_, rfl⟩
  have hMi : 2 * (q : Int) = (M : Int) := by omega
  have hMb : M ≤ 36 := by omega
  have HCK := hide (Smp.ev_check (A := A) (v := v) hDb.1 (m := N) (by omega) hN2.2)
  have HC2 := hide (Smp.ev_check (A := A) (v := v) hDb.1 (m := 2) (by omega) (by omega))
  have HOK := hide (Smp.ev_ok (A := A) (d := D) (v := v) hAb hDb hv N 0 (by omega))
  have HO2 := hide (Smp.ev_ok (A := A) (d := D) (v := v) hAb hDb hv 2 0 (by omega))
  have HPN := hide (Smp.ev_put (A := A) (v := v) hDb q (by omega))
  have HP2 := hide (Smp.ev_put (A := A) (v := v) hDb 0 (by omega))
  rw [hN, hM] at HPN
  have HCL := Smp.evC_len hAb hDb hv
  have HEN := hide (fun k => Smp.ev_next A D v k 0)
  have HEL := hide (Smp.ev_len A D v)
  have HET := hide (Smp.ev_take A D v N 0 2 hN2.1)
  clear hN hM
  go_enter Try.func9, Try.ntmps9
  go_wp2_with fail
  refine (shown_any _).mono ?_
  rintro e w1 ⟨rfl, hb1⟩
  go_wp2_with fail
  refine (HPK.out _).mono ?_
  rintro e w2 ⟨rfl, hw2⟩
  rw [hw2]
  clear hw2 HPK
  go_wp2
  go_loopw [13, 12] (fun i o wr => ∃ k : Nat, k ≤ N ∧ i = .int .i64 (k : Int) ∧ OwnS wr w1.heap.size o (Smp.ev A D v 0 k) ∧ Below w1.heap.size w1 wr)
    (fun i _ _ => N - (intOf i).toNat)
  case atStart => exact ⟨0, Nat.zero_le _, rfl, OwnS.nil _ _, Below.refl _ _⟩
  case round =>
    obtain ⟨k, hk, rfl, hown, hnx⟩ := hrel
    have hsz := hnx.size
    by_cases hlt : k < N
    · have hki : (k : Int) < (N : Int) := by omega
      have hkb := Smp.mul_bd (k := k) (d := D) (by omega) (by omega) hDb.2
      have hkw : IntKind.u64.wrap ((k : Int) * D) = (k : Int) * D := by rw [IntKind.wrap_u64]; omega
      have HN : Hid (Smp.ev A D v 0 (k + 1) = Smp.ev A D v 0 k ++ [(A + (k : Int) * D, v)]) := by rw [HEN.out k, Nat.zero_add]; exact rfl
      obtain ⟨E, hE⟩ : ∃ E, (k : Int) * D = E := ⟨_, rfl⟩
      rw [hE] at hkb HN
      rw [hE] at hkw
      have hown3 := hown
      unfold OwnS at hown3
      rw [HEL.out] at hown3
      have HSL := hide (HEL.out k 0)
      clear hown
      go_wp2_with (at_builtin; refine wpList_append_own _ rfl _ _ 22 rfl w1.heap.size 38 i0 _ 2 16 Try.underlying22 hi hz0 hz1 hz2 rfl (by decide) _ _ _ rfl (hown3.alloc _) ⟨wr.heap.size, 0, none⟩ 1 1 [.int .u64 (A + E), .int .i64 v] rfl rfl ?c1 ?c2 ?c3 ?c4 ?c5 ?_)
      case c1 => exact cells_two_new _ _ _ _
      case c2 => intro x hx; simp at hx; rcases hx with rfl | rfl <;> rfl
      case c3 => unfold maxLen; omega
      case c4 => omega
      case c5 => simp; omega
      intro v' w7 hown' hgrow _
      have R := owns_step HSL.out.symm hsz (hown3.alloc _) hnx hown' hgrow
      clear hown3 hown' hgrow
      go_wp2
      go_roundw
      case rel => exact ⟨k + 1, by omega, by go_num, by rw [HN.out]; exact R.1, R.2⟩
      case measure => simp [intOf]; omega
    · obtain rfl : k = N := by omega
      obtain ⟨g, cap, rfl, hcp, _, _, _, _⟩ := hown.row (by rw [HEL.out]; omega)
      obtain ⟨eN, _, sN⟩ := hown.at'
      have s2 := sN.take 2
      rw [HET.out] at s2
      have HA2 := put_form (some ⟨g, 0, none⟩) cap _ wr s2 (by rw [HEL.out]; rw [HEL.out] at hcp; omega) (by rw [HEL.out]; omega) HO2.out
      rw [HC2.out, HEL.out] at HA2
      have HA2' := hide HA2
      have HAN := hide (fun wx (hb : Below wr.heap.size wr wx) => put_form (some ⟨g, 0, none⟩) cap _ wx (sN.below hb) hcp (by rw [HEL.out]; omega) HOK.out)
      rw [HCK.out, HEL.out] at HAN
      rw [HEL.out] at hcp
      have HNX := hide (bl hb1 hnx)
      clear hown sN s2 eN HA2 hnx hsz
      rw [HEL.out]
      have hU : putRes (Smp.ev A D v 0 k) = Num.bs (UInt8.ofNat k :: (Smp.evC A D v ++ List.replicate M 0)) := by unfold putRes; rw [if_pos HCK.out, HPN.out]
      have hT : putRes (Smp.ev A D v 0 2) = Num.bs (UInt8.ofNat 2 :: Smp.evC A D v) := by unfold putRes; rw [if_pos HC2.out, HP2.out]; simp
      obtain ⟨n1, hn1⟩ : ∃ n1, n1 = (Smp.evC A D v).length + 1 := ⟨_, rfl⟩
      obtain ⟨x1, x2, x3, x4, x5⟩ := even_cut (UInt8.ofNat 2) (UInt8.ofNat k) (Smp.evC A D v) M n1 hn1
      rw [hT] at HA2'
      rw [hU] at HAN
      have hn1b : n1 ≤ 32 := by omega
      have hn1a : 1 ≤ n1 := by omega
      generalize Num.bs (UInt8.ofNat k :: (Smp.evC A D v ++ List.replicate M 0)) = U at *
      generalize Num.bs (UInt8.ofNat 2 :: Smp.evC A D v) = T at *
      generalize Num.bs (Smp.evC A D v) = cc at *
      clear hU hT hn1 HCL
      go_wp2_with fail
      refine HA2'.out.mono ?_
      rintro e w4 ⟨rfl, hb4⟩
      go_wp2_with fail
      refine (HAN.out _ hb4).mono ?_
      rintro e w5 ⟨rfl, hb5⟩
      have HB5 := hide (bl HNX.out (bl hb4 hb5))
      obtain ⟨wM, hmk, hwM, hbM, hby⟩ := make_of (P := Try.prog) w5.drew 46 5 M Try.underlying46 info_u8e (by omega)
      have hcv := hby.conv M 46 9 5 Try.underlying46 Try.underlying5 Try.underlying9
      rw [List.length_replicate] at hcv
      have hw5 : w5.drew.heap.size = w5.heap.size := rfl
      rw [hw5] at hmk hcv
      generalize Num.bs (List.replicate M 0) = zz at *
      have HBM := hide (show Below w5.heap.size w5 wM from (⟨hbM.os, hbM.tape, hbM.output, hbM.size, hbM.block⟩))
      clear hb4 hb5 HAN HA2' hbM hby hwM hw5
      have y1 : (1 : Int) ≤ (n1 : Int) := by omega
      have y2 : (n1 : Int) ≤ (n1 : Int) + (M : Int) := by omega
      have hbz := bl HB5.out HBM.out
      go_wp2_with fail
      go_region
      all_goals
        go_wp2
        go_ret
        exact ⟨rfl, hbz⟩

end Go.Proofs.Ytocelglgafmfnaa
