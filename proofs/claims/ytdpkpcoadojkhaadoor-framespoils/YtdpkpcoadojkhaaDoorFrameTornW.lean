/-
  FrameTorn: the walk.
-/
import Derived.Test.YtdpkpcoadojkhaaDoorFrmOfW
import Derived.Test.YtdpkpcoadojkhaaDoorPickW
import Derived.Test.YtdpkpcoadojkhaaDoorGrow
namespace Go.Proofs.YtdpkpcoadojkhaaDoor
open Go.RowKit
open Frm (Fr)

theorem whole_is : ∀ (F : List Fr) (k j : Nat), j ≤ F.length → total (F.take j) ≤ k → (j = F.length ∨ k < total (F.take (j + 1))) → Frm.whole F k = j
  | [], k, j, h, _, _ => by simp at h; subst h; rfl
  | f :: F, k, 0, _, _, h2 => by
    rcases h2 with h | h
    · simp at h
    · unfold Frm.whole
      rw [if_neg]
      have : total ((f :: F).take (0 + 1)) = Frm.size f := by simp [total, Frm.bytes, Frm.size]
      omega
  | f :: F, k, j + 1, h, h1, h2 => by
    have e1 : ∀ j, total ((f :: F).take (j + 1)) = Frm.size f + total (F.take j) := fun j => by
      unfold total; rw [List.take_succ_cons, Frm.bytes_cons, List.length_append]; rfl
    rw [e1] at h1
    unfold Frm.whole
    rw [if_pos (by omega), whole_is F (k - Frm.size f) j (by simpa using h) (by omega) ?_]
    rcases h2 with h | h
    · exact .inl (by simpa using h)
    · rw [e1] at h; exact .inr (by omega)
theorem take_tot {F : List Fr} {j : Nat} {q : Nat} {t : List UInt8} (hj : j < F.length) (h : F[j] = (q, t)) : total (F.take (j + 1)) = total (F.take j) + Frm.size (q, t) := by
  rw [List.take_succ_eq_append_getElem hj, h, total_app, total_one]

/-- 'all[:j]', of a slice that the call owns. -/
theorem OwnF.front {T : TypeId} {w : World} {B : Nat} {v : Value} {F : List Fr} (h : OwnF T w B v F) {j : Nat} (hj : j ≤ F.length) :
    (v = .slice none 0 0 ∧ F = [] ∧ j = 0) ∨ ∃ g cap, v = .slice (some ⟨g, 0, none⟩) F.length cap ∧ F.length ≤ cap ∧ FrmsAt w (some ⟨g, 0, none⟩) (F.take j) := by
  obtain ⟨a, cap, rfl, hc, hp, hn⟩ := h.view
  rcases h.2 with ⟨h1, h0⟩ | ⟨g, cap', cur, h1, _, _, hnc, _⟩
  · exact .inl ⟨h1, List.length_eq_zero_iff.1 h0, by omega⟩
  · simp only [Value.slice.injEq] at h1
    obtain ⟨rfl, _, rfl⟩ := h1
    exact .inr ⟨g, cap, rfl, hc, hp.take j⟩

theorem pick_one (c : Int) (n : Nat) (w : World) (h0 : -9223372036854775808 ≤ c) (h1 : c ≤ 9223372036854775807) (hm : n ≤ 1099511627775) :
    Calls Tryd.prog 21 #[.int .i64 c, .int .i64 ((n : Int) + 1)] w fun e w' => e = .returned (.int .i64 ((pk c (n + 1) : Nat) : Int)) ∧ w' = w := by
  have := pick_any c (n + 1) w h0 h1 (by omega) (by omega)
  rwa [show ((n + 1 : Nat) : Int) = (n : Int) + 1 by omega] at this

set_option maxRecDepth 100000 in
set_option maxHeartbeats 3200000 in
theorem walkFrameTorn (x : Int) (a : Option Addr) (len cap : Nat) (zs : List ByteArray) (c : Int) (w : World) (hx : 0 ≤ x ∧ x ≤ 18446744073709551615) (hl : IsStrs w a len cap zs) (hc : -9223372036854775808 ≤ c ∧ c ≤ 9223372036854775807) (hT : Tab w) :
    Calls Tryd.prog 5 #[.int .u64 x, .slice a len cap, .int .i64 c] w fun e w' => e = .returned (.bool true) ∧ Below w.heap.size w w' := by
  obtain ⟨first, rfl⟩ := Int.eq_ofNat_of_zero_le hx.1
  have HT := hide hT
  obtain ⟨ls, rfl, hlm, hst, hls⟩ := strs_at hl
  have HR := hide (fun wx (hb : Below w.heap.size w wx) => row_any first a cap ls wx (hst.below hb) hlm hls)
  obtain ⟨F, hF⟩ : ∃ F, rowF first (ls.take 20) = F := ⟨_, rfl⟩
  have HFok : Hid (∀ f ∈ F, Frm.Ok f ∧ f.2.length ≤ 50) := hide (by rw [← hF]; exact rowF_ok _ _)
  have hFl : F.length ≤ 20 := by rw [← hF, rowF_len, List.length_take]; omega
  rw [hF] at HR
  have htot := small_total F HFok.out
  have hbl : (Num.bs (Frm.bytes F)).size = total F := Num.bs_size _
  have hpk := pk_lt c (n := total F + 1) (by omega)
  have HPK := hide (fun wx => pick_one c (total F) wx hc.1 hc.2 (by omega))
  generalize pk c (total F + 1) = k at *
  have he : (Num.bs (Frm.bytes F)).extract 0 k = Num.bs ((Frm.bytes F).take k) := by rw [extract_mid]; rfl
  have HS := hide (fun wx hTx => scan_any ((Frm.bytes F).take k) wx (by rw [List.length_take]; omega) hTx)
  have htorn := Frm.torn F k (fun f hf => (HFok.out f hf).1)
  unfold Scans at HS
  rw [htorn] at HS
  have hwl := Frm.whole_le F k
  have HW := hide (whole_is F k)
  generalize Frm.whole F k = m at *
  clear hF hst hls hl hlm hT hx htorn
  go_enter Tryd.func5, Tryd.ntmps5
  go_wp2_with fail
  refine (fshown_any _ HT.out).mono ?_
  rintro e w1 ⟨rfl, hb1⟩
  go_wp2_with fail
  refine (HR.out _ hb1).mono ?_
  rintro e w2 ⟨v, rfl, hvo, hb2⟩
  have hb3 := bl hb1 hb2
  have HV := hide (hvo.mono hb1.size)
  clear hb1 hb2 hvo HR
  go_wp2_with fail
  refine (HPK.out _).mono ?_
  rintro e w4 ⟨rfl, hw⟩
  rw [hw]
  clear hw HPK
  have hkt : (k : Int) ≤ (total F : Int) := by omega
  go_wp2_with fail
  refine (HS.out _ (HT.out.below hb3)).mono ?_
  rintro e w5 ⟨⟨xv, rfl, hxo⟩, hb4⟩
  have hb5 := bl hb3 hb4
  have HV := hide (HV.out.below hb4)
  have HX := hide hxo
  clear hb3 hb4 hxo HS
  obtain ⟨va, vc, rfl, hvc, hvp, hvn⟩ := HV.out.view
  have HVP := hide hvp
  clear hvp
  go_wp2_with fail
  go_loopw [13, 14] (fun i n wr => ∃ j : Nat, j ≤ F.length ∧ i = .int .i64 (j : Int) ∧ n = .int .i64 ((total (F.take j) : Nat) : Int) ∧ total (F.take j) ≤ k ∧ Below w5.heap.size w5 wr)
    (fun i _ _ => F.length - (intOf i).toNat)
  case atStart => exact ⟨0, Nat.zero_le _, rfl, rfl, Nat.zero_le _, Below.refl _ _⟩
  case round =>
    obtain ⟨j, hj, rfl, rfl, hjk, hnx⟩ := hrel
    by_cases hlt : j < F.length
    · obtain ⟨b, off, q, t, rfl, hbl2, hz, h1, h2, h3⟩ := HVP.out.get hnx hlt
      have htt := take_tot hlt hz
      have hki : (j : Int) < (F.length : Int) := by omega
      have hsz : Frm.size (q, t) ≤ 2024 := Frm.size_le (by rw [← hz]; exact (HFok.out _ (List.getElem_mem _)).1)
      clear hz
      by_cases hin : total (F.take (j + 1)) ≤ k
      · have HTT := hide htt
        have hin2 : ((total (F.take j) : Nat) : Int) + ((Frm.size (q, t) : Nat) : Int) ≤ (k : Int) := by omega
        clear htt
        go_wp2
        go_roundw
        case rel => exact ⟨j + 1, by omega, by go_num, by rw [HTT.out, Int.natCast_add], hin, hnx⟩
        case measure => simp [intOf]; omega
      · have hin2 : ¬ ((total (F.take j) : Nat) : Int) + ((Frm.size (q, t) : Nat) : Int) ≤ (k : Int) := by omega
        have hmj : m = j := HW.out j hj hjk (.inr (by omega))
        clear htt HW
        rw [hmj] at HX
        rw [hmj]
        have hb6 := bl hb5 hnx
        have hxo := HX.out.below hnx
        obtain ⟨xa, xc, rfl, hxc, hxp, _⟩ := hxo.view
        have HXP := hide hxp
        clear hxo hxp HX
        rcases HV.out.front hj with ⟨e1, e2, e3⟩ | ⟨g, cap', e1, e2, e3⟩
        · simp only [Value.slice.injEq] at e1
          exact absurd e1.1 (by simp)
        · simp only [Value.slice.injEq, Option.some.injEq, Addr.mk.injEq, and_true] at e1
          obtain ⟨⟨rfl, rfl⟩, _, rfl⟩ := e1
          simp only [Nat.zero_add] at h1 h2 h3
          have HQ := hide (e3.below hnx)
          have hjv : (j : Int) ≤ (vc : Int) := by omega
          have hjv2 : j ≤ vc := by omega
          clear e2 e3
          go_wp2_with fail
          refine wp_region_grow wr.heap.size [([0, 2, 3, 4], 1), ([], 5)] [6, 7, 8, 9, 10, 11] [] (by kernel_rfl) (by kernel_rfl) (by kernel_rfl) (by kernel_rfl) ?_
          intro wq hbq
          simp only [stagesOf, getL, pickL]
          have hqs := hbq.size
          have inh : Nonempty (Gr wr.heap.size wq) := Gr.some _ wq
          have HXP := hide (HXP.out.below hbq)
          have HQ := hide (HQ.out.below hbq)
          have hb6 := bl hb6 hbq
          refine wpG_stage ?_
          repeat (go_big_quiet_step (fail))
          refine wpQuiet_nil ?_
          clear inh hbq
          go_wp2_with fail
          refine (as_n xa xc (F.take j) _ wq HXP.out (by rw [List.length_take]; omega) (by rw [List.length_take]; omega)).mono ?_
          rintro e w7 ⟨u, rfl, huo, hb7⟩
          obtain ⟨ua, uc, rfl, huc, hup, _⟩ := huo.view
          have HUP := hide hup
          have HQ := hide (HQ.out.below hb7)
          have hb8 := bl hb6 hb7
          have hz7 := hb7.size
          clear huo hup hb6
          go_wp2
          refine OnTo.mk (hb7.mono hqs) (Nat.le_refl _) ?_
          clear hb7
          refine wpG_stage (wpQuiet_nil ?_)
          go_wp2_with fail
          refine (fsame_n ua uc (F.take j) _ _ _ j _ HUP.out HQ.out (by rw [List.length_take]; omega) (by rw [List.length_take]; omega) (by rw [List.length_take]; omega)).mono ?_
          rintro e w8 ⟨rfl, hb9⟩
          have hb10 := bl hb8 hb9
          clear hb8
          go_wp2
          refine OnTo.mk (hb9.mono (by omega)) (Nat.le_refl _) ?_
          clear hb9
          have inh : Nonempty (Gr wr.heap.size w8) := Gr.some _ w8
          refine wpG_last ?_
          repeat (go_big_quiet_step (fail))
          refine wpQuiet_nil ?_
          clear inh
          go_wp2
          go_ret
          exact ⟨rfl, hb10⟩
    · have hmj : m = j := HW.out j hj hjk (.inl (by omega))
      clear HW
      rw [hmj] at HX
      rw [hmj]
      have hb6 := bl hb5 hnx
      have hxo := HX.out.below hnx
      obtain ⟨xa, xc, rfl, hxc, hxp, _⟩ := hxo.view
      have HXP := hide hxp
      clear hxo hxp HX
      rcases HV.out.front hj with ⟨e1, e2, e3⟩ | ⟨g, cap', e1, e2, e3⟩
      · simp only [Value.slice.injEq] at e1
        obtain ⟨rfl, _, rfl⟩ := e1
        subst e2
        subst e3
        have HQ : Hid (FrmsAt wr none (([] : List Fr).take 0)) := hide (FrmsAt.nil _ _)
        go_wp2_with fail
        refine wp_region_grow wr.heap.size [([0, 2, 3, 4], 1), ([], 5)] [6, 7, 8, 9, 10, 11] [] (by kernel_rfl) (by kernel_rfl) (by kernel_rfl) (by kernel_rfl) ?_
        intro wq hbq
        simp only [stagesOf, getL, pickL]
        have hqs := hbq.size
        have inh : Nonempty (Gr wr.heap.size wq) := Gr.some _ wq
        have HXP := hide (HXP.out.below hbq)
        have HQ := hide (HQ.out.below hbq)
        have hb6 := bl hb6 hbq
        refine wpG_stage ?_
        repeat (go_big_quiet_step (fail))
        refine wpQuiet_nil ?_
        clear inh hbq
        go_wp2_with fail
        refine (as_n xa xc (([] : List Fr).take 0) _ wq HXP.out (by simp) (by simp)).mono ?_
        rintro e w7 ⟨u, rfl, huo, hb7⟩
        obtain ⟨ua, uc, rfl, huc, hup, _⟩ := huo.view
        have HUP := hide hup
        have HQ := hide (HQ.out.below hb7)
        have hb8 := bl hb6 hb7
        have hz7 := hb7.size
        clear huo hup hb6
        go_wp2
        refine OnTo.mk (hb7.mono hqs) (Nat.le_refl _) ?_
        clear hb7
        refine wpG_stage (wpQuiet_nil ?_)
        go_wp2_with fail
        refine (fsame_n ua uc (([] : List Fr).take 0) _ _ _ 0 _ HUP.out HQ.out (by simp) (by simp) (by simp)).mono ?_
        rintro e w8 ⟨rfl, hb9⟩
        have hb10 := bl hb8 hb9
        clear hb8
        go_wp2
        refine OnTo.mk (hb9.mono (by omega)) (Nat.le_refl _) ?_
        clear hb9
        have inh : Nonempty (Gr wr.heap.size w8) := Gr.some _ w8
        refine wpG_last ?_
        repeat (go_big_quiet_step (fail))
        refine wpQuiet_nil ?_
        clear inh
        go_wp2
        go_ret
        exact ⟨rfl, hb10⟩
      · simp only [Value.slice.injEq] at e1
        obtain ⟨rfl, _, rfl⟩ := e1
        have HQ := hide (e3.below hnx)
        have hjv : (j : Int) ≤ (vc : Int) := by omega
        have hjv2 : j ≤ vc := by omega
        clear e2 e3
        go_wp2_with fail
        refine wp_region_grow wr.heap.size [([0, 2, 3, 4], 1), ([], 5)] [6, 7, 8, 9, 10, 11] [] (by kernel_rfl) (by kernel_rfl) (by kernel_rfl) (by kernel_rfl) ?_
        intro wq hbq
        simp only [stagesOf, getL, pickL]
        have hqs := hbq.size
        have inh : Nonempty (Gr wr.heap.size wq) := Gr.some _ wq
        have HXP := hide (HXP.out.below hbq)
        have HQ := hide (HQ.out.below hbq)
        have hb6 := bl hb6 hbq
        refine wpG_stage ?_
        repeat (go_big_quiet_step (fail))
        refine wpQuiet_nil ?_
        clear inh hbq
        go_wp2_with fail
        refine (as_n xa xc (F.take j) _ wq HXP.out (by rw [List.length_take]; omega) (by rw [List.length_take]; omega)).mono ?_
        rintro e w7 ⟨u, rfl, huo, hb7⟩
        obtain ⟨ua, uc, rfl, huc, hup, _⟩ := huo.view
        have HUP := hide hup
        have HQ := hide (HQ.out.below hb7)
        have hb8 := bl hb6 hb7
        have hz7 := hb7.size
        clear huo hup hb6
        go_wp2
        refine OnTo.mk (hb7.mono hqs) (Nat.le_refl _) ?_
        clear hb7
        refine wpG_stage (wpQuiet_nil ?_)
        go_wp2_with fail
        refine (fsame_n ua uc (F.take j) _ _ _ j _ HUP.out HQ.out (by rw [List.length_take]; omega) (by rw [List.length_take]; omega) (by rw [List.length_take]; omega)).mono ?_
        rintro e w8 ⟨rfl, hb9⟩
        have hb10 := bl hb8 hb9
        clear hb8
        go_wp2
        refine OnTo.mk (hb9.mono (by omega)) (Nat.le_refl _) ?_
        clear hb9
        have inh : Nonempty (Gr wr.heap.size w8) := Gr.some _ w8
        refine wpG_last ?_
        repeat (go_big_quiet_step (fail))
        refine wpQuiet_nil ?_
        clear inh
        go_wp2
        go_ret
        exact ⟨rfl, hb10⟩
end Go.Proofs.YtdpkpcoadojkhaaDoor
