/-
  FrameSpoils: the walk.
-/
import Derived.Test.YtdpkpcoadojkhaaDoorFrmOfW
import Derived.Test.YtdpkpcoadojkhaaDoorFrameTornW
import Derived.Test.YtdpkpcoadojkhaaDoorGrow
import Derived.Laws.BitsAllLaws
namespace Go.Proofs.YtdpkpcoadojkhaaDoor
open Go.RowKit
open Frm (Fr)

theorem flip_val (a : UInt8) (k : Nat) (hk : k < 8) : ∃ c : UInt8, bits .xor .u8 (a.toNat : Int) ((2 : Int) ^ k % 256) = (c.toNat : Int) ∧ c ≠ a := by
  have hp : (2 : Nat) ^ k ≤ 2 ^ 7 := Nat.pow_le_pow_right (by decide) (by omega)
  have h0 : 0 < (2 : Nat) ^ k := Nat.pow_pos (by decide)
  have e3 : (2 : Int) ^ k % 256 = ((2 ^ k : Nat) : Int) := by
    rw [show (2 : Int) ^ k = ((2 ^ k : Nat) : Int) from by simp]; omega
  rw [e3]
  have ha := a.toNat_lt
  have hx := u8_xor_nat a.toNat (2 ^ k) (by omega) (by omega)
  have hlt : a.toNat ^^^ 2 ^ k < 2 ^ 8 := Nat.xor_lt_two_pow (by omega) (by omega)
  refine ⟨UInt8.ofNat (a.toNat ^^^ 2 ^ k), ?_, ?_⟩
  · rw [hx, Num.ofNat_toNat (by omega)]
  · intro h
    have := congrArg UInt8.toNat h
    rw [Num.ofNat_toNat (by omega)] at this
    have h2 := congrArg (a.toNat ^^^ ·) this
    simp only [← Nat.xor_assoc, Nat.xor_self, Nat.zero_xor] at h2
    omega

theorem bytes_split (F : List Fr) (k : Nat) (hk : k < F.length) : Frm.bytes F = Frm.bytes (F.take k) ++ (Frm.put F[k] ++ Frm.bytes (F.drop (k + 1))) := by
  conv => lhs; rw [← List.take_append_drop k F, List.drop_eq_getElem_cons hk, Frm.bytes_app, Frm.bytes_cons]
/-- A byte of frame k's sum, or body, is another one: those ahead of it are told, and none behind it. -/
theorem spoil_all {F : List Fr} {k : Nat} (hk : k < F.length) (hok : ∀ f ∈ F, Frm.Ok f) {q : Nat} {t : List UInt8} (hf : F[k] = (q, t)) {i : Nat} (hi : i < t.length + 4) :
    ∃ (p : Nat) (h : p < (Frm.bytes F).length), p = total (F.take k) + (Frm.size (q, t) - (t.length + 4)) + i ∧ total (F.take k) < (Frm.bytes F).length ∧
      ∀ c : UInt8, c ≠ (Frm.bytes F)[p] → Frm.scan ((Frm.bytes F).set p c) = F.take k ∧ Frm.first (((Frm.bytes F).set p c).drop (total (F.take k))) = none := by
  have hs := bytes_split F k hk
  rw [hf] at hs
  have hz := Frm.size_eq (q, t)
  simp only at hz
  have hg : t.length + 6 ≤ Frm.size (q, t) := Frm.size_ge (q, t)
  have hlen := congrArg List.length hs
  simp only [List.length_append] at hlen
  have hsz : (Frm.put (q, t)).length = Frm.size (q, t) := rfl
  have htt : (Frm.bytes (F.take k)).length = total (F.take k) := rfl
  have hfo : Frm.Ok (q, t) := by rw [← hf]; exact hok _ (List.getElem_mem _)
  have hp : Frm.put (q, t) = (Num.put t.length ++ Num.put q) ++ (Frm.sum4 q t ++ t) := by unfold Frm.put; simp only [List.append_assoc]
  have hzz : Frm.size (q, t) - (t.length + 4) = (Num.put t.length ++ Num.put q).length := by rw [List.length_append]; omega
  refine ⟨total (F.take k) + (Frm.size (q, t) - (t.length + 4)) + i, by omega, rfl, by omega, fun c hc => ?_⟩
  have hset : (Frm.bytes F).set (total (F.take k) + (Frm.size (q, t) - (t.length + 4)) + i) c = Frm.bytes (F.take k) ++ ((Frm.put (q, t)).set (Frm.size (q, t) - (t.length + 4) + i) c ++ Frm.bytes (F.drop (k + 1))) := by
    rw [hs, ← htt, Nat.add_assoc, Frm.set_far, List.set_append_left _ _ (by rw [hsz]; omega)]
  have hne : (Frm.sum4 q t ++ t)[i]? ≠ some c := by
    intro e
    apply hc
    have h1 : (Frm.bytes F)[total (F.take k) + (Frm.size (q, t) - (t.length + 4)) + i]? = some c := by
      rw [hs, ← htt, Nat.add_assoc, List.getElem?_append_right (by omega), Nat.add_sub_cancel_left, List.getElem?_append_left (by rw [hsz]; omega), hp, hzz, List.getElem?_append_right (by omega), Nat.add_sub_cancel_left, e]
    obtain ⟨_, h2⟩ := List.getElem?_eq_some_iff.1 h1
    exact h2.symm
  have hbad := Frm.spoilt hfo (i := i) hi hne (Frm.bytes (F.drop (k + 1)))
  rw [hset]
  refine ⟨Frm.scan_unique rfl (fun f h => hok f (List.mem_of_mem_take h)) hbad, ?_⟩
  rw [← htt, List.drop_append_of_le_length (Nat.le_refl _), List.drop_length, List.nil_append]
  exact hbad

/-- 'string(b[from:])'. -/
theorem BytesAt.convFrom {P : Program} {w : World} {b : Nat} {l : List UInt8} (h : BytesAt w b l) (i n cap : Nat) (hn : n = l.length - i) (src dst e : TypeId) (hs : P.underlying src = some (.slice e)) (he : P.underlying e = some (.int .u8)) (hd : P.underlying dst = some .string) :
    (convert src dst (.slice (some ⟨b, i, none⟩) n cap)).run P w = .ok (.string (Num.bs (l.drop i))) w := by
  subst hn
  have := run_convert_bytes_back (P := P) w src dst e ⟨b, i, none⟩ cap (l.drop i) hs he hd fun j hj => by
    rw [Addr.add_lit]
    rw [List.length_drop] at hj
    have := h.1 (i + j) (by omega)
    rw [this]
    simp
  rwa [List.length_drop] at this

set_option maxRecDepth 100000 in
set_option maxHeartbeats 3200000 in
theorem walkFrameSpoils (x : Int) (a : Option Addr) (len cap : Nat) (zs : List ByteArray) (c d : Int) (w : World) (hx : 0 ≤ x ∧ x ≤ 18446744073709551615) (hl : IsStrs w a len cap zs) (hc : -9223372036854775808 ≤ c ∧ c ≤ 9223372036854775807) (hd : -9223372036854775808 ≤ d ∧ d ≤ 9223372036854775807) (hT : Tab w) :
    Calls Tryd.prog 6 #[.int .u64 x, .slice a len cap, .int .i64 c, .int .i64 d] w fun e w' => e = .returned (.bool true) ∧ Below w.heap.size w w' := by
  obtain ⟨first, rfl⟩ := Int.eq_ofNat_of_zero_le hx.1
  have HT := hide hT
  obtain ⟨ls, rfl, hlm, hst, hls⟩ := strs_at hl
  unfold maxLen at hlm
  by_cases h0 : ls.length = 0
  · rw [h0]
    clear hst hls hl
    go_enter Tryd.func6, Tryd.ntmps6
    go_wp2_with fail
    refine (fshown_any _ HT.out).mono ?_
    rintro e w1 ⟨rfl, hb1⟩
    go_wp2
    go_ret
    exact ⟨rfl, hb1⟩
  have hl0 : ((ls.length : Int) == 0) = false := beq_eq_false_iff_ne.2 (by omega)
  have HR := hide (fun wx (hb : Below w.heap.size w wx) => row_any first a cap ls wx (hst.below hb) (by unfold maxLen; omega) hls)
  obtain ⟨F, hF⟩ : ∃ F, rowF first (ls.take 20) = F := ⟨_, rfl⟩
  have HFok : Hid (∀ f ∈ F, Frm.Ok f ∧ f.2.length ≤ 50) := hide (by rw [← hF]; exact rowF_ok _ _)
  have hFl : F.length ≤ 20 := by rw [← hF, rowF_len, List.length_take]; omega
  have hFp : 0 < F.length := by rw [← hF, rowF_len, List.length_take]; omega
  rw [hF] at HR
  have htot := small_total F HFok.out
  have hbl : (Num.bs (Frm.bytes F)).size = total F := Num.bs_size _
  have hk := pk_lt c (n := F.length) hFp
  have HPK := hide (fun wx => pick_any c F.length wx hc.1 hc.2 hFp (by omega))
  generalize pk c F.length = k at *
  obtain ⟨q, t, hqt⟩ : ∃ q t, F[k] = (q, t) := ⟨_, _, rfl⟩
  have hfo := HFok.out F[k] (List.getElem_mem _)
  rw [hqt] at hfo
  have hts : t.length ≤ 50 := hfo.2
  have htb : (Num.bs t).size = t.length := Num.bs_size _
  have hzl := Frm.size_le hfo.1
  have hzg : t.length + 6 ≤ Frm.size (q, t) := Frm.size_ge (q, t)
  obtain ⟨N, hN⟩ : ∃ N, N = 8 * (t.length + 4) := ⟨_, rfl⟩
  have hN2 : (8 : Int) * ((t.length : Int) + 4) = (N : Int) := by omega
  have ha := pk_lt d (n := N) (by omega)
  have HPD := hide (fun wx => pick_any d N wx hd.1 hd.2 (by omega) (by omega))
  generalize pk d N = m at *
  obtain ⟨p, hpl, hp, hbeg, hsp⟩ := spoil_all hk (fun f hf => (HFok.out f hf).1) hqt (i := m / 8) (by omega)
  obtain ⟨b8, hb8, hb9⟩ : ∃ b8 : Nat, (m : Int) % 8 = (b8 : Int) ∧ b8 < 8 := ⟨m % 8, by omega, by omega⟩
  obtain ⟨ch, hch, hne⟩ := flip_val ((Frm.bytes F)[p]'hpl) b8 hb9
  obtain ⟨HSC, HFI⟩ := hsp ch hne
  have hNb : N ≤ 432 := by omega
  have HNN := hide hN
  have HP := hide hp
  have HSC := hide HSC
  have HFI := hide HFI
  clear hF hst hls hl hT hx hsp hne h0 hN hp
  go_enter Tryd.func6, Tryd.ntmps6
  go_wp2_with fail
  refine (fshown_any _ HT.out).mono ?_
  rintro e w1 ⟨rfl, hb1⟩
  go_wp2_with fail
  refine (HR.out _ hb1).mono ?_
  rintro e w2 ⟨v, rfl, hvo, hb2⟩
  have hb3 := bl hb1 hb2
  have HV := hide (hvo.mono hb1.size)
  obtain ⟨g, vc, rfl, hvc, hvp⟩ : ∃ g vc, v = .slice (some ⟨g, 0, none⟩) F.length vc ∧ F.length ≤ vc ∧ FrmsAt w2 (some ⟨g, 0, none⟩) F := by
    rcases hvo.front (j := F.length) (Nat.le_refl _) with ⟨_, e2, _⟩ | ⟨g, cap', e1, e2, e3⟩
    · rw [e2] at hFp; simp at hFp
    · rw [List.take_length] at e3; exact ⟨g, cap', e1, e2, e3⟩
  have HVP := hide hvp
  clear hb1 hb2 hvo HR hvp
  go_wp2_with fail
  refine (HPK.out _).mono ?_
  rintro e w4 ⟨rfl, hw⟩
  rw [hw]
  clear hw HPK
  go_wp2_with fail
  go_loopw [13, 14] (fun n i wr => ∃ j : Nat, j ≤ k ∧ i = .int .i64 (j : Int) ∧ n = .int .i64 ((total (F.take j) : Nat) : Int) ∧ Below w2.heap.size w2 wr)
    (fun _ i _ => k - (intOf i).toNat)
  case atStart => exact ⟨0, Nat.zero_le _, rfl, rfl, Below.refl _ _⟩
  case round =>
    obtain ⟨j, hj, rfl, rfl, hnx⟩ := hrel
    have htj : total (F.take j) ≤ 1480 := by
      have h1 := small_total (F.take j) (fun f hf => HFok.out f (List.mem_of_mem_take hf))
      rw [List.length_take] at h1; omega
    by_cases hlt : j < k
    · obtain ⟨b, off, q', t', hab, hbl2, hz, h1, h2, h3⟩ := HVP.out.get hnx (show j < F.length by omega)
      simp only [Option.some.injEq, Addr.mk.injEq, and_true] at hab
      obtain ⟨rfl, rfl⟩ := hab
      simp only [Nat.zero_add] at h1 h2 h3
      have HTT := hide (take_tot (show j < F.length by omega) hz)
      have hki : (j : Int) < (F.length : Int) := by omega
      have hkk : (j : Int) < (k : Int) := by omega
      have hsz : Frm.size (q', t') ≤ 2024 := Frm.size_le (by rw [← hz]; exact (HFok.out _ (List.getElem_mem _)).1)
      clear hz
      go_wp2
      go_roundw
      case rel => exact ⟨j + 1, by omega, by go_num, by rw [HTT.out, Int.natCast_add], hnx⟩
      case measure => simp [intOf]; omega
    · obtain rfl : j = k := by omega
      obtain ⟨b, off, q', t', hab, hbl2, hz, h1, h2, h3⟩ := HVP.out.get hnx hk
      simp only [Option.some.injEq, Addr.mk.injEq, and_true] at hab
      obtain ⟨rfl, rfl⟩ := hab
      rw [hqt] at hz
      simp only [Prod.mk.injEq] at hz
      obtain ⟨rfl, rfl⟩ := hz
      simp only [Nat.zero_add] at h1 h2 h3
      have hki : (j : Int) < (F.length : Int) := by omega
      have HVP := hide (HVP.out.below hnx)
      have hb4 := bl hb3 hnx
      obtain ⟨w5, bc, hrun, hbc, hbsz, hbel, hby⟩ := bytes_of (P := Tryd.prog) wr 9 49 5 (Num.bs (Frm.bytes F)) Tryd.underlying9 Tryd.underlying49 Tryd.underlying5
      rw [Num.bs_toList] at hby
      rw [hbl] at hrun hbc
      have hwz := hb4.size
      have hwr5 : wr.heap.size < w5.heap.size := by omega
      clear hbsz hb3 hnx
      go_wp2_with fail
      refine (HPD.out _).mono ?_
      rintro e w6 ⟨rfl, hw⟩
      rw [hw]
      clear hw HPD
      have hpi : ((total (F.take j) : Nat) : Int) + ((Frm.size (q, t) : Nat) : Int) - ((t.length : Int) + 4) + (m : Int) / 8 = (p : Int) := by have := HP.out; omega
      have hpt : p < total F := hpl
      have hpt2 : (p : Int) < (total F : Int) := by omega
      have hcell := hby.1 p hpl
      have hfro := hby.2 p hpl
      obtain ⟨w6, hw6⟩ : ∃ w6, w5.setCell ⟨wr.heap.size, p, none⟩ (.int .u8 (ch.toNat : Int)) = w6 := ⟨_, rfl⟩
      have hby2 := hby.set hpl ch
      rw [hw6] at hby2
      have hbel6 : Below wr.heap.size wr w6 := by rw [← hw6]; exact hbel.setCell (Nat.le_refl _) _
      have hb6 := bl hb4 hbel6
      have HVP := hide (HVP.out.below hbel6)
      have hz6 : wr.heap.size < w6.heap.size := by rw [← hw6]; simpa using hwr5
      have hcv := hby2.conv (P := Tryd.prog) bc 49 9 5 Tryd.underlying49 Tryd.underlying5 Tryd.underlying9
      rw [show ((Frm.bytes F).set p ch).length = total F by rw [List.length_set]; rfl] at hcv
      have hGl : ((Frm.bytes F).set p ch).length = total F := by rw [List.length_set]; rfl
      have HS := hide (fun wx hTx => scan_any ((Frm.bytes F).set p ch) wx (by rw [hGl]; omega) hTx)
      unfold Scans at HS
      rw [HSC.out] at HS
      have HI := hide (fun wx hTx => ffirst_any (((Frm.bytes F).set p ch).drop (total (F.take j))) wx (by rw [List.length_drop, hGl]; unfold maxLen; omega) hTx)
      unfold firstV at HI
      rw [HFI.out] at HI
      unfold noneV at HI
      have hbeg2 : total (F.take j) < total F := hbeg
      clear hGl hb4 hbel hbel6 hby
      go_wp2_with fail
      refine (HS.out _ (HT.out.below hb6)).mono ?_
      rintro e w7 ⟨⟨xv, rfl, hxo⟩, hb7⟩
      have hcv2 := (hby2.below hb7 hz6).convFrom (P := Tryd.prog) (total (F.take j)) (total F - total (F.take j)) (bc - total (F.take j)) (by rw [List.length_set]; rfl) 49 9 5 Tryd.underlying49 Tryd.underlying5 Tryd.underlying9
      have HVP := hide (HVP.out.below hb7)
      have HX := hide hxo
      have hb8 := bl hb6 hb7
      clear hb6 hb7 hxo hcv hby2 HS hw6
      go_wp2_with fail
      refine (HI.out _ (HT.out.below hb8)).mono ?_
      rintro e w9 ⟨rfl, hb9⟩
      have HVP := hide (HVP.out.below hb9)
      have HX := hide (HX.out.below hb9)
      have hb10 := bl hb8 hb9
      clear hb8 hb9 hcv2 HI
      obtain ⟨xa, xc, rfl, hxc, hxp, _⟩ := HX.out.view
      have HXP := hide hxp
      have HQ := hide (HVP.out.take j)
      have hjv : (j : Int) ≤ (vc : Int) := by omega
      have hjv2 : j ≤ vc := by omega
      clear hxp HX
      go_wp2_with fail
      have hal := fbel_alloc w9 (Obj.cells #[.int .u64 0, .string ⟨#[]⟩, .int .i64 0] 28)
      generalize w9.alloc (Obj.cells #[.int .u64 0, .string ⟨#[]⟩, .int .i64 0] 28) = wy at *
      have HXP := hide (HXP.out.below hal)
      have HQ := hide (HQ.out.below hal)
      have hb6 := bl hb10 hal
      clear hal hb10
      refine wp_region_grow wy.heap.size [([0, 1, 2, 3, 5, 6, 7], 4), ([], 8)] [9, 10, 11, 12, 13, 14, 15] [] (by kernel_rfl) (by kernel_rfl) (by kernel_rfl) (by kernel_rfl) ?_
      intro wq hbq
      simp only [stagesOf, getL, pickL]
      have hqs := hbq.size
      have inh : Nonempty (Gr wy.heap.size wq) := Gr.some _ wq
      have HXP := hide (HXP.out.below hbq)
      have HQ := hide (HQ.out.below hbq)
      have hb6 := bl hb6 hbq
      refine wpG_stage ?_
      repeat (go_big_quiet_step (fail))
      refine wpQuiet_nil ?_
      clear inh hbq
      go_wp2_with fail
      refine (as_n xa xc (F.take j) _ wq HXP.out (by rw [List.length_take]) (by rw [List.length_take]; omega)).mono ?_
      rintro e w7 ⟨u, rfl, huo, hb7⟩
      obtain ⟨ua, uc, rfl, huc, hup, _⟩ := huo.view
      have HUP := hide hup
      have HQ := hide (HQ.out.below hb7)
      have hb8 := bl hb6 hb7
      have hz7 := hb7.size
      clear huo hup hb6
      go_wp2
      refine OnTo.mk (hb7.mono hqs) (Nat.le_refl _) ?_
      clear hb7
      refine wpG_stage (wpQuiet_nil ?_)
      go_wp2_with fail
      refine (fsame_n ua uc (F.take j) _ _ _ _ _ HUP.out HQ.out (by rw [List.length_take]) (by rw [List.length_take]; omega) (by rw [List.length_take]; omega)).mono ?_
      rintro e w8 ⟨rfl, hb9⟩
      have hb10 := bl hb8 hb9
      clear hb8
      go_wp2
      refine OnTo.mk (hb9.mono (by omega)) (Nat.le_refl _) ?_
      clear hb9
      have inh : Nonempty (Gr wy.heap.size w8) := Gr.some _ w8
      refine wpG_last ?_
      repeat (go_big_quiet_step (fail))
      refine wpQuiet_nil ?_
      clear inh
      go_wp2
      go_ret
      exact ⟨rfl, hb10⟩
end Go.Proofs.YtdpkpcoadojkhaaDoor
