/-
  The document's own Take.
-/
import Derived.Test.YtbjcphefaciihaaSmpTakeSW
import Derived.Test.YtbjcphefaciihaaRefTakeTW
namespace Go.Proofs.Ytbjcphefaciihaa
open Go.RowKit
open Smp (Sm)

theorem refTakeInt_none (s : ByteArray) (w : World) (hs : s.size ≤ maxLen) (h : Num.take s.data.toList = none) :
    Calls Try.prog 66 #[.string s] w fun e w' => e = .returned (.tuple #[.int .i64 0, .string ⟨#[]⟩, .int .i64 2]) ∧ Below w.heap.size w w' := by
  have := refTakeInt_any s w hs
  rwa [takeIntV, h] at this
theorem refTakeInt_some (s : ByteArray) (w : World) (hs : s.size ≤ maxLen) {n : Nat} {r : List UInt8} (h : Num.take s.data.toList = some (n, r)) :
    Calls Try.prog 66 #[.string s] w fun e w' => e = .returned (.tuple #[.int .i64 (Num.zag n), .string (Num.bs r), .int .i64 0]) ∧ Below w.heap.size w w' := by
  have := refTakeInt_any s w hs
  rwa [takeIntV, h] at this
/-- Of no bytes nothing is taken. -/
theorem take_nil : Num.take (⟨#[]⟩ : ByteArray).data.toList = none := by decide +kernel
theorem takeF_no1 {r : List UInt8} (h : Num.take r = none) : Smp.takeF r = none := by unfold Smp.takeF; rw [h]
theorem takeF_no2 {r x : List UInt8} {t : Nat} (h : Num.take r = some (t, x)) (h2 : Num.take x = none) : Smp.takeF r = none := by unfold Smp.takeF; rw [h]; simp only []; rw [h2]
theorem takeF_yes {r x y : List UInt8} {t v : Nat} (h : Num.take r = some (t, x)) (h2 : Num.take x = some (v, y)) : Smp.takeF r = some (((t : Int), Num.zag v), y) := by unfold Smp.takeF; rw [h]; simp only []; rw [h2]
theorem takeC_no1 {r : List UInt8} (h : Num.take r = none) : Smp.takeC r = none := by unfold Smp.takeC; rw [h]
theorem takeC_no2 {r x : List UInt8} {t : Nat} (h : Num.take r = some (t, x)) (h2 : Num.take x = none) : Smp.takeC r = none := by unfold Smp.takeC; rw [h]; simp only []; rw [h2]
theorem takeC_yes {r x y : List UInt8} {t v : Nat} (h : Num.take r = some (t, x)) (h2 : Num.take x = some (v, y)) : Smp.takeC r = some ((Num.zag t, Num.zag v), y) := by unfold Smp.takeC; rw [h]; simp only []; rw [h2]
theorem lim0 : (⟨#[]⟩ : ByteArray).size ≤ maxLen := by decide

set_option maxRecDepth 100000 in
set_option maxHeartbeats 3200000 in
theorem refTakeS_any (s : ByteArray) (w : World) (hs : s.size ≤ maxLen) :
    Calls Try.prog 38 #[.string s] w fun e w' => TookS s.data.toList e w' w.heap.size ∧ Below w.heap.size w w' := by
  obtain ⟨i0, hi, hz0, hz1, hz2⟩ := info_parts info_smp
  cases h1 : Num.take s.data.toList with
  | none =>
    have HT := hide (fun wx => refTake_none s wx hs h1)
    have HN := hide (Smp.takeS_no h1)
    clear h1
    go_enter Try.func38, Try.ntmps38
    go_wp2_with fail
    refine (HT.out _).mono ?_
    rintro e w1 ⟨rfl, hb1⟩
    go_wp2
    go_ret3
    exact ⟨.inl ⟨HN.out, rfl⟩, hb1⟩
  | some q =>
    obtain ⟨n, r⟩ := q
    have hnl := Num.take_lt h1
    have hrl := take_len h1
    have hsl : s.data.toList.length = s.size := rfl
    have HT := hide (fun wx => refTake_some s wx hs h1)
    have hrs : (Num.bs r).size ≤ maxLen := by rw [Num.bs_size]; omega
    by_cases hn : n < 1 ∨ 20 < n
    · have HN := hide (Smp.takeS_many h1 hn)
      clear h1
      rcases hn with h0 | h20
      · obtain rfl : n = 0 := by omega
        go_enter Try.func38, Try.ntmps38
        go_wp2_with fail
        refine (HT.out _).mono ?_
        rintro e w1 ⟨rfl, hb1⟩
        go_wp2
        go_ret3
        exact ⟨.inl ⟨HN.out, rfl⟩, hb1⟩
      · go_enter Try.func38, Try.ntmps38
        go_wp2_with fail
        refine (HT.out _).mono ?_
        rintro e w1 ⟨rfl, hb1⟩
        go_wp2
        go_ret3
        exact ⟨.inl ⟨HN.out, rfl⟩, hb1⟩
    · obtain ⟨m, rfl⟩ : ∃ m, n = m + 1 := ⟨n - 1, by omega⟩
      have hm : m < 20 := by omega
      cases h2 : Num.take r with
      | none =>
        have HN := hide (Smp.takeS_first h1 (takeF_no1 h2))
        have HU := hide (fun wx => refTake_none (Num.bs r) wx hrs h2)
        have HV := hide (fun wx => refTakeInt_none ⟨#[]⟩ wx lim0 take_nil)
        clear h1 h2
        go_enter Try.func38, Try.ntmps38
        go_wp2_with fail
        refine (HT.out _).mono ?_
        rintro e w1 ⟨rfl, hb1⟩
        go_wp2_with fail
        refine (HU.out _).mono ?_
        rintro e w2 ⟨rfl, hb2⟩
        go_wp2_with fail
        refine (HV.out _).mono ?_
        rintro e w3 ⟨rfl, hb3⟩
        have hb4 := bl (bl hb1 hb2) hb3
        go_wp2
        go_ret3
        exact ⟨.inl ⟨HN.out, rfl⟩, hb4⟩
      | some q =>
        obtain ⟨t, x⟩ := q
        have hxl := take_len h2
        have hxs : (Num.bs x).size ≤ maxLen := by rw [Num.bs_size]; omega
        have HU := hide (fun wx => refTake_some (Num.bs r) wx hrs h2)
        cases h3 : Num.take x with
        | none =>
          have HN := hide (Smp.takeS_first h1 (takeF_no2 h2 h3))
          have HV := hide (fun wx => refTakeInt_none (Num.bs x) wx hxs h3)
          clear h1 h2 h3
          go_enter Try.func38, Try.ntmps38
          go_wp2_with fail
          refine (HT.out _).mono ?_
          rintro e w1 ⟨rfl, hb1⟩
          go_wp2_with fail
          refine (HU.out _).mono ?_
          rintro e w2 ⟨rfl, hb2⟩
          go_wp2_with fail
          refine (HV.out _).mono ?_
          rintro e w3 ⟨rfl, hb3⟩
          have hb4 := bl (bl hb1 hb2) hb3
          go_wp2
          go_ret3
          exact ⟨.inl ⟨HN.out, rfl⟩, hb4⟩
        | some q =>
          obtain ⟨v, y⟩ := q
          have hyl := take_len h3
          have htl := Num.take_lt h2
          have hvb := Num.zag_bd (Num.take_lt h3)
          have HV := hide (fun wx => refTakeInt_some (Num.bs x) wx hxs h3)
          have HS := hide (Smp.takeS_on h1 hm (takeF_yes h2 h3))
          obtain ⟨t0, ht0⟩ : ∃ t0 : Int, t0 = (t : Int) := ⟨_, rfl⟩
          obtain ⟨v0, hv0⟩ : ∃ v0 : Int, v0 = Num.zag v := ⟨_, rfl⟩
          rw [← ht0] at HU
          rw [← ht0, ← hv0] at HS
          rw [← hv0] at HV hvb
          have ht1 : 0 ≤ t0 ∧ t0 < 18446744073709551616 := by omega
          clear h1 h2 h3 ht0 hv0
          go_enter Try.func38, Try.ntmps38
          go_wp2_with fail
          refine (HT.out _).mono ?_
          rintro e w1 ⟨rfl, hb1⟩
          go_wp2_with fail
          refine (HU.out _).mono ?_
          rintro e w2 ⟨rfl, hb2⟩
          go_wp2_with fail
          refine (HV.out _).mono ?_
          rintro e w3 ⟨rfl, hb3⟩
          have hb4 := bl (bl hb1 hb2) hb3
          clear hb1 hb2 hb3 HT HU HV
          have hown0 := OwnS.one (w := w3) (B := w.heap.size) t0 v0 hb4.size
          have hb5 := hb4.alloc hb4.size (Obj.cells #[.int .u64 t0, .int .i64 v0] 67)
          go_wp2
          go_loopw [16, 6, 15, 8, 11, 14] (fun i o bySlot atSlot valSlot outSlot wr => ∃ (k : Nat) (l' : List Sm) (t v st : Int) (q : List UInt8), k ≤ m ∧ i = .int .u64 ((k : Int) + 1) ∧ o = .string (Num.bs q) ∧ bySlot = .int .u64 st ∧ atSlot = .int .u64 t ∧ valSlot = .int .i64 v ∧ l'.length = k ∧ OwnS wr w.heap.size outSlot ((t0, v0) :: l') ∧ q.length ≤ y.length ∧ Hid (Smp.takeN m (t0, v0) 0 y = Smp.joinN l' (Smp.takeN (m - k) (t, v) st q)) ∧ Below w.heap.size w wr)
            (fun i _ _ _ _ _ _ => m + 1 - (intOf i).toNat)
          case atStart => exact ⟨0, [], t0, v0, 0, y, Nat.zero_le _, rfl, rfl, rfl, rfl, rfl, rfl, hown0, Nat.le_refl _, (Smp.joinN_nil _).symm, hb5⟩
          case round =>
            obtain ⟨k, l', tt, vv, st, q, hk, rfl, rfl, rfl, rfl, rfl, hll, hown, hql, hJ, hnx⟩ := hrel
            clear hown0 hb5
            have hsz := hnx.size
            have hqs : (Num.bs q).size ≤ maxLen := by rw [Num.bs_size]; omega
            have HLL := hide hll
            clear hll
            by_cases hlt : k < m
            · obtain ⟨m', hm'⟩ : ∃ m', m - k = m' + 1 := ⟨m - k - 1, by omega⟩
              rw [hm'] at hJ
              have hkl : (k : Int) < (m : Int) := by omega
              cases h1 : Num.take q with
              | none =>
                have HN : Hid (Smp.takeN m (t0, v0) 0 y = none) := by rw [hJ.out, Smp.takeN_none (takeC_no1 h1)]; exact rfl
                have HP := hide (fun wx => refTakeInt_none (Num.bs q) wx hqs h1)
                have HV := hide (fun wx => refTakeInt_none ⟨#[]⟩ wx lim0 take_nil)
                clear h1 hJ hown
                go_wp2_with fail
                refine (HP.out _).mono ?_
                rintro e w5 ⟨rfl, hb5⟩
                go_wp2_with fail
                refine (HV.out _).mono ?_
                rintro e w6 ⟨rfl, hb6⟩
                have hbz := bl (bl hnx hb5) hb6
                clear hb5 hb6
                go_wp2
                go_ret3
                exact ⟨.inl ⟨on_bad HS.out HN.out, rfl⟩, hbz⟩
              | some x1 =>
                obtain ⟨d, p⟩ := x1
                have hpl := take_len h1
                have hps : (Num.bs p).size ≤ maxLen := by rw [Num.bs_size]; omega
                have HP := hide (fun wx => refTakeInt_some (Num.bs q) wx hqs h1)
                cases h2 : Num.take p with
                | none =>
                  have HN : Hid (Smp.takeN m (t0, v0) 0 y = none) := by rw [hJ.out, Smp.takeN_none (takeC_no2 h1 h2)]; exact rfl
                  have HV := hide (fun wx => refTakeInt_none (Num.bs p) wx hps h2)
                  clear h1 h2 hJ hown
                  go_wp2_with fail
                  refine (HP.out _).mono ?_
                  rintro e w5 ⟨rfl, hb5⟩
                  go_wp2_with fail
                  refine (HV.out _).mono ?_
                  rintro e w6 ⟨rfl, hb6⟩
                  have hbz := bl (bl hnx hb5) hb6
                  clear hb5 hb6
                  go_wp2
                  go_ret3
                  exact ⟨.inl ⟨on_bad HS.out HN.out, rfl⟩, hbz⟩
                | some x2 =>
                  obtain ⟨e, q'⟩ := x2
                  have hql' := take_len h2
                  have HV := hide (fun wx => refTakeInt_some (Num.bs p) wx hps h2)
                  have HN : Hid (Smp.takeN m (t0, v0) 0 y = Smp.joinN (l' ++ [Smp.nxt (tt, vv) st (Num.zag d) (Num.zag e)]) (Smp.takeN m' (Smp.nxt (tt, vv) st (Num.zag d) (Num.zag e)) (Smp.u (st + Num.zag d)) q')) := by rw [hJ.out, Smp.takeN_some (takeC_yes h1 h2), Smp.joinN_join]; exact rfl
                  obtain ⟨st', hst'⟩ : ∃ st', IntKind.u64.wrap (st + IntKind.u64.wrap (Num.zag d)) = st' := ⟨_, rfl⟩
                  obtain ⟨tn, htn⟩ : ∃ tn, IntKind.u64.wrap (tt + st') = tn := ⟨_, rfl⟩
                  obtain ⟨vn, hvn⟩ : ∃ vn, wrap64 (vv + Num.zag e) = vn := ⟨_, rfl⟩
                  have e1 : Smp.u (st + Num.zag d) = st' := by rw [← hst', wu, wu, u_i]
                  have e2 : Smp.nxt (tt, vv) st (Num.zag d) (Num.zag e) = (tn, vn) := by unfold Smp.nxt; rw [e1, ← htn, ← hvn, wu, w64]
                  have HN2 : Hid (Smp.takeN m (t0, v0) 0 y = Smp.joinN (l' ++ [(tn, vn)]) (Smp.takeN m' (tn, vn) st' q')) := by rw [HN.out, e1, e2]; exact rfl
                  have hlen : ((t0, v0) :: l').length = k + 1 := by simp [HLL.out]
                  clear h1 h2 hJ HN e1 e2
                  go_wp2_with fail
                  refine (HP.out _).mono ?_
                  rintro e w5 ⟨rfl, hb5⟩
                  go_wp2_with fail
                  refine (HV.out _).mono ?_
                  rintro e w6 ⟨rfl, hb6⟩
                  have hbq := bl hb5 hb6
                  have hown3 := hown.below hbq
                  have hbz := bl hnx hbq
                  have hsz6 := hbz.size
                  unfold OwnS at hown3
                  rw [hlen] at hown3
                  clear hb5 hb6 hbq hown
                  go_wp2_with (at_builtin; refine wpList_append_own _ rfl _ _ 23 rfl w.heap.size 67 i0 _ 2 16 Try.underlying23 hi hz0 hz1 hz2 rfl (by decide) _ _ _ rfl (hown3.alloc _) ⟨w6.heap.size, 0, none⟩ 1 1 [.int .u64 tn, .int .i64 vn] rfl rfl ?c1 ?c2 ?c3 ?c4 ?c5 ?_)
                  case c1 => exact scells_two_new _ _ _ _
                  case c2 => intro x hx; simp at hx; rcases hx with rfl | rfl <;> rfl
                  case c3 => unfold maxLen; omega
                  case c4 => omega
                  case c5 => simp; omega
                  intro v' w7 hown' hgrow _
                  have R := owns_step hlen.symm hsz6 (hown3.alloc _) hbz hown' hgrow
                  clear hown3 hown' hgrow hbz
                  go_wp2
                  go_roundw
                  case rel => exact ⟨k + 1, l' ++ [(tn, vn)], tn, vn, st', q', by omega, by go_num, rfl, rfl, rfl, rfl, by simp [HLL.out], by simpa using R.1, by omega, by rw [HN2.out, show m - (k + 1) = m' by omega]; exact rfl, R.2⟩
                  case measure => simp [intOf]; omega
            · obtain rfl : k = m := by omega
              have HN : Hid (Smp.takeN k (t0, v0) 0 y = some (l', q)) := by rw [hJ.out, Nat.sub_self]; simp [Smp.takeN, Smp.joinN, Hid]
              clear hJ
              obtain ⟨a, cap, rfl, hcap, hsa, _⟩ := hown.view
              have hlen : ((t0, v0) :: l').length = k + 1 := by simp [HLL.out]
              cases hrise : Smp.riseB ((t0, v0) :: l') with
              | true =>
                have hck := Smp.check_ok (by rw [hlen]; omega) hrise
                have HG := hide (on_good HS.out HN.out hrise)
                have HC := srefCheck_any a cap _ _ hsa (by rw [hlen]; omega)
                rw [hck, hlen] at HC
                have HC' := hide HC
                clear HC
                go_wp2_with fail
                refine HC'.out.mono ?_
                rintro e w5 ⟨rfl, hb5⟩
                have hown2 := hown.below hb5
                rw [hlen] at hown2
                have hb6 := bl hnx hb5
                clear hck hrise hown hsa hcap hb5
                go_wp2
                go_ret3
                exact ⟨.inr ⟨_, _, _, HG.out, rfl, hown2⟩, hb6⟩
              | false =>
                have hck := Smp.check_order (by rw [hlen]; omega) hrise
                have HG := hide (on_low HS.out HN.out hrise)
                have HC := srefCheck_any a cap _ _ hsa (by rw [hlen]; omega)
                rw [hck, hlen] at HC
                have HC' := hide HC
                clear HC
                go_wp2_with fail
                refine HC'.out.mono ?_
                rintro e w5 ⟨rfl, hb5⟩
                have hb6 := bl hnx hb5
                clear hck hrise hown hsa hcap hb5
                go_wp2
                go_ret3
                exact ⟨.inl ⟨HG.out, rfl⟩, hb6⟩

end Go.Proofs.Ytbjcphefaciihaa
