/-
  Take.
-/
import Derived.Test.YtbjcphefaciihaaSmpTakeW
namespace Go.Proofs.Ytbjcphefaciihaa
open Go.RowKit
open Smp (Sm)

/-- What Take answers. -/
def TookS (s : List UInt8) (e : Ending) (w' : World) (B : Nat) : Prop :=
  (Smp.takeS s = none ∧ e = .returned (.tuple #[.slice none 0 0, .string ⟨#[]⟩, .int .i64 2])) ∨
  ∃ l r v, Smp.takeS s = some (l, r) ∧ e = .returned (.tuple #[v, .string (Num.bs r), .int .i64 0]) ∧ OwnS w' B v l

theorem grown_keep {w w' : World} {row : Option Nat} {A A' : Nat} {a : Sm} {st : Int} (h : Keep w A A' a st) (hg : w.grownBy w' row) (h1 : row ≠ some A) (h2 : row ≠ some A') : Keep w' A A' a st :=
  ⟨h.1, (hg.block A h.lt.1 (fun e => h1 e.symm)).trans h.2.1, (hg.block A' h.lt.2 (fun e => h2 e.symm)).trans h.2.2⟩
theorem keep_alloc {w : World} {A A' : Nat} {a : Sm} {st : Int} (h : Keep w A A' a st) (o : Obj) : Keep (w.alloc o) A A' a st := h.below ((Below.refl _ _).alloc (Nat.le_refl _) o)
theorem on_bad {s y : List UInt8} {m : Nat} {a : Sm} (h : Smp.takeS s = match Smp.takeN m a 0 y with
      | none => none
      | some (l, z) => if Smp.riseB (a :: l) = true then some (a :: l, z) else none) (hn : Smp.takeN m a 0 y = none) : Smp.takeS s = none := by rw [h, hn]
theorem on_low {s y z : List UInt8} {m : Nat} {a : Sm} {l : List Sm} (h : Smp.takeS s = match Smp.takeN m a 0 y with
      | none => none
      | some (l, z) => if Smp.riseB (a :: l) = true then some (a :: l, z) else none) (hn : Smp.takeN m a 0 y = some (l, z)) (hr : Smp.riseB (a :: l) = false) : Smp.takeS s = none := by rw [h, hn]; simp [hr]
theorem on_good {s y z : List UInt8} {m : Nat} {a : Sm} {l : List Sm} (h : Smp.takeS s = match Smp.takeN m a 0 y with
      | none => none
      | some (l, z) => if Smp.riseB (a :: l) = true then some (a :: l, z) else none) (hn : Smp.takeN m a 0 y = some (l, z)) (hr : Smp.riseB (a :: l) = true) : Smp.takeS s = some (a :: l, z) := by rw [h, hn]; simp [hr]

set_option maxRecDepth 100000 in
set_option maxHeartbeats 3200000 in
theorem takeS_any (s : ByteArray) (w : World) (hs : s.size ≤ maxLen) :
    Calls Try.prog 33 #[.string s] w fun e w' => TookS s.data.toList e w' w.heap.size ∧ Below w.heap.size w w' := by
  obtain ⟨i0, hi, hz0, hz1, hz2⟩ := info_parts info_smp
  cases h1 : Num.take s.data.toList with
  | none =>
    have HT := hide (fun wx => take_none s wx hs h1)
    have HN := hide (Smp.takeS_no h1)
    clear h1
    go_enter Try.func33, Try.ntmps33
    go_wp2_with fail
    refine (HT.out _).mono ?_
    rintro e w1 ⟨rfl, hb1⟩
    go_wp2
    go_ret3
    exact ⟨.inl ⟨HN.out, rfl⟩, hb1⟩
  | some q =>
    obtain ⟨n, r⟩ := q
    have hnl := Num.take_lt h1
    have hrl := take_len h1
    have hsl : s.data.toList.length = s.size := rfl
    have HT := hide (fun wx => take_some s wx hs h1)
    have hrs : (Num.bs r).size ≤ maxLen := by rw [Num.bs_size]; omega
    by_cases hn : n < 1 ∨ 20 < n
    · have HN := hide (Smp.takeS_many h1 hn)
      clear h1
      rcases hn with h0 | h20
      · obtain rfl : n = 0 := by omega
        go_enter Try.func33, Try.ntmps33
        go_wp2_with fail
        refine (HT.out _).mono ?_
        rintro e w1 ⟨rfl, hb1⟩
        go_wp2
        go_ret3
        exact ⟨.inl ⟨HN.out, rfl⟩, hb1⟩
      · have hne : (((n : Nat) : Int) == 0) = false := beq_eq_false_iff_ne.2 (by omega)
        go_enter Try.func33, Try.ntmps33
        go_wp2_with fail
        refine (HT.out _).mono ?_
        rintro e w1 ⟨rfl, hb1⟩
        go_wp2
        go_ret3
        exact ⟨.inl ⟨HN.out, rfl⟩, hb1⟩
    · obtain ⟨m, rfl⟩ : ∃ m, n = m + 1 := ⟨n - 1, by omega⟩
      have hm : m < 20 := by omega
      have hne : (((m : Nat) : Int) + 1 == 0) = false := beq_eq_false_iff_ne.2 (by omega)
      cases h2 : Smp.takeF r with
      | none =>
        have HN := hide (Smp.takeS_first h1 h2)
        have HU := hide (fun wx => takeFirst_none (Num.bs r) wx hrs h2)
        clear h1 h2
        go_enter Try.func33, Try.ntmps33
        go_wp2_with fail
        refine (HT.out _).mono ?_
        rintro e w1 ⟨rfl, hb1⟩
        go_wp2_with fail
        refine (HU.out _).mono ?_
        rintro e w2 ⟨rfl, hb2⟩
        have hb3 := (bl hb1 hb2).alloc (bl hb1 hb2).size (Obj.cells #[.int .u64 0, .int .i64 0] 67)
        go_wp2
        go_ret3
        exact ⟨.inl ⟨HN.out, rfl⟩, hb3⟩
      | some q =>
        obtain ⟨⟨t0, v0⟩, y⟩ := q
        have hyl := Smp.takeF_len h2
        have HS := hide (Smp.takeS_on h1 hm h2)
        have HU := hide (fun wx => takeFirst_some (Num.bs r) wx hrs h2)
        clear h1 h2
        go_enter Try.func33, Try.ntmps33
        go_wp2_with fail
        refine (HT.out _).mono ?_
        rintro e w1 ⟨rfl, hb1⟩
        go_wp2_with fail
        refine (HU.out _).mono ?_
        rintro e w2 ⟨rfl, hb2⟩
        have hb3 := bl hb1 hb2
        clear hb1 hb2 HT HU
        go_wp2_with fail
        obtain ⟨wb, hwb⟩ : ∃ wb, wb = w2.alloc (Obj.cells #[.int .u64 t0, .int .i64 v0] 67) := ⟨_, rfl⟩
        have hb4 : Below w.heap.size w wb := by rw [hwb]; exact hb3.alloc hb3.size _
        have hwbs : w2.heap.size + 1 = wb.heap.size := by rw [hwb]; simp
        have hown0 := OwnS.one (w := wb) (B := w.heap.size) t0 v0 hb4.size
        have hb5 := hb4.alloc hb4.size (Obj.cells #[.int .u64 t0, .int .i64 v0] 67)
        rw [← hwb, hwbs]
        clear hwb hwbs hb3 hb4
        refine (samplesFrom_any t0 v0 _).mono ?_
        rintro e w4 ⟨A, A', rfl, hA, hA', hkeep, hb6⟩
        have hown1 := hown0.below hb6
        have hb7 := bl hb5 hb6
        have hAw : w.heap.size ≤ A := Nat.le_trans hb5.size hA
        have hAw' : w.heap.size ≤ A' := Nat.le_trans hb5.size hA'
        have hn1 : (Value.slice (some ⟨wb.heap.size, 0, none⟩) 1 1).ownBlock ≠ some A := by simp [Value.ownBlock]; simp at hA; omega
        have hn2 : (Value.slice (some ⟨wb.heap.size, 0, none⟩) 1 1).ownBlock ≠ some A' := by simp [Value.ownBlock]; simp at hA'; omega
        clear hb5 hb6 hA hA' hown0
        go_wp2
        go_loopw [43, 9, 6] (fun i v o wr => ∃ (k : Nat) (l' : List Sm) (ah : Sm) (st : Int) (q : List UInt8), k ≤ m ∧ i = .int .u64 (k : Int) ∧ o = .string (Num.bs q) ∧ l'.length = k ∧ OwnS wr w.heap.size v ((t0, v0) :: l') ∧ v.ownBlock ≠ some A ∧ v.ownBlock ≠ some A' ∧ Keep wr A A' ah st ∧ q.length ≤ y.length ∧ Hid (Smp.takeN m (t0, v0) 0 y = Smp.joinN l' (Smp.takeN (m - k) ah st q)) ∧ Below w.heap.size w wr)
          (fun i _ _ _ => m - (intOf i).toNat)
        case atStart => exact ⟨0, [], (t0, v0), 0, y, Nat.zero_le _, rfl, rfl, rfl, hown1, hn1, hn2, hkeep, Nat.le_refl _, (Smp.joinN_nil _).symm, hb7⟩
        case round =>
          obtain ⟨k, l', ah, st, q, hk, rfl, rfl, hll, hown, hv1, hv2, hkp, hql, hJ, hnx⟩ := hrel
          clear hown1 hn1 hn2 hkeep hb7
          have hsz := hnx.size
          have hqs : (Num.bs q).size ≤ maxLen := by rw [Num.bs_size]; omega
          have HLL := hide hll
          clear hll
          by_cases hlt : k < m
          · obtain ⟨m', hm'⟩ : ∃ m', m - k = m' + 1 := ⟨m - k - 1, by omega⟩
            rw [hm'] at hJ
            have hkl : (k : Int) < (m : Int) := by omega
            cases hc : Smp.takeC q with
            | none =>
              have HN : Hid (Smp.takeN m (t0, v0) 0 y = none) := by rw [hJ.out, Smp.takeN_none hc]; exact rfl
              have HP := hide (fun wx => takeChange_none (Num.bs q) wx hqs hc)
              clear hc hJ hown hkp hv1 hv2
              go_wp2_with fail
              refine (HP.out _).mono ?_
              rintro e w5 ⟨rfl, hb5⟩
              obtain ⟨p1, p2, p3, p4⟩ := stwo_later hb5
              have hbz := bl hnx (sbel_al hb5)
              clear hb5
              go_wp2
              go_ret3
              exact ⟨.inl ⟨on_bad HS.out HN.out, rfl⟩, (hbz.setCell hsz _).setCell hsz _⟩
            | some x =>
              obtain ⟨⟨d, e⟩, q'⟩ := x
              have HP := hide (fun wx => takeChange_some (Num.bs q) wx hqs hc)
              have hql' := Smp.takeC_len hc
              have HN : Hid (Smp.takeN m (t0, v0) 0 y = Smp.joinN (l' ++ [Smp.nxt ah st d e]) (Smp.takeN m' (Smp.nxt ah st d e) (Smp.u (st + d)) q')) := by rw [hJ.out, Smp.takeN_some hc, Smp.joinN_join]; exact rfl
              clear hc hJ
              go_wp2_with fail
              refine (HP.out _).mono ?_
              rintro e w5 ⟨rfl, hb5⟩
              obtain ⟨p1, p2, p3, p4⟩ := stwo_later hb5
              have hbw : Below wr.heap.size wr ((w5.setCell ⟨wr.heap.size, 0, none⟩ (.int .i64 d)).setCell ⟨wr.heap.size, 1, none⟩ (.int .i64 e)) := ((sbel_al hb5).setCell (Nat.le_refl _) _).setCell (Nat.le_refl _) _
              have hown2 := hown.below hbw
              have hkp2 := hkp.below hbw
              have hbz := bl hnx hbw
              have q1 := (sset_two p1 p2 (.int .i64 d) (.int .i64 e)).1
              have q2 := (sset_two p1 p2 (.int .i64 d) (.int .i64 e)).2
              clear hb5 hbw hown hkp
              go_wp2_with fail
              refine (sample_any A A' ah st d e _ hkp2).mono ?_
              rintro e6 w6 ⟨rfl, hU⟩
              have hown3 := hU.own hown2 hv1 hv2
              have hb6 := hbz.trans (hU.below (B := w.heap.size) hbz.size hAw hAw')
              have hkp3 := hU.1
              generalize Smp.nxt ah st d e = nx at *
              obtain ⟨tn, vn⟩ := nx
              have hsz6 := hb6.size
              have hlen : ((t0, v0) :: l').length = k + 1 := by simp [HLL.out]
              unfold OwnS at hown3
              rw [hlen] at hown3
              clear hU hkp2 hown2 hbz q1 q2 p1 p2 p3 p4
              go_wp2_with (at_builtin; refine wpList_append_own _ rfl _ _ 23 rfl w.heap.size 67 i0 _ 2 16 Try.underlying23 hi hz0 hz1 hz2 rfl (by decide) _ _ _ rfl (hown3.alloc _) ⟨w6.heap.size, 0, none⟩ 1 1 [.int .u64 tn, .int .i64 vn] rfl rfl ?c1 ?c2 ?c3 ?c4 ?c5 ?_)
              case c1 => exact scells_two_new _ _ _ _
              case c2 => intro x hx; simp at hx; rcases hx with rfl | rfl <;> rfl
              case c3 => unfold maxLen; omega
              case c4 => omega
              case c5 => simp; omega
              intro v' w7 hown' hgrow _
              have R := owns_step hlen.symm hsz6 (hown3.alloc _) hb6 hown' hgrow
              have hkp4 := grown_keep (keep_alloc hkp3 _) hgrow hv1 hv2
              have ap := own_apart hkp4 R.1 (by simp)
              clear hown3 hown' hgrow hkp3 hb6
              go_wp2
              go_roundw
              case rel => exact ⟨k + 1, l' ++ [(tn, vn)], (tn, vn), _, q', by omega, by go_num, rfl, by simp [HLL.out], by simpa using R.1, ap.1, ap.2, hkp4, by omega, by rw [HN.out, show m - (k + 1) = m' by omega]; exact rfl, R.2⟩
              case measure => simp [intOf]; omega
          · obtain rfl : k = m := by omega
            have HN : Hid (Smp.takeN k (t0, v0) 0 y = some (l', q)) := by rw [hJ.out, Nat.sub_self]; simp [Smp.takeN, Smp.joinN, Hid]
            clear hJ hkp
            obtain ⟨a, cap, rfl, hcap, hsa, _⟩ := hown.view
            have hlen : ((t0, v0) :: l').length = k + 1 := by simp [HLL.out]
            cases hrise : Smp.riseB ((t0, v0) :: l') with
            | true =>
              have hck := Smp.check_ok (by rw [hlen]; omega) hrise
              have HG := hide (on_good HS.out HN.out hrise)
              have HC := scheck_any _ _ _ _ hsa hcap (by rw [hlen]; omega)
              rw [hck, hlen] at HC
              have HC' := hide HC
              clear HC
              go_wp2_with fail
              refine HC'.out.mono ?_
              rintro e w5 ⟨rfl, hb5⟩
              have hown2 := hown.below hb5
              rw [hlen] at hown2
              have hb6 := bl hnx hb5
              clear hck hrise hown hsa hcap hb5
              go_wp2
              go_ret3
              exact ⟨.inr ⟨_, _, _, HG.out, rfl, hown2⟩, hb6⟩
            | false =>
              have hck := Smp.check_order (by rw [hlen]; omega) hrise
              have HG := hide (on_low HS.out HN.out hrise)
              have HC := scheck_any _ _ _ _ hsa hcap (by rw [hlen]; omega)
              rw [hck, hlen] at HC
              have HC' := hide HC
              clear HC
              go_wp2_with fail
              refine HC'.out.mono ?_
              rintro e w5 ⟨rfl, hb5⟩
              have hb6 := bl hnx hb5
              clear hck hrise hown hsa hcap hb5
              go_wp2
              go_ret3
              exact ⟨.inl ⟨HG.out, rfl⟩, hb6⟩

end Go.Proofs.Ytbjcphefaciihaa
