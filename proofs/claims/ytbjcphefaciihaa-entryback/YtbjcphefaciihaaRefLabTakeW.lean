/-
  The document's own Take of labels.
-/
import Derived.Test.YtbjcphefaciihaaRefLabPutW
import Derived.Test.YtbjcphefaciihaaRefTakeTW
import Derived.Test.YtbjcphefaciihaaLabTakeW
namespace Go.Proofs.Ytbjcphefaciihaa
open Go.RowKit
open Lab (Pr)

namespace Lab
/-- A pair at the head, whatever its name. -/
def takeQ (l : List UInt8) : Option (Pr × List UInt8) :=
  match tt l 20 with
  | none => none
  | some (x, y) =>
    match tt y 40 with
    | none => none
    | some (u, v) => some ((Num.bs x, Num.bs u), v)
theorem takeQ_put {p : Pr} (hn : p.1.size ≤ 20) (hv : p.2.size ≤ 40) (r : List UInt8) : takeQ (txt p.1 ++ txt p.2 ++ r) = some (p, r) := by
  unfold takeQ
  rw [List.append_assoc, tt_txt hn (by omega)]
  simp only
  rw [tt_txt hv (by omega)]
  simp only
  rw [Num.bs_of, Num.bs_of]
theorem takeQ_of {l r : List UInt8} {p : Pr} (h : takeQ l = some (p, r)) : l = txt p.1 ++ txt p.2 ++ r ∧ p.1.size ≤ 20 ∧ p.2.size ≤ 40 := by
  unfold takeQ at h
  split at h
  · cases h
  · rename_i x y hx
    split at h
    · cases h
    · rename_i u v hu
      simp only [Option.some.injEq, Prod.mk.injEq] at h
      obtain ⟨rfl, rfl⟩ := h
      obtain ⟨e1, l1⟩ := tt_of hx
      obtain ⟨e2, l2⟩ := tt_of hu
      exact ⟨by rw [e1, e2, List.append_assoc], by rw [Num.bs_size]; exact l1, by rw [Num.bs_size]; exact l2⟩
def takeR : Nat → List UInt8 → Option (List Pr × List UInt8)
  | 0, l => some ([], l)
  | n + 1, l =>
    match takeQ l with
    | none => none
    | some (p, r) =>
      match takeR n r with
      | none => none
      | some (ps, r') => some (p :: ps, r')
theorem takeR_put : ∀ (ps : List Pr) (r : List UInt8), (∀ p ∈ ps, p.1.size ≤ 20 ∧ p.2.size ≤ 40) → takeR ps.length (pb ps ++ r) = some (ps, r)
  | [], _, _ => rfl
  | p :: ps, r, h => by
    have hp := h p (by simp)
    simp only [List.length_cons, pb, takeR]
    rw [List.append_assoc, takeQ_put hp.1 hp.2]
    simp only
    rw [takeR_put ps r (fun q hq => h q (List.mem_cons_of_mem _ hq))]
theorem takeR_of : ∀ (n : Nat) (l r : List UInt8) (ps : List Pr), takeR n l = some (ps, r) → ps.length = n ∧ l = pb ps ++ r ∧ ∀ p ∈ ps, p.1.size ≤ 20 ∧ p.2.size ≤ 40
  | 0, l, r, ps, h => by
    simp only [takeR, Option.some.injEq, Prod.mk.injEq] at h
    obtain ⟨rfl, rfl⟩ := h
    exact ⟨rfl, rfl, fun p hp => by simp at hp⟩
  | n + 1, l, r, ps, h => by
    unfold takeR at h
    split at h
    · cases h
    · rename_i p r1 hp
      split at h
      · cases h
      · rename_i qs r2 hq
        simp only [Option.some.injEq, Prod.mk.injEq] at h
        obtain ⟨rfl, rfl⟩ := h
        obtain ⟨i1, i2, i3⟩ := takeR_of n r1 r2 qs hq
        obtain ⟨e1, e2, e3⟩ := takeQ_of hp
        refine ⟨by simp [i1], by rw [e1, i2]; simp [pb], fun q hq => ?_⟩
        rcases List.mem_cons.1 hq with rfl | hq
        · exact ⟨e2, e3⟩
        · exact i3 q hq
/-- nothing was begun -/
theorem takeL_no1 {l : List UInt8} (h : Num.take l = none) : takeL l = none := by simp [takeL, h]
theorem takeL_no2 {l r : List UInt8} {n : Nat} (h : Num.take l = some (n, r)) (h8 : 8 < n) : takeL l = none := by simp [takeL, h, h8]
theorem takeL_head {l r : List UInt8} {ps : List Pr} (h : takeL l = some (ps, r)) : Num.take l = some (ps.length, pb ps ++ r) ∧ takeR ps.length (pb ps ++ r) = some (ps, r) := by
  obtain ⟨e, hr, _⟩ := takeL_of h
  have h8 := hr.1
  refine ⟨?_, takeR_put ps r (fun p hp => ⟨(isName_true (hr.2.1 p hp).1).2.1, (hr.2.1 p hp).2⟩)⟩
  rw [e, putL, List.append_assoc, Num.take_put _ _ (by omega)]
theorem takeL_no3 {l r : List UInt8} {n : Nat} (h : Num.take l = some (n, r)) (hq : takeR n r = none) : takeL l = none := by
  cases h2 : takeL l with
  | none => rfl
  | some q =>
    obtain ⟨ps, r2⟩ := q
    obtain ⟨e1, e2⟩ := takeL_head h2
    rw [h] at e1
    simp only [Option.some.injEq, Prod.mk.injEq] at e1
    obtain ⟨rfl, rfl⟩ := e1
    rw [hq] at e2; cases e2
theorem takeL_no4 {l r r2 : List UInt8} {n : Nat} {ps : List Pr} (h : Num.take l = some (n, r)) (hq : takeR n r = some (ps, r2)) (hr : ¬ Right ps) : takeL l = none := by
  cases h2 : takeL l with
  | none => rfl
  | some q =>
    obtain ⟨qs, r3⟩ := q
    obtain ⟨e1, e2⟩ := takeL_head h2
    rw [h] at e1
    simp only [Option.some.injEq, Prod.mk.injEq] at e1
    obtain ⟨rfl, rfl⟩ := e1
    rw [hq] at e2
    simp only [Option.some.injEq, Prod.mk.injEq] at e2
    obtain ⟨rfl, rfl⟩ := e2
    exact absurd (takeL_of h2).2.1 hr
theorem takeL_no5 {l r r2 : List UInt8} {n : Nat} {ps : List Pr} (h : Num.take l = some (n, r)) (hq : takeR n r = some (ps, r2)) (hne : putL (canon ps) ++ r2 ≠ l) : takeL l = none := by
  cases h2 : takeL l with
  | none => rfl
  | some q =>
    obtain ⟨qs, r3⟩ := q
    obtain ⟨e1, e2⟩ := takeL_head h2
    rw [h] at e1
    simp only [Option.some.injEq, Prod.mk.injEq] at e1
    obtain ⟨rfl, rfl⟩ := e1
    rw [hq] at e2
    simp only [Option.some.injEq, Prod.mk.injEq] at e2
    obtain ⟨rfl, rfl⟩ := e2
    obtain ⟨e, hr, hs⟩ := takeL_of h2
    exact absurd (by rw [canon_of_rise hs hr, e]) hne
theorem takeL_yes {l r r2 : List UInt8} {n : Nat} {ps : List Pr} (h : Num.take l = some (n, r)) (hq : takeR n r = some (ps, r2)) (hr : Right ps) (he : putL (canon ps) ++ r2 = l) : takeL l = some (ps, r2) := by
  have h1 := takeL_put (canon_right hr) (canon_rise hr) r2
  rw [he] at h1
  obtain ⟨i1, i2, _⟩ := takeR_of _ _ _ _ hq
  have e2 : l = putL ps ++ r2 := by rw [(Num.of_take h).1, i2, putL, i1, List.append_assoc]
  have e3 : ps = canon ps := (putL_inj hr (canon_right hr) (x := r2) (y := r2) (by rw [← e2, he])).1
  rw [h1, ← e3]
end Lab

theorem rtt_ok (s : ByteArray) (most : Nat) (w : World) (hs : s.size ≤ maxLen) (hm : most ≤ 1000) {x y : List UInt8} (h : Lab.tt s.data.toList most = some (x, y)) :
    Calls Try.prog 65 #[.string s, .int .i64 (most : Int)] w fun e w' => e = .returned (.tuple #[.string (Num.bs x), .string (Num.bs y), .int .i64 0]) ∧ Below w.heap.size w w' := by
  have := refTakeText_any s most w hs (by omega) (by omega)
  unfold Lab.tt at h
  split at h
  · cases h
  · rename_i n r hn
    split at h
    · cases h
    · split at h
      · cases h
      · rename_i h1 h2
        simp only [Option.some.injEq, Prod.mk.injEq] at h
        obtain ⟨rfl, rfl⟩ := h
        rwa [← takeTextV_some hn (by unfold mostOf; rw [if_neg (by omega)]; omega) h2 rfl rfl] at this
theorem rtt_no (s : ByteArray) (most : Nat) (w : World) (hs : s.size ≤ maxLen) (hm : most ≤ 1000) (h : Lab.tt s.data.toList most = none) :
    Calls Try.prog 65 #[.string s, .int .i64 (most : Int)] w fun e w' => ∃ c : Int, e = .returned (.tuple #[.string ⟨#[]⟩, .string ⟨#[]⟩, .int .i64 c]) ∧ (c != 0) = true ∧ Below w.heap.size w w' := by
  have := refTakeText_any s most w hs (by omega) (by omega)
  unfold Lab.tt at h
  split at h
  · rename_i hn
    rw [← takeTextV_none hn] at this
    exact this.mono fun e w' ⟨he, hb⟩ => ⟨2, he, rfl, hb⟩
  · rename_i n r hn
    split at h
    · rename_i h1
      rw [← takeTextV_long hn (by unfold mostOf; rw [if_neg (by omega)]; omega)] at this
      exact this.mono fun e w' ⟨he, hb⟩ => ⟨7, he, rfl, hb⟩
    · split at h
      · rename_i h1 h2
        rw [← takeTextV_short hn (by unfold mostOf; rw [if_neg (by omega)]; omega) h2] at this
        exact this.mono fun e w' ⟨he, hb⟩ => ⟨2, he, rfl, hb⟩
      · cases h
theorem tt_nil (most : Nat) : Lab.tt [] most = none := by
  unfold Lab.tt
  have : Num.take [] = none := rfl
  rw [this]

theorem joinS_on {ps : List Pr} {m : Nat} {r r' : List UInt8} {p : Pr} (h : Lab.takeQ r = some (p, r')) : joinR ps (Lab.takeR (m + 1) r) = joinR (ps ++ [p]) (Lab.takeR m r') := by
  simp only [joinR, Lab.takeR, h]
  cases Lab.takeR m r' with
  | none => simp
  | some q => simp
theorem joinS_none {ps : List Pr} {m : Nat} {r : List UInt8} (h : Lab.takeQ r = none) : joinR ps (Lab.takeR (m + 1) r) = none := by simp [joinR, Lab.takeR, h]
theorem joinS_start (o : Option (List Pr × List UInt8)) : o = joinR [] o := by cases o <;> simp [joinR]

theorem rtt_empty (w : World) : Calls Try.prog 65 #[.string ⟨#[]⟩, .int .i64 40] w fun e w' => ∃ c : Int, e = .returned (.tuple #[.string ⟨#[]⟩, .string ⟨#[]⟩, .int .i64 c]) ∧ (c != 0) = true ∧ Below w.heap.size w w' :=
  rtt_no ⟨#[]⟩ 40 w (by decide) (by omega) (tt_nil 40)
theorem takeQ_len {l r : List UInt8} {p : Pr} (h : Lab.takeQ l = some (p, r)) : r.length ≤ l.length := by
  rw [(Lab.takeQ_of h).1]; simp only [List.length_append]; omega

set_option maxRecDepth 100000 in
set_option maxHeartbeats 3200000 in
theorem rltake_any (s : ByteArray) (w : World) (hs : s.size ≤ 100000) :
    Calls Try.prog 37 #[.string s] w fun e w' => ((Lab.takeL s.data.toList = none ∧ e = .returned (.tuple #[.slice none 0 0, .string ⟨#[]⟩, .int .i64 2])) ∨ ∃ ps r v, Lab.takeL s.data.toList = some (ps, r) ∧ e = .returned (.tuple #[v, .string (Num.bs r), .int .i64 0]) ∧ OwnP w' w.heap.size v ps) ∧ Below w.heap.size w w' := by
  have hsl : s.data.toList.length = s.size := rfl
  have hsm : s.size ≤ maxLen := by unfold maxLen; omega
  cases h1 : Num.take s.data.toList with
  | none =>
    have HL := hide (Lab.takeL_no1 h1)
    have HT := hide (fun wx => refTake_none s wx hsm h1)
    clear h1 hsl
    go_enter Try.func37, Try.ntmps37
    go_wp2_with fail
    refine (HT.out _).mono ?_
    rintro e w1 ⟨rfl, hb1⟩
    go_wp2
    go_ret3
    exact ⟨.inl ⟨HL.out, rfl⟩, hb1⟩
  | some q =>
    obtain ⟨n, r0⟩ := q
    have HT := hide (fun wx => refTake_some s wx hsm h1)
    by_cases h8 : 8 < n
    · have HL := hide (Lab.takeL_no2 h1 h8)
      have hn := Num.take_lt h1
      have h8' : (8 : Int) < (n : Int) := by omega
      clear h1 hsl
      go_enter Try.func37, Try.ntmps37
      go_wp2_with fail
      refine (HT.out _).mono ?_
      rintro e w1 ⟨rfl, hb1⟩
      go_wp2
      go_ret3
      exact ⟨.inl ⟨HL.out, rfl⟩, hb1⟩
    · obtain ⟨i0, hi, hz0, hz1, hz2⟩ := info_parts info_pair
      have hr0 : r0.length ≤ s.size := by
        have := (Num.of_take h1).1
        rw [← hsl, this]; simp
      have HN1 := hide h1
      clear h1 hsl
      go_enter Try.func37, Try.ntmps37
      go_wp2_with fail
      refine (HT.out _).mono ?_
      rintro e w1 ⟨rfl, hb1⟩
      have hsz1 := hb1.size
      go_wp2
      go_loopw [6, 8, 9] (fun rest v i wr => ∃ (k : Nat) (ps : List Pr) (r : List UInt8), k ≤ n ∧ i = .int .u64 (k : Int) ∧ rest = .string (Num.bs r) ∧ ps.length = k ∧ OwnP wr w.heap.size v ps ∧ (∀ p ∈ ps, p.1.size ≤ 20 ∧ p.2.size ≤ 40) ∧ r.length ≤ s.size ∧ Lab.takeR n r0 = joinR ps (Lab.takeR (n - k) r) ∧ Below w.heap.size w wr)
        (fun _ _ i _ => n - (intOf i).toNat)
      case atStart => exact ⟨0, [], r0, Nat.zero_le _, rfl, rfl, rfl, OwnP.nil _ _, fun p hp => by simp at hp, hr0, joinS_start _, hb1⟩
      case round =>
        obtain ⟨k, ps, r, hk, rfl, rfl, hpl, hown, hsmall, hrl, hJ, hnx⟩ := hrel
        have hsz := hnx.size
        have HPL := hide hpl
        have HSM := hide hsmall
        clear hsmall
        by_cases hlt : k < n
        · obtain ⟨m, hm⟩ : ∃ m, n - k = m + 1 := ⟨n - k - 1, by omega⟩
          rw [hm] at hJ
          have hrs : (Num.bs r).size ≤ maxLen := by rw [Num.bs_size]; unfold maxLen; omega
          cases hx : Lab.tt r 20 with
          | none =>
            have hq : Lab.takeQ r = none := by simp [Lab.takeQ, hx]
            have HN := hide (Lab.takeL_no3 HN1.out (hJ.trans (joinS_none hq)))
            have HP := hide (fun wx => rtt_no (Num.bs r) 20 wx hrs (by omega) hx)
            clear hJ hx hq hpl
            go_wp2_with fail
            refine (HP.out _).mono ?_
            rintro e w2 ⟨c, rfl, hc, hb2⟩
            go_wp2_with fail
            refine (rtt_empty _).mono ?_
            rintro e w3 ⟨c2, rfl, hc2, hb3⟩
            have hbz := bl hnx (bl hb2 hb3)
            clear hb2 hb3
            go_wp2
            go_ret3
            exact ⟨.inl ⟨HN.out, rfl⟩, hbz⟩
          | some q =>
            obtain ⟨x, y⟩ := q
            have hxl := tt_len hx
            have hys : (Num.bs y).size ≤ maxLen := by rw [Num.bs_size]; unfold maxLen; omega
            have HP := hide (fun wx => rtt_ok (Num.bs r) 20 wx hrs (by omega) hx)
            cases hy : Lab.tt y 40 with
            | none =>
              have hq : Lab.takeQ r = none := by simp [Lab.takeQ, hx, hy]
              have HN := hide (Lab.takeL_no3 HN1.out (hJ.trans (joinS_none hq)))
              have HP2 := hide (fun wx => rtt_no (Num.bs y) 40 wx hys (by omega) hy)
              clear hJ hx hy hq hpl hxl
              go_wp2_with fail
              refine (HP.out _).mono ?_
              rintro e w2 ⟨rfl, hb2⟩
              go_wp2_with fail
              refine (HP2.out _).mono ?_
              rintro e w3 ⟨c2, rfl, hc2, hb3⟩
              have hbz := bl hnx (bl hb2 hb3)
              clear hb2 hb3
              go_wp2
              go_ret3
              exact ⟨.inl ⟨HN.out, rfl⟩, hbz⟩
            | some q =>
              obtain ⟨u, v'⟩ := q
              have hq : Lab.takeQ r = some ((Num.bs x, Num.bs u), v') := by simp [Lab.takeQ, hx, hy]
              have HN := hide (hJ.trans (joinS_on hq))
              have HQL := hide (takeQ_len hq)
              have HQS := hide (Lab.takeQ_of hq).2
              have HP2 := hide (fun wx => rtt_ok (Num.bs y) 40 wx hys (by omega) hy)
              clear hJ hx hy hq hpl hxl
              go_wp2_with fail
              refine (HP.out _).mono ?_
              rintro e w2 ⟨rfl, hb2⟩
              go_wp2_with fail
              refine (HP2.out _).mono ?_
              rintro e w3 ⟨rfl, hb3⟩
              have hown2 := hown.below (bl hb2 hb3)
              have hbz := bl hnx (bl hb2 hb3)
              have hszz := hbz.size
              unfold OwnP at hown2
              rw [HPL.out] at hown2
              clear hb2 hb3 hown
              go_wp2_with (at_builtin; refine wpList_append_own _ rfl _ _ 22 rfl w.heap.size 53 i0 _ 2 32 Try.underlying22 hi hz0 hz1 hz2 rfl (by decide) _ _ _ rfl (hown2.alloc _) ⟨w3.heap.size, 0, none⟩ 1 1 [.string (Num.bs x), .string (Num.bs u)] rfl rfl ?c1 ?c2 ?c3 ?c4 ?c5 ?_)
              case c1 => exact cells_two_new _ _ _ _
              case c2 => intro u hu; simp at hu; rcases hu with rfl | rfl <;> rfl
              case c3 => unfold maxLen; omega
              case c4 => omega
              case c5 => simp; omega
              intro v2 w4 hown' hgrow _
              have R := own_step2 HPL.out.symm hszz (hown2.alloc _) hbz hown' hgrow
              clear hown2 hown' hgrow
              go_wp2
              go_roundw
              case rel =>
                refine ⟨k + 1, ps ++ [(Num.bs x, Num.bs u)], v', by omega, by go_num, rfl, by simp [HPL.out], R.1, fun p hp => ?_, by have := HQL.out; omega, by rw [HN.out, show n - (k + 1) = m by omega], R.2⟩
                rcases List.mem_append.1 hp with hp | hp
                · exact HSM.out p hp
                · rw [List.mem_singleton.1 hp]; exact HQS.out
              case measure => simp [intOf]; omega
        · have h0 : n - k = 0 := by omega
          rw [h0] at hJ
          have HJ : Hid (Lab.takeR n r0 = some (ps, r)) := by rw [hJ]; simp [joinR, Lab.takeR, Hid]
          obtain ⟨oa, ocap, rfl, hocap, hop, _⟩ := hown.view
          have HOW := hide hown
          clear hJ h0 hown
          by_cases hR : Lab.Right ps
          · have HPG := hide (rlput_good oa ocap ps wr hop hR)
            have l1 : (Num.bs (Lab.putL (Lab.canon ps))).size ≤ 50000 := by rw [Num.bs_size]; exact Lab.putL_len (Lab.canon_right hR)
            have l2 : (Num.bs r).size ≤ 100000 := by rw [Num.bs_size]; omega
            by_cases he : Lab.putL (Lab.canon ps) ++ r = s.data.toList
            · have HL := hide (Lab.takeL_yes HN1.out HJ.out hR he)
              have hjo : ((Num.bs (Lab.putL (Lab.canon ps)) ++ Num.bs r).toList == s.toList) = true := by
                have : Num.bs (Lab.putL (Lab.canon ps)) ++ Num.bs r = s := by rw [bs_append, Num.bs_toList, he, Num.bs_of]
                rw [this]; simp
              clear he hop hpl
              go_wp2_with fail
              refine HPG.out.mono ?_
              rintro e w5 ⟨rfl, hb5⟩
              have HO5 := hide (HOW.out.below hb5)
              have hbz := bl hnx hb5
              clear hb5
              go_wp2
              go_ret3
              exact ⟨.inr ⟨ps, r, _, HL.out, rfl, HO5.out⟩, hbz⟩
            · have HL := hide (Lab.takeL_no5 HN1.out HJ.out he)
              have hjo : ((Num.bs (Lab.putL (Lab.canon ps)) ++ Num.bs r).toList == s.toList) = false := by
                rw [bs_append, Num.bs_toList]
                refine beq_eq_false_iff_ne.2 fun e => he ?_
                rw [ByteArray.toList_eq, ByteArray.toList_eq, Num.bs_toList] at e
                exact e
              clear he hop hpl
              go_wp2_with fail
              refine HPG.out.mono ?_
              rintro e w5 ⟨rfl, hb5⟩
              have hbz := bl hnx hb5
              clear hb5
              go_wp2
              go_ret3
              exact ⟨.inl ⟨HL.out, rfl⟩, hbz⟩
          · have HL := hide (Lab.takeL_no4 HN1.out HJ.out hR)
            have h0 : Lab.check ps ≠ 0 := fun e => hR (Lab.check_zero.1 e)
            have hne : ((Lab.check ps : Int) != 0) = true := by simp; omega
            have HPG := hide (rlput_bad oa ocap ps wr hop ⟨by omega, fun p hp => by have := HSM.out p hp; omega⟩ h0)
            clear hR h0 hop hpl
            go_wp2_with fail
            refine HPG.out.mono ?_
            rintro e w5 ⟨rfl, hb5⟩
            have hbz := bl hnx hb5
            clear hb5
            go_wp2
            go_ret3
            exact ⟨.inl ⟨HL.out, rfl⟩, hbz⟩

end Go.Proofs.Ytbjcphefaciihaa
