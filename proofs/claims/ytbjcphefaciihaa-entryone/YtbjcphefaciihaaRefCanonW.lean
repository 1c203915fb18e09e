/-
  The document's own Canon: again and again the first of those behind the last one.
-/
import Derived.Test.YtbjcphefaciihaaRefCheckW
import Derived.Test.YtbjcphefaciihaaLabOwnW
import Derived.Test.YtbjcphefaciihaaLabTakeM
namespace Go.Proofs.Ytbjcphefaciihaa
open Go.RowKit
open Lab (Pr)

/-- The name of the last one that was put down. -/
def lastN (c : List Pr) (m : Nat) : ByteArray := if h : 0 < m ∧ m ≤ c.length then (c[m - 1]'(by omega)).1 else ⟨#[]⟩
theorem lastN_zero (c : List Pr) : lastN c 0 = ⟨#[]⟩ := by simp [lastN]
theorem lastN_succ {c : List Pr} {m : Nat} (h : m < c.length) : lastN c (m + 1) = (c[m]).1 := by
  unfold lastN
  rw [dif_pos ⟨by omega, by omega⟩]
  rfl
theorem last_lt {c : List Pr} (hs : Lab.Rise c) (hn : ∀ p ∈ c, Lab.isName p.1 = true) {m j : Nat} (hj : j < c.length) (hm : m ≤ c.length) : Lab.lt (lastN c m) (c[j]).1 = decide (m ≤ j) := by
  cases m with
  | zero => rw [lastN_zero, Lab.name_ne (hn _ (List.getElem_mem hj))]; simp
  | succ m =>
    rw [lastN_succ (by omega)]
    have hp := List.pairwise_iff_getElem.1 hs
    by_cases h : m + 1 ≤ j
    · rw [decide_eq_true h]; exact hp m j (by omega) hj (by omega)
    · rw [decide_eq_false h]
      by_cases e : m = j
      · subst e; exact Lab.lt_irrefl _
      · exact Lab.lt_asymm (hp j m hj (by omega) (by omega))
/-- The first of those behind the last one is the next. -/
theorem next_is {l c : List Pr} (hper : c.Perm l) (hs : Lab.Rise c) (hn : ∀ p ∈ c, Lab.isName p.1 = true) {m : Nat} (hm : m < c.length) {p : Pr} (hp : p ∈ l) (h1 : Lab.lt (lastN c m) p.1 = true) (h2 : ∀ q ∈ l, Lab.lt (lastN c m) q.1 = true → Lab.lt q.1 p.1 = false) : p = c[m] := by
  obtain ⟨j, hj, rfl⟩ := List.mem_iff_getElem.1 (hper.mem_iff.2 hp)
  rw [last_lt hs hn hj (by omega)] at h1
  have hmj : m ≤ j := of_decide_eq_true h1
  have h3 := h2 c[m] (hper.mem_iff.1 (List.getElem_mem hm)) (by rw [last_lt hs hn hm (by omega)]; exact decide_eq_true (Nat.le_refl _))
  by_cases e : m = j
  · subst e; rfl
  · have := List.pairwise_iff_getElem.1 hs m j hm hj (by omega)
    rw [h3] at this; cases this
theorem gtr_iff (a b : ByteArray) : (!Op.bytesLess a.toList b.toList && !(a.toList == b.toList)) = Lab.lt b a := by
  have := Lab.leq_iff a b
  cases h : Lab.lt b a <;> rw [h] at this <;> cases h1 : Op.bytesLess a.toList b.toList <;> cases h2 : (a.toList == b.toList) <;> simp_all

theorem own_later {w w' : World} {B n : Nat} {v : Value} {xs : List Value} (h : w.ownsRow B 53 2 v n xs) (hb : Below w.heap.size w w') : w'.ownsRow B 53 2 v n xs := by
  refine ⟨h.1, ?_⟩
  rcases h.2 with h0 | ⟨g, cap, cur, hv, hB, hg, hnc, hcm, hcs, htake⟩
  · exact .inl h0
  · exact .inr ⟨g, cap, cur, hv, hB, (hb.block g (Array.getElem?_eq_some_iff.1 hg).1).trans hg, hnc, hcm, hcs, htake⟩

/-- The best among the first j: none yet, or the one at k. -/
def Best (l : List Pr) (la : ByteArray) (j : Nat) (k : Int) : Prop :=
  (k = -1 ∧ ∀ p ∈ l.take j, Lab.lt la p.1 = false) ∨ ∃ (i : Nat) (h : i < l.length), i < j ∧ k = (i : Int) ∧ Lab.lt la (l[i]).1 = true ∧ ∀ p ∈ l.take j, Lab.lt la p.1 = true → Lab.lt p.1 (l[i]).1 = false
theorem best_start (l : List Pr) (la : ByteArray) : Best l la 0 (-1) := .inl ⟨rfl, fun p hp => by simp at hp⟩
theorem mem_next {l : List Pr} {j : Nat} (hj : j < l.length) {p : Pr} (hp : p ∈ l.take (j + 1)) : p ∈ l.take j ∨ p = l[j] := by
  rw [List.take_succ_eq_append_getElem hj] at hp
  rcases List.mem_append.1 hp with h | h
  · exact .inl h
  · exact .inr (List.mem_singleton.1 h)
theorem best_no {l : List Pr} {la : ByteArray} {j : Nat} {k : Int} (h : Best l la j k) (hj : j < l.length) (hl : Lab.lt la (l[j]).1 = false) : Best l la (j + 1) k := by
  rcases h with ⟨rfl, h⟩ | ⟨i, hi, hij, rfl, h1, h2⟩
  · refine .inl ⟨rfl, fun p hp => ?_⟩
    rcases mem_next hj hp with h3 | rfl
    · exact h p h3
    · exact hl
  · refine .inr ⟨i, hi, by omega, rfl, h1, fun p hp hpl => ?_⟩
    rcases mem_next hj hp with h3 | rfl
    · exact h2 p h3 hpl
    · rw [hl] at hpl; cases hpl
theorem best_first {l : List Pr} {la : ByteArray} {j : Nat} (h : ∀ p ∈ l.take j, Lab.lt la p.1 = false) (hj : j < l.length) (hl : Lab.lt la (l[j]).1 = true) : Best l la (j + 1) (j : Int) := by
  refine .inr ⟨j, hj, by omega, rfl, hl, fun p hp hpl => ?_⟩
  rcases mem_next hj hp with h3 | rfl
  · rw [h p h3] at hpl; cases hpl
  · exact Lab.lt_irrefl _
theorem best_less {l : List Pr} {la : ByteArray} {j i : Nat} (hi : i < l.length) (h2 : ∀ p ∈ l.take j, Lab.lt la p.1 = true → Lab.lt p.1 (l[i]).1 = false) (hj : j < l.length) (hl : Lab.lt la (l[j]).1 = true) (hb : Lab.lt (l[j]).1 (l[i]).1 = true) : Best l la (j + 1) (j : Int) := by
  refine .inr ⟨j, hj, by omega, rfl, hl, fun p hp hpl => ?_⟩
  rcases mem_next hj hp with h3 | rfl
  · exact Lab.not_lt_trans (Lab.lt_asymm hb) (h2 p h3 hpl)
  · exact Lab.lt_irrefl _
theorem best_keep {l : List Pr} {la : ByteArray} {j i : Nat} (hi : i < l.length) (hij : i < j) (h1 : Lab.lt la (l[i]).1 = true) (h2 : ∀ p ∈ l.take j, Lab.lt la p.1 = true → Lab.lt p.1 (l[i]).1 = false) (hj : j < l.length) (hb : Lab.lt (l[j]).1 (l[i]).1 = false) : Best l la (j + 1) (i : Int) := by
  refine .inr ⟨i, hi, by omega, rfl, h1, fun p hp hpl => ?_⟩
  rcases mem_next hj hp with h3 | rfl
  · exact h2 p h3 hpl
  · exact hb
theorem best_end {l c : List Pr} (hper : c.Perm l) (hs : Lab.Rise c) (hn : ∀ p ∈ c, Lab.isName p.1 = true) {m j : Nat} {k : Int} (hm : m < c.length) (hj : ¬ j < l.length) (h : Best l (lastN c m) j k) : ∃ (i : Nat) (hi : i < l.length), k = (i : Int) ∧ l[i] = c[m] := by
  have hful : l.take j = l := List.take_of_length_le (by omega)
  rcases h with ⟨_, h⟩ | ⟨i, hi, _, rfl, h1, h2⟩
  · exfalso
    have h3 := h c[m] (by rw [hful]; exact hper.mem_iff.1 (List.getElem_mem hm))
    rw [last_lt hs hn hm (by omega), decide_eq_true (Nat.le_refl _)] at h3
    cases h3
  · exact ⟨i, hi, rfl, next_is hper hs hn hm (List.getElem_mem hi) h1 (fun q hq hql => h2 q (by rw [hful]; exact hq) hql)⟩

set_option maxRecDepth 100000 in
set_option maxHeartbeats 800000 in
theorem refCanon_bad (a : Option Addr) (cap : Nat) (l : List Pr) (w : World) (hp : PairsAt w a l) (hl : l.length ≤ 9223372036854775807) (hs : ∀ p ∈ l, p.1.size ≤ 9223372036854775807 ∧ p.2.size ≤ 9223372036854775807) (h0 : Lab.check l ≠ 0) :
    Calls Try.prog 27 #[.slice a l.length cap] w fun e w' => e = .returned (.tuple #[.slice none 0 0, .int .i64 (Lab.check l : Int)]) ∧ Below w.heap.size w w' := by
  have hne : ((Lab.check l : Int) == 0) = false := beq_eq_false_iff_ne.2 (by omega)
  have HC := hide (refCheck_any a cap l w hp hl hs)
  clear hp hs
  go_enter Try.func27, Try.ntmps27
  go_wp2_with fail
  refine HC.out.mono ?_
  rintro e w1 ⟨rfl, hb1⟩
  go_wp2
  go_ret2
  exact ⟨rfl, hb1⟩

set_option maxRecDepth 100000 in
set_option maxHeartbeats 3200000 in
theorem refCanon_good (a : Option Addr) (cap : Nat) (l : List Pr) (w : World) (hp : PairsAt w a l) (hr : Lab.Right l) :
    Calls Try.prog 27 #[.slice a l.length cap] w fun e w' => ∃ v, e = .returned (.tuple #[v, .int .i64 0]) ∧ OwnP w' w.heap.size v (Lab.canon l) ∧ Below w.heap.size w w' := by
  obtain ⟨i0, hi, hz0, hz1, hz2⟩ := info_parts info_pair
  have h8 := hr.1
  have HC := hide (refCheck_any a cap l w hp (by omega) (fun p h => by have := Lab.right_small hr p h; omega))
  rw [Lab.check_zero.2 hr] at HC
  obtain ⟨c, hc⟩ : ∃ c, c = Lab.canon l := ⟨_, rfl⟩
  have hcl : c.length = l.length := by rw [hc, Lab.canon_length]
  have hSc : Lab.Rise c := by rw [hc]; exact Lab.canon_rise hr
  have hPc : c.Perm l := by rw [hc]; exact Lab.canon_perm l
  have hNc : ∀ p ∈ c, Lab.isName p.1 = true := fun p hp => (hr.2.1 p (hPc.mem_iff.1 hp)).1
  rw [← hc]
  have HCL := hide hcl
  have HSC := hide hSc
  have HPC := hide hPc
  have HNC := hide hNc
  have HP := hide hp
  clear hp hr hc hcl hSc hPc hNc
  go_enter Try.func27, Try.ntmps27
  go_wp2_with fail
  refine HC.out.mono ?_
  rintro e w1 ⟨rfl, hb1⟩
  have hsz1 := hb1.size
  go_wp2
  go_loopw [5, 6] (fun v last wr => ∃ m : Nat, m ≤ l.length ∧ OwnP wr w.heap.size v (c.take m) ∧ last = .string (lastN c m) ∧ Below w.heap.size w wr)
    (fun v _ _ => l.length - lenOf v)
  case atStart => exact ⟨0, Nat.zero_le _, OwnP.nil _ _, by rw [lastN_zero], hb1⟩
  case round =>
    obtain ⟨m, hm, hown, rfl, hnx⟩ := hrel
    obtain ⟨oa, ocap, rfl, hocap, hop, _⟩ := hown.view
    have hol : (c.take m).length = m := by simp [HCL.out]; omega
    have hsz := hnx.size
    unfold OwnP at hown
    rw [hol] at hown ⊢
    have HOL := hide hol
    clear hol hop hocap
    by_cases hlt : m < l.length
    · have hmc : m < c.length := by have := HCL.out; omega
      generalize hla : lastN c m = la at *
      have HLA := hide hla
      have HOW := hide hown
      clear hla hown
      go_wp2
      go_loopw [7, 8] (fun kv i wi => ∃ (j : Nat) (k : Int), j ≤ l.length ∧ i = .int .i64 (j : Int) ∧ kv = .int .i64 k ∧ Best l la j k ∧ Below wr.heap.size wr wi)
        (fun _ i _ => l.length - (intOf i).toNat)
      case atStart => exact ⟨0, -1, Nat.zero_le _, rfl, rfl, best_start _ _, Below.refl _ _⟩
      case round =>
        obtain ⟨j, k, hj, rfl, rfl, hbest, hni⟩ := hrel
        have hbx := bl hnx hni
        by_cases hjl : j < l.length
        · obtain ⟨b, off, zn, zv, rfl, hbl, hz, hc1, hc2⟩ := HP.out.get hbx hjl
          have hji : (j : Int) < (l.length : Int) := by omega
          have hgt := gtr_iff zn la
          cases hlow : Lab.lt la zn with
          | false =>
            rw [hlow] at hgt
            have HB := hide (best_no hbest hjl (by rw [hz]; exact hlow))
            clear hz hbest
            go_wp2_with fail
            go_quiet (fail)
            go_wp2
            go_roundw
            case rel => exact ⟨j + 1, _, by omega, by go_num, rfl, HB.out, drewN_below hni nq⟩
            case measure => simp [intOf]; omega
          | true =>
            rw [hlow] at hgt
            rcases hbest with ⟨rfl, hnone⟩ | ⟨i, hil, hij, rfl, hb1, hb2⟩
            · have HB := hide (best_first hnone hjl (by rw [hz]; exact hlow))
              clear hz hnone
              go_wp2_with fail
              go_quiet (fail)
              go_wp2
              go_roundw
              case rel => exact ⟨j + 1, _, by omega, by go_num, rfl, HB.out, drewN_below hni nq⟩
              case measure => simp [intOf]; omega
            · obtain ⟨b2, off2, yn, yv, hbe, hbl2, hy, hd1, hd2⟩ := HP.out.get hbx hil
              simp only [Option.some.injEq, Addr.mk.injEq, and_true] at hbe
              obtain ⟨rfl, rfl⟩ := hbe
              have hii : (i : Int) < (l.length : Int) := by omega
              cases hless : Lab.lt zn yn with
              | true =>
                have HB := hide (best_less hil hb2 hjl (by rw [hz]; exact hlow) (by rw [hz, hy]; exact hless))
                have hbl3 : Op.bytesLess zn.toList yn.toList = true := hless
                clear hz hy hb1 hb2
                go_wp2_with fail
                go_quiet (fail)
                go_wp2
                go_roundw
                case rel => exact ⟨j + 1, _, by omega, by go_num, rfl, HB.out, drewN_below hni nq⟩
                case measure => simp [intOf]; omega
              | false =>
                have HB := hide (best_keep hil hij hb1 hb2 hjl (by rw [hz, hy]; exact hless))
                have hbl3 : Op.bytesLess zn.toList yn.toList = false := hless
                clear hz hy hb1 hb2
                go_wp2_with fail
                go_quiet (fail)
                go_wp2
                go_roundw
                case rel => exact ⟨j + 1, _, by omega, by go_num, rfl, HB.out, drewN_below hni nq⟩
                case measure => simp [intOf]; omega
        · rw [← HLA.out] at hbest
          obtain ⟨i, hil, rfl, hic⟩ := best_end HPC.out HSC.out HNC.out hmc hjl hbest
          obtain ⟨b, off, zn, zv, rfl, hbl, hz, hc1, hc2⟩ := HP.out.get hbx hil
          have HNX : Hid (c.take (m + 1) = c.take m ++ [(zn, zv)]) := by
            rw [List.take_succ_eq_append_getElem hmc, ← hic, hz]; exact rfl
          have HLN : Hid (lastN c (m + 1) = zn) := by rw [lastN_succ hmc, ← hic, hz]; exact rfl
          have hii : (i : Int) < (l.length : Int) := by omega
          have hown := own_later HOW.out hni
          have hszz := hbx.size
          clear hz hic hbest
          go_wp2_with (at_builtin; refine wpList_append_own _ rfl _ _ 22 rfl w.heap.size 53 i0 _ 2 32 Try.underlying22 hi hz0 hz1 hz2 rfl (by decide) _ _ _ rfl (hown.alloc _) ⟨wr.heap.size, 0, none⟩ 1 1 [.string zn, .string zv] rfl rfl ?c1 ?c2 ?c3 ?c4 ?c5 ?_)
          case c1 => exact cells_two_new _ _ _ _
          case c2 => intro u hu; simp at hu; rcases hu with rfl | rfl <;> rfl
          case c3 => unfold maxLen; omega
          case c4 => omega
          case c5 => simp; omega
          intro v' w5 hown' hgrow _
          have R := own_step2 HOL.out.symm hszz (hown.alloc _) hbx hown' hgrow
          rw [← HNX.out] at R
          have hc5 := (R.2.cell (p := ⟨b, off + i * 2, none⟩) hbl).trans ((hbx.cell (p := ⟨b, off + i * 2, none⟩) hbl).symm.trans hc1)
          clear hown hown' hgrow hc1 hc2
          go_wp2
          go_roundw
          case rel => exact ⟨m + 1, by omega, R.1, by rw [HLN.out], R.2⟩
          case measure =>
            obtain ⟨oa3, ocap3, hv3, _, _, _⟩ := R.1.view
            have hl3 : (c.take (m + 1)).length = m + 1 := by simp [HCL.out]; omega
            rw [hv3, hl3]
            simp [lenOf]; omega
    · have hful : c.take m = c := List.take_of_length_le (by have := HCL.out; omega)
      have HOW : Hid (OwnP wr w.heap.size (.slice oa m ocap) c) := by
        have h := hown
        rw [hful] at h
        unfold OwnP
        have : c.length = m := by have := HCL.out; omega
        rw [this]; exact h
      clear hful hown
      go_wp2
      go_ret2
      exact ⟨_, rfl, HOW.out, hnx⟩

end Go.Proofs.Ytbjcphefaciihaa
