/-
  slices.BinarySearch of numbers that rise.
-/
import Derived.Test.YtjbdofjheeljkaaLdgDW
namespace Go.Proofs.Ytjbdofjheeljkaa
open Go.RowKit
open Ldg (De Le Rd Rl)

/-- What the search has found out: all below i are less, all from j on are not. -/
theorem cnt_split : ∀ {l : List Nat} {t i : Nat}, i ≤ l.length → (∀ k (h : k < l.length), k < i → l[k] < t) → (∀ k (h : k < l.length), i ≤ k → t ≤ l[k]) → Ldg.cnt t l = i := by
  intro l t i hi h1 h2
  have e : l = l.take i ++ l.drop i := (List.take_append_drop i l).symm
  have hl : (l.take i).length = i := by simp; omega
  rw [e, Ldg.cnt_app, Ldg.cnt_all (a := l.take i), Ldg.cnt_none (a := l.drop i), hl]
  · rfl
  · intro x hx
    obtain ⟨k, hk, rfl⟩ := List.mem_iff_getElem.1 hx
    rw [List.getElem_drop]
    exact h2 (i + k) (by simp at hk; omega) (by omega)
  · intro x hx
    obtain ⟨k, hk, rfl⟩ := List.mem_iff_getElem.1 hx
    have hk2 : k < i ∧ k < l.length := by simp at hk; omega
    rw [List.getElem_take]
    exact h1 k hk2.2 hk2.1
theorem rise_at {l : List Nat} (hr : l.Pairwise (· < ·)) {a b : Nat} (ha : a < l.length) (hb : b < l.length) (h : a < b) : l[a] < l[b] := List.pairwise_iff_getElem.1 hr a b ha hb h
theorem found_at {l : List Nat} {t i : Nat} (hi : i ≤ l.length) (h1 : ∀ k (h : k < l.length), k < i → l[k] < t) (h2 : ∀ k (h : k < l.length), i ≤ k → t ≤ l[k]) (hr : l.Pairwise (· < ·)) : l.contains t = (decide (i < l.length) && decide (∃ h : i < l.length, l[i] = t)) := by
  rw [Bool.eq_iff_iff]
  simp only [List.contains_iff_mem, Bool.and_eq_true, decide_eq_true_eq]
  constructor
  · intro hm
    obtain ⟨k, hk, e⟩ := List.mem_iff_getElem.1 hm
    have hik : i ≤ k := by
      rcases Nat.lt_or_ge k i with h | h
      · have := h1 k hk h; omega
      · exact h
    have hil : i < l.length := by omega
    refine ⟨hil, hil, ?_⟩
    rcases Nat.lt_or_ge i k with h | h
    · have a1 := rise_at hr hil hk h
      have a2 := h2 i hil (Nat.le_refl _)
      omega
    · have : k = i := by omega
      subst this; exact e
  · rintro ⟨_, hil, e⟩
    exact List.mem_iff_getElem.2 ⟨i, hil, e⟩
theorem lret_ib {a b : Int} {x y : Bool} (h : a = b) (k : x = y) : Ending.returned (.tuple #[.int .i64 a, .bool x]) = Ending.returned (.tuple #[.int .i64 b, .bool y]) := by rw [h, k]
set_option maxRecDepth 100000 in
set_option maxHeartbeats 800000 in
theorem bs_any {X : Nat → Prop} {w : World} {a : Option Addr} {c : Nat} {l : List Nat} (h : U64In X w a l) (hl : l.length ≤ 1000000000) (hr : l.Pairwise (· < ·)) (t : Nat) :
    Calls Try.prog 80 #[.slice a l.length c, .int .u64 (t : Int)] w fun e w' => e = .returned (.tuple #[.int .i64 (Ldg.cnt t l : Int), .bool (l.contains t)]) ∧ Below w.heap.size w w' := by
  have HH := hide h
  have HR := hide hr
  obtain ⟨n, hn⟩ : ∃ n, l.length = n := ⟨_, rfl⟩
  rw [hn] at hl ⊢
  have HN := hide hn
  clear h hr hn
  go_enter Try.func80, Try.ntmps80
  go_wp2
  go_loopw [7, 8] (fun vi vj wr => ∃ i j : Nat, i ≤ j ∧ j ≤ n ∧ vi = .int .i64 (i : Int) ∧ vj = .int .i64 (j : Int) ∧ (∀ k (h : k < l.length), k < i → l[k] < t) ∧ (∀ k (h : k < l.length), j ≤ k → t ≤ l[k]) ∧ Below w.heap.size w wr)
    (fun vi vj _ => (intOf vj).toNat - (intOf vi).toNat)
  case atStart => exact ⟨0, n, Nat.zero_le _, Nat.le_refl _, rfl, rfl, fun k h h0 => by omega, fun k h h0 => by have := HN.out; omega, Below.refl _ _⟩
  case round =>
    obtain ⟨i, j, hij, hj, rfl, rfl, h1, h2, hnx⟩ := hrel
    have H1 := hide h1
    have H2 := hide h2
    have HB := hide hnx
    clear h1 h2 hnx
    by_cases hlt : i < j
    · obtain ⟨m, hm⟩ : ∃ m, (i + j) / 2 = m := ⟨_, rfl⟩
      obtain ⟨b, off, x, rfl, hbl, hx, hc⟩ := HH.out.get HB.out (k := m) (by have := HN.out; omega)
      have hmi : i ≤ m ∧ m < j := by omega
      have hi3 : l[m]'(by have := HN.out; omega) = x := hx
      clear hx
      have HX := hide hi3
      clear hi3
      by_cases hxt : x < t
      · go_wp2
        refine ⟨⟨m + 1, j, by omega, hj, by congr 1; omega, rfl, fun k hk hkm => ?_, H2.out, HB.out⟩, by simp only [intOf]; omega⟩
        rcases Nat.lt_or_ge k m with h | h
        · have := rise_at HR.out hk (by have := HN.out; omega) h
          have := HX.out
          omega
        · have : k = m := by omega
          subst this
          rw [HX.out]; exact hxt
      · go_wp2
        refine ⟨⟨i, m, by omega, by omega, rfl, by congr 1; omega, H1.out, fun k hk hkm => ?_, HB.out⟩, by simp only [intOf]; omega⟩
        rcases Nat.lt_or_ge m k with h | h
        · have := rise_at HR.out (by have := HN.out; omega) hk h
          have := HX.out
          omega
        · have : k = m := by omega
          subst this
          rw [HX.out]; omega
    · have hij' : i = j := by omega
      subst hij'
      have hcn : Ldg.cnt t l = i := cnt_split (by have := HN.out; omega) H1.out H2.out
      have hfo := found_at (by have := HN.out; omega) H1.out H2.out HR.out
      have HC := hide hcn
      have HF := hide hfo
      clear hcn hfo
      by_cases hin : i < n
      · obtain ⟨b, off, x, rfl, hbl, hx, hc⟩ := HH.out.get HB.out (k := i) (by have := HN.out; omega)
        have HX := hide hx
        clear hx
        by_cases hxt : x = t
        · subst hxt
          go_wp2
          go_ret2
          refine ⟨lret_ib (a := (i : Int)) (x := true) (by rw [HC.out]) ?_, HB.out⟩
          rw [HF.out]
          have h1 := HN.out
          have h2 := HX.out
          have h3 : i < l.length := by omega
          simp [h3, h2]
        · have hxt' : ((x : Int) == (t : Int)) = false := beq_eq_false_iff_ne.2 (fun e => hxt (by omega))
          go_wp2
          go_ret2
          refine ⟨lret_ib (a := (i : Int)) (x := false) (by rw [HC.out]) ?_, HB.out⟩
          rw [HF.out]
          have h1 := HN.out
          have h2 := HX.out
          have h3 : i < l.length := by omega
          simp [h3, h2, hxt]
      · go_wp2
        go_ret2
        refine ⟨lret_ib (a := (i : Int)) (x := false) (by rw [HC.out]) ?_, HB.out⟩
        rw [HF.out]
        have h1 := HN.out
        have h3 : ¬ i < l.length := by omega
        simp [h3]
end Go.Proofs.Ytjbdofjheeljkaa
