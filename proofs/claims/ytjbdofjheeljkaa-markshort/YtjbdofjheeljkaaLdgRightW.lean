/-
  What is right of a destination.
-/
import Derived.Test.YtjbdofjheeljkaaLdgDW
import Derived.Test.YtjbdofjheeljkaaLdgNameW
namespace Go.Proofs.Ytjbdofjheeljkaa
open Go.RowKit
open Ldg (De Le Rd Rl)

theorem rises_no {l : List Nat} {lo next k x : Nat} (hk : k < l.length) (hx : l[k] = x) {cur : Nat} (h : Ldg.rises cur (l.drop k) next = Ldg.rises lo l next) (hn : x ≤ cur ∨ next ≤ x) : Ldg.rises lo l next = false := by
  rw [← h, List.drop_eq_getElem_cons hk, hx]
  unfold Ldg.rises
  rcases hn with hn | hn
  · simp [Nat.not_lt.2 hn]
  · simp [Nat.not_lt.2 hn]
theorem rises_go {l : List Nat} {lo next k x : Nat} (hk : k < l.length) (hx : l[k] = x) {cur : Nat} (h : Ldg.rises cur (l.drop k) next = Ldg.rises lo l next) (h1 : cur < x) (h2 : x < next) : Ldg.rises x (l.drop (k + 1)) next = Ldg.rises lo l next := by
  rw [← h, List.drop_eq_getElem_cons hk, hx]
  conv => rhs; unfold Ldg.rises
  simp [h1, h2]
theorem rises_end {l : List Nat} {lo next k cur : Nat} (hk : ¬ k < l.length) (h : Ldg.rises cur (l.drop k) next = Ldg.rises lo l next) : Ldg.rises lo l next = true := by
  rw [← h, List.drop_eq_nil_of_le (by omega)]; rfl
set_option maxRecDepth 100000 in
set_option maxHeartbeats 800000 in
theorem rise_any {X : Nat → Prop} {w : World} {a : Option Addr} {c : Nat} {l : List Nat} (h : U64In X w a l) (hl : l.length ≤ 1000000000) (lo next : Nat) :
    Calls Try.prog 78 #[.int .u64 (lo : Int), .slice a l.length c, .int .u64 (next : Int)] w fun e w' => e = .returned (.bool (Ldg.rises lo l next)) ∧ Below w.heap.size w w' := by
  have HH := hide h
  obtain ⟨n, hn⟩ : ∃ n, l.length = n := ⟨_, rfl⟩
  rw [hn] at hl ⊢
  have HN := hide hn
  clear h hn
  go_enter Try.func78, Try.ntmps78
  go_wp2
  go_loopw [0, 11] (fun vl i wr => ∃ k cur : Nat, k ≤ n ∧ vl = .int .u64 (cur : Int) ∧ i = .int .i64 (k : Int) ∧ Ldg.rises cur (l.drop k) next = Ldg.rises lo l next ∧ Below w.heap.size w wr)
    (fun _ i _ => n - (intOf i).toNat)
  case atStart => exact ⟨0, lo, Nat.zero_le _, rfl, rfl, rfl, Below.refl _ _⟩
  case round =>
    obtain ⟨k, cur, hk, rfl, rfl, h1, hnx⟩ := hrel
    have H1 := hide h1
    have HB := hide hnx
    clear h1 hnx
    by_cases hlt : k < n
    · obtain ⟨b, off, x, rfl, hbl, hx, hc⟩ := HH.out.get HB.out (k := k) (by have := HN.out; omega)
      have HX := hide hx
      clear hx
      by_cases g1 : x ≤ cur
      · go_wp2
        go_ret
        exact ⟨lret_b (rises_no (by have := HN.out; omega) HX.out H1.out (.inl g1)).symm, HB.out⟩
      · by_cases g2 : x < next
        · go_wp2
          go_roundw
          case rel => exact ⟨k + 1, x, by omega, rfl, by go_num, rises_go (by have := HN.out; omega) HX.out H1.out (by omega) g2, HB.out⟩
          case measure => simp [intOf]; omega
        · go_wp2
          go_ret
          exact ⟨lret_b (rises_no (by have := HN.out; omega) HX.out H1.out (.inr (by omega))).symm, HB.out⟩
    · go_wp2
      go_ret
      exact ⟨lret_b (rises_end (by have := HN.out; omega) H1.out).symm, HB.out⟩
set_option maxRecDepth 100000 in
set_option maxHeartbeats 1600000 in
theorem dright_any {X : Nat → Prop} {w : World} (nm : ByteArray) (s lo ak ev rj : Nat) {ab : List Nat} {va : Option Addr} {vc : Nat} (h : SlIn X w (.slice va ab.length vc) ab) (hs : De.Small ⟨nm, s, lo, ab, ak, ev, rj⟩) (first next : Nat) :
    Calls Try.prog 55 #[.agg #[.string nm, .int .u64 (s : Int), .int .u64 (lo : Int), .slice va ab.length vc, .int .u64 (ak : Int), .int .u64 (ev : Int), .int .u64 (rj : Int)], .int .u64 (first : Int), .int .u64 (next : Int)] w fun e w' =>
      e = .returned (.bool (De.right first next ⟨nm, s, lo, ab, ak, ev, rj⟩)) ∧ Below w.heap.size w w' := by
  obtain ⟨s1, s2, s3, s4, s5, s6, s7, s8⟩ := hs
  simp only at s1 s2 s3 s4 s5 s6 s7 s8
  have HS4 := hide s4
  have HH := hide h
  obtain ⟨R, hR⟩ : ∃ R, De.right first next ⟨nm, s, lo, ab, ak, ev, rj⟩ = R := ⟨_, rfl⟩
  rw [hR]
  unfold De.right at hR
  simp only at hR
  have HR := hide hR
  obtain ⟨an, han⟩ : ∃ n, ab.length = n := ⟨_, rfl⟩
  rw [han] at HH s3 ⊢
  have HN := hide han
  have HA := hide ((Below.refl w.heap.size w).alloc (Nat.le_refl _) (Obj.cells #[.string nm, .int .u64 (s : Int), .int .u64 (lo : Int), .slice va an vc, .int .u64 (ak : Int), .int .u64 (ev : Int), .int .u64 (rj : Int)] 41))
  clear han h hR s4
  have hnm := Ldg.name_any nm (w.alloc (.cells #[.string nm, .int .u64 (s : Int), .int .u64 (lo : Int), .slice va an vc, .int .u64 (ak : Int), .int .u64 (ev : Int), .int .u64 (rj : Int)] 41)) (by omega)
  obtain ⟨b, hb⟩ : ∃ b, Lab.isName nm = b := ⟨_, rfl⟩
  rw [hb] at hnm HR
  clear hb
  have HNM := hide hnm
  clear hnm
  cases b with
  | false =>
    have hR := HR.out
    rw [Bool.false_and] at hR
    subst hR
    clear HR
    go_enter Try.func55, Try.ntmps55
    go_wp2_with fail
    refine HNM.out.mono ?_
    rintro e w1 ⟨rfl, rfl⟩
    go_wp2_with fail
    go_ret
    exact ⟨rfl, HA.out⟩
  | true =>
    by_cases g1 : 1 ≤ s
    · by_cases g2 : s ≤ lo
      · by_cases g3 : lo ≤ next
        · have hR := HR.out
          rw [decide_eq_true g1, decide_eq_true g2, decide_eq_true g3] at hR
          simp only [Bool.true_and] at hR
          have HR2 := hide hR
          clear HR hR
          go_enter Try.func55, Try.ntmps55
          go_wp2_with fail
          refine HNM.out.mono ?_
          rintro e w1 ⟨rfl, rfl⟩
          go_wp2_with fail
          obtain ⟨wA, hwA⟩ : ∃ W, w.alloc (.cells #[.string nm, .int .u64 (s : Int), .int .u64 (lo : Int), .slice va an vc, .int .u64 (ak : Int), .int .u64 (ev : Int), .int .u64 (rj : Int)] 41) = W := ⟨_, rfl⟩
          have hA0 : wA.heap[w.heap.size]? = some (.cells #[.string nm, .int .u64 (s : Int), .int .u64 (lo : Int), .slice va an vc, .int .u64 (ak : Int), .int .u64 (ev : Int), .int .u64 (rj : Int)] 41 (0, 0)) := by
            rw [← hwA]; show (w.heap.push _)[w.heap.size]? = _; simp
          have hAs : w.heap.size < wA.heap.size := by rw [← hwA]; simp
          rw [hwA] at HA ⊢
          clear hwA HNM
          obtain ⟨a', c', e1, _, _, hu⟩ := HH.out.below HA.out
          simp only [Value.slice.injEq] at e1
          obtain ⟨rfl, e2, rfl⟩ := e1
          clear e2
          have hb := rise_any (c := vc) hu (by have := HN.out; omega) lo next
          rw [HN.out] at hb
          have HBB := hide hb
          clear hb hu
          have HA0 := hide hA0
          clear hA0
          refine HBB.out.mono ?_
          rintro e w1 ⟨rfl, hb1⟩
          have h0 := (hb1.block _ hAs).trans HA0.out
          have c0 := lcell_of h0 0 rfl
          have c1 := lcell_of h0 1 rfl
          have c2 := lcell_of h0 2 rfl
          have c3 := lcell_of h0 3 rfl
          have c4 := lcell_of h0 4 rfl
          have c5 := lcell_of h0 5 rfl
          have c6 := lcell_of h0 6 rfl
          have HB1 := hide (bl HA.out hb1)
          clear h0 hb1 HBB HA0
          obtain ⟨r, hr⟩ : ∃ r, Ldg.rises lo ab next = r := ⟨_, rfl⟩
          rw [hr] at HR2 ⊢
          clear hr
          cases r with
          | false =>
            have hR := HR2.out
            rw [Bool.false_and] at hR
            subst hR
            clear HR2
            go_wp2_with fail
            go_ret
            exact ⟨rfl, HB1.out⟩
          | true =>
            have hR := HR2.out
            rw [Bool.true_and] at hR
            by_cases g4 : first ≤ lo
            · rw [decide_eq_true g4, Bool.true_and, HN.out] at hR
              have HR3 := hide hR
              clear HR2 hR
              go_wp2_with fail
              go_ret
              refine ⟨lret_b ?_, HB1.out⟩
              rw [← HR3.out, Bool.eq_iff_iff, beq_iff_eq, decide_eq_true_eq]
              omega
            · rw [decide_eq_false g4, Bool.false_and] at hR
              subst hR
              clear HR2
              go_wp2_with fail
              go_ret
              exact ⟨rfl, HB1.out⟩
        · have hR := HR.out
          rw [decide_eq_true g1, decide_eq_true g2, decide_eq_false g3] at hR
          simp only [Bool.true_and, Bool.false_and] at hR
          subst hR
          clear HR
          go_enter Try.func55, Try.ntmps55
          go_wp2_with fail
          refine HNM.out.mono ?_
          rintro e w1 ⟨rfl, rfl⟩
          go_wp2_with fail
          go_ret
          exact ⟨rfl, HA.out⟩
      · have hR := HR.out
        rw [decide_eq_true g1, decide_eq_false g2] at hR
        simp only [Bool.true_and, Bool.false_and] at hR
        subst hR
        clear HR
        go_enter Try.func55, Try.ntmps55
        go_wp2_with fail
        refine HNM.out.mono ?_
        rintro e w1 ⟨rfl, rfl⟩
        go_wp2_with fail
        go_ret
        exact ⟨rfl, HA.out⟩
    · have hR := HR.out
      rw [decide_eq_false g1] at hR
      simp only [Bool.true_and, Bool.false_and] at hR
      subst hR
      clear HR
      go_enter Try.func55, Try.ntmps55
      go_wp2_with fail
      refine HNM.out.mono ?_
      rintro e w1 ⟨rfl, rfl⟩
      go_wp2_with fail
      go_ret
      exact ⟨rfl, HA.out⟩
end Go.Proofs.Ytjbdofjheeljkaa
