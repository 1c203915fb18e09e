/-
  The document's own ledger in memory, as walks read it: Same, Count, Low, Above.
-/
import Derived.Test.YtjbdofjheeljkaaLdgPendW
import Derived.Test.YtjbdofjheeljkaaPlain
import Derived.Test.YtjbdofjheeljkaaGrowK
namespace Go.Proofs.Ytjbdofjheeljkaa
open Go.RowKit
open Ldg (De Le Rd Rl)

def bV (l : List Nat) : List Value := l.map (fun x : Nat => Value.int .u8 (x : Int))
/-- Bytes behind an address, in a block of X. -/
def B8In (X : Nat → Prop) (w : World) (a : Option Addr) (l : List Nat) : Prop :=
  ∀ i, i < l.length → ∃ b off, a = some ⟨b, off, none⟩ ∧ b < w.heap.size ∧ X b ∧ ∀ j (h : j < l.length), w.cell? ⟨b, off + j, none⟩ = some (.int .u8 (l[j] : Int))
def BlIn (X : Nat → Prop) (w : World) (v : Value) (l : List Nat) : Prop := ∃ a c, v = .slice a l.length c ∧ l.length ≤ c ∧ (a = none → c = 0) ∧ B8In X w a l
theorem B8In.keep {X : Nat → Prop} {w w' : World} {a : Option Addr} {l : List Nat} (h : B8In X w a l) (hs : w.heap.size ≤ w'.heap.size) (hk : ∀ b, b < w.heap.size → X b → w'.heap[b]? = w.heap[b]?) : B8In X w' a l := by
  intro i hi
  obtain ⟨b, off, ha, hb, hx, hc⟩ := h i hi
  exact ⟨b, off, ha, by omega, hx, fun j hj => (World.cell?_of_block (w := w) (hk b hb hx)).trans (hc j hj)⟩
theorem BlIn.keep {X : Nat → Prop} {w w' : World} {v : Value} {l : List Nat} (h : BlIn X w v l) (hs : w.heap.size ≤ w'.heap.size) (hk : ∀ b, b < w.heap.size → X b → w'.heap[b]? = w.heap[b]?) : BlIn X w' v l := by
  obtain ⟨a, c, e, h1, h2, h3⟩ := h
  exact ⟨a, c, e, h1, h2, h3.keep hs hk⟩
theorem BlIn.below {X : Nat → Prop} {w w' : World} {v : Value} {l : List Nat} (h : BlIn X w v l) (hb : Below w.heap.size w w') : BlIn X w' v l := h.keep hb.size (fun b hl _ => hb.block b hl)
theorem BlIn.mono {X Y : Nat → Prop} {w : World} {v : Value} {l : List Nat} (h : BlIn X w v l) (k : ∀ b, b < w.heap.size → X b → Y b) : BlIn Y w v l := by
  obtain ⟨a, c, e, h1, h2, h3⟩ := h
  exact ⟨a, c, e, h1, h2, fun i hi => by obtain ⟨b, off, ha, hb, hx, hc⟩ := h3 i hi; exact ⟨b, off, ha, hb, k b hb hx, hc⟩⟩
theorem BlIn.nil (X : Nat → Prop) (w : World) : BlIn X w (.slice none 0 0) [] := ⟨none, 0, rfl, Nat.le_refl _, fun _ => rfl, fun i hi => by simp at hi⟩
theorem B8In.get {X : Nat → Prop} {w wr : World} {a : Option Addr} {l : List Nat} (h : B8In X w a l) (hnx : Below w.heap.size w wr) {k : Nat} (hk : k < l.length) :
    ∃ b off x, a = some ⟨b, off, none⟩ ∧ b < w.heap.size ∧ l[k] = x ∧ wr.cell? ⟨b, off + k, none⟩ = some (.int .u8 (x : Int)) := by
  obtain ⟨b, off, ha, hb, _, hc⟩ := h k hk
  exact ⟨b, off, _, ha, hb, rfl, (hnx.cell (by exact hb)).trans (hc k hk)⟩
theorem B8In.cells {X : Nat → Prop} {w : World} {x : Addr} {l : List Nat} (h : B8In X w (some x) l) : ∀ j u, (bV l)[j]? = some u → w.cell? (x.add j) = some u := by
  intro j u hj
  have hl : j < l.length := by
    have := (List.getElem?_eq_some_iff.1 hj).1
    simpa [bV] using this
  obtain ⟨b, off, ha, _, _, hc⟩ := h j hl
  cases ha
  rw [Addr.add_lit, hc j hl]
  simp only [bV, List.getElem?_map, List.getElem?_eq_getElem hl, Option.map_some, Option.some.injEq] at hj
  rw [hj]
theorem same_no {a b : List Nat} {k : Nat} (ha : k < a.length) (hb : k < b.length) (h : a[k] ≠ b[k]) : decide (a = b) = false := decide_eq_false (fun e => h (by subst e; rfl))
theorem same_end {a b : List Nat} (hl : a.length = b.length) {k : Nat} (hk : ¬ k < a.length) (h : ∀ i (ha : i < a.length) (hb : i < b.length), i < k → a[i] = b[i]) : decide (a = b) = true := decide_eq_true (List.ext_getElem hl (fun i h1 h2 => h i h1 h2 (by omega)))
set_option maxRecDepth 100000 in
set_option maxHeartbeats 800000 in
theorem usame_any {X Y : Nat → Prop} {w : World} {a b : Option Addr} {ca cb : Nat} {l m : List Nat} (h : U64In X w a l) (k : U64In Y w b m) (hl : l.length ≤ 1000000000) (hm : m.length ≤ 1000000000) :
    Calls Try.prog 22 #[.slice a l.length ca, .slice b m.length cb] w fun e w' => e = .returned (.bool (decide (l = m))) ∧ Below w.heap.size w w' := by
  have H := hide h
  have K := hide k
  obtain ⟨n, hn⟩ : ∃ n, l.length = n := ⟨_, rfl⟩
  obtain ⟨n2, hn2⟩ : ∃ n, m.length = n := ⟨_, rfl⟩
  rw [hn] at hl ⊢
  rw [hn2] at hm ⊢
  have HN := hide hn
  have HN2 := hide hn2
  clear h k hn hn2
  by_cases he : n = n2
  · subst he
    go_enter Try.func22, Try.ntmps22
    go_wp2
    go_loopw [5] (fun i wr => ∃ k : Nat, k ≤ n ∧ i = .int .i64 (k : Int) ∧ (∀ i (ha : i < l.length) (hb : i < m.length), i < k → l[i] = m[i]) ∧ Below w.heap.size w wr) (fun i _ => n - (intOf i).toNat)
    case atStart => exact ⟨0, Nat.zero_le _, rfl, fun i _ _ h => by omega, Below.refl _ _⟩
    case round =>
      obtain ⟨k, hk, rfl, hs, hnx⟩ := hrel
      have HS := hide hs
      have HB := hide hnx
      clear hs hnx
      by_cases hlt : k < n
      · obtain ⟨ba, oa, x, rfl, hbl, hx, hc⟩ := H.out.get HB.out (k := k) (by have := HN.out; omega)
        obtain ⟨bb, ob, y, rfl, hbl2, hy, hc2⟩ := K.out.get HB.out (k := k) (by have := HN2.out; omega)
        have HX := hide hx
        have HY := hide hy
        clear hx hy
        have q1 : ∀ nq, (wr.drewN nq).cell? ⟨ba, oa + k, none⟩ = _ := fun _ => hc
        have q2 : ∀ nq, (wr.drewN nq).cell? ⟨bb, ob + k, none⟩ = _ := fun _ => hc2
        by_cases hxy : x = y
        · subst hxy
          go_wp2_with fail
          go_quiet (fail)
          obtain ⟨wd, hwd⟩ : ∃ W, wr.drewN nq = W := ⟨_, rfl⟩
          have HD := hide (show Below w.heap.size w wd by rw [← hwd]; exact ⟨HB.out.os, HB.out.tape, HB.out.output, HB.out.size, HB.out.block⟩)
          rw [hwd]
          clear hwd q1 q2
          go_wp2
          go_roundw
          case rel =>
            refine ⟨k + 1, by omega, by go_num, fun i ha hb hi => ?_, HD.out⟩
            rcases Nat.lt_or_ge i k with h | h
            · exact HS.out i ha hb h
            · have : i = k := by omega
              subst this
              exact HX.out.trans HY.out.symm
          case measure => simp [intOf]; omega
        · have hne : ((x : Int) != (y : Int)) = true := by simp; omega
          go_wp2_with fail
          go_quiet (fail)
          obtain ⟨wd, hwd⟩ : ∃ W, wr.drewN nq = W := ⟨_, rfl⟩
          have HD := hide (show Below w.heap.size w wd by rw [← hwd]; exact ⟨HB.out.os, HB.out.tape, HB.out.output, HB.out.size, HB.out.block⟩)
          rw [hwd]
          clear hwd q1 q2
          go_wp2
          go_ret
          exact ⟨lret_b (same_no (k := k) (by have := HN.out; omega) (by have := HN2.out; omega) (by rw [HX.out, HY.out]; exact hxy)).symm, HD.out⟩
      · go_wp2
        go_ret
        exact ⟨lret_b (same_end (by have := HN.out; have := HN2.out; omega) (k := k) (by have := HN.out; omega) HS.out).symm, HB.out⟩
  · have hne : ((n : Int) != (n2 : Int)) = true := by simp; omega
    go_enter Try.func22, Try.ntmps22
    go_wp2
    go_ret
    exact ⟨lret_b (decide_eq_false (fun e => he (by rw [← HN.out, ← HN2.out, e]))).symm, Below.refl _ _⟩

theorem count_next {l : List Nat} {k x q : Nat} (hk : k < l.length) (hx : l[k] = x) : (l.take (k + 1)).count q = (l.take k).count q + (if x = q then 1 else 0) := by
  rw [List.take_succ_eq_append_getElem hk, List.count_append, hx, List.count_singleton]
  simp
set_option maxRecDepth 100000 in
set_option maxHeartbeats 800000 in
theorem rcount_any {X : Nat → Prop} {w : World} (nm : ByteArray) (s q : Nat) {al : List Nat} {va : Option Addr} {vc : Nat} (h : BlIn X w (.slice va al.length vc) al) (hl : al.length ≤ 1000000000) :
    Calls Try.prog 77 #[.agg #[.string nm, .int .u64 (s : Int), .slice va al.length vc], .int .u8 (q : Int)] w fun e w' => e = .returned (.int .u64 (al.count q : Int)) ∧ Below w.heap.size w w' := by
  obtain ⟨a', c', e1, _, _, hu⟩ := h
  simp only [Value.slice.injEq] at e1
  obtain ⟨rfl, e2, rfl⟩ := e1
  clear e2
  have HU := hide hu
  obtain ⟨n, hn⟩ : ∃ n, al.length = n := ⟨_, rfl⟩
  rw [hn] at hl ⊢
  have HN := hide hn
  obtain ⟨wA, hwA⟩ : ∃ W, w.alloc (.cells #[.string nm, .int .u64 (s : Int), .slice va n vc] 99) = W := ⟨_, rfl⟩
  have hA0 : wA.heap[w.heap.size]? = some (.cells #[.string nm, .int .u64 (s : Int), .slice va n vc] 99 (0, 0)) := by
    rw [← hwA]; show (w.heap.push _)[w.heap.size]? = _; simp
  have hAb : Below w.heap.size w wA := by rw [← hwA]; exact (Below.refl _ _).alloc (Nat.le_refl _) _
  have a2 := lcell_of hA0 2 rfl
  have HAB := hide hAb
  clear hu hn hA0 hAb
  go_enter Try.func77, Try.ntmps77
  go_wp2_with fail
  clear hwA
  go_loopw [5, 6] (fun vc' vi wr => ∃ k : Nat, k ≤ n ∧ vi = .int .i64 (k : Int) ∧ vc' = .int .u64 ((al.take k).count q : Int) ∧ wr = wA) (fun _ vi _ => n - (intOf vi).toNat)
  case atStart => exact ⟨0, Nat.zero_le _, rfl, by simp, rfl⟩
  case round =>
    obtain ⟨k, hk, rfl, rfl, rfl⟩ := hrel
    obtain ⟨cn, hcn⟩ : ∃ x, (al.take k).count q = x := ⟨_, rfl⟩
    have hcl : cn ≤ k := by rw [← hcn]; have := List.count_le_length (a := q) (l := al.take k); rw [List.length_take] at this; omega
    rw [hcn]
    have HCN := hide hcn
    clear hcn
    by_cases hlt : k < n
    · obtain ⟨b, off, x, rfl, hbl, hx, hc⟩ := HU.out.get HAB.out (k := k) (by have := HN.out; omega)
      have hnx := count_next (q := q) (by have := HN.out; omega) hx
      rw [HCN.out] at hnx
      have HNX := hide hnx
      clear hx hnx
      by_cases hxq : x = q
      · subst hxq
        go_wp2_with fail
        go_roundw
        case rel => exact ⟨k + 1, by omega, by go_num, by rw [HNX.out, if_pos rfl]; simp, trivial⟩
        case measure => simp [intOf]; omega
      · have hne : ((x : Int) == (q : Int)) = false := beq_eq_false_iff_ne.2 (fun e => hxq (by omega))
        go_wp2_with fail
        go_roundw
        case rel => exact ⟨k + 1, by omega, by go_num, by rw [HNX.out, if_neg hxq]; simp, trivial⟩
        case measure => simp [intOf]; omega
    · have hkn : k = n := by omega
      have hfin : cn = al.count q := by rw [← HCN.out, List.take_of_length_le (by have := HN.out; omega)]
      subst hfin
      go_wp2_with fail
      go_ret
      exact ⟨rfl, HAB.out⟩
end Go.Proofs.Ytjbdofjheeljkaa
