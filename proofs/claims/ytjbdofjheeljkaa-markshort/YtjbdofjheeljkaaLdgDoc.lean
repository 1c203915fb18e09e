/-
  Laid one behind the other: LdgRefW LdgRef2W LdgRef3W LdgRef4W LdgRef5W LdgRef6W LdgRowRW LdgRCopyW LdgRAddW LdgRJoinW LdgRDoneW LdgRLeaveW LdgREvictW.
-/
import Derived.Test.YtjbdofjheeljkaaLdgPendW
import Derived.Test.YtjbdofjheeljkaaPlain
import Derived.Test.YtjbdofjheeljkaaGrowK
import Derived.Test.YtjbdofjheeljkaaCalm
import Derived.Test.YtjbdofjheeljkaaLdgDW
import Derived.Test.YtjbdofjheeljkaaLdgJoinW
namespace Go.Proofs.Ytjbdofjheeljkaa
open Go.RowKit
open Ldg (De Le Rd Rl)

def bV (l : List Nat) : List Value := l.map (fun x : Nat => Value.int .u8 (x : Int))
/-- Bytes behind an address, in a block of X. -/
def B8In (X : Nat → Prop) (w : World) (a : Option Addr) (l : List Nat) : Prop :=
  ∀ i, i < l.length → ∃ b off, a = some ⟨b, off, none⟩ ∧ b < w.heap.size ∧ X b ∧ ∀ j (h : j < l.length), w.cell? ⟨b, off + j, none⟩ = some (.int .u8 (l[j] : Int))
def BlIn (X : Nat → Prop) (w : World) (v : Value) (l : List Nat) : Prop := ∃ a c, v = .slice a l.length c ∧ l.length ≤ c ∧ (a = none → c = 0) ∧ B8In X w a l
theorem B8In.keep {X : Nat → Prop} {w w' : World} {a : Option Addr} {l : List Nat} (h : B8In X w a l) (hs : w.heap.size ≤ w'.heap.size) (hk : ∀ b, b < w.heap.size → X b → w'.heap[b]? = w.heap[b]?) : B8In X w' a l := by
  intro i hi
  obtain ⟨b, off, ha, hb, hx, hc⟩ := h i hi
  exact ⟨b, off, ha, by omega, hx, fun j hj => (World.cell?_of_block (w := w) (hk b hb hx)).trans (hc j hj)⟩
theorem BlIn.keep {X : Nat → Prop} {w w' : World} {v : Value} {l : List Nat} (h : BlIn X w v l) (hs : w.heap.size ≤ w'.heap.size) (hk : ∀ b, b < w.heap.size → X b → w'.heap[b]? = w.heap[b]?) : BlIn X w' v l := by
  obtain ⟨a, c, e, h1, h2, h3⟩ := h
  exact ⟨a, c, e, h1, h2, h3.keep hs hk⟩
theorem BlIn.below {X : Nat → Prop} {w w' : World} {v : Value} {l : List Nat} (h : BlIn X w v l) (hb : Below w.heap.size w w') : BlIn X w' v l := h.keep hb.size (fun b hl _ => hb.block b hl)
theorem BlIn.mono {X Y : Nat → Prop} {w : World} {v : Value} {l : List Nat} (h : BlIn X w v l) (k : ∀ b, b < w.heap.size → X b → Y b) : BlIn Y w v l := by
  obtain ⟨a, c, e, h1, h2, h3⟩ := h
  exact ⟨a, c, e, h1, h2, fun i hi => by obtain ⟨b, off, ha, hb, hx, hc⟩ := h3 i hi; exact ⟨b, off, ha, hb, k b hb hx, hc⟩⟩
theorem BlIn.nil (X : Nat → Prop) (w : World) : BlIn X w (.slice none 0 0) [] := ⟨none, 0, rfl, Nat.le_refl _, fun _ => rfl, fun i hi => by simp at hi⟩
theorem B8In.get {X : Nat → Prop} {w wr : World} {a : Option Addr} {l : List Nat} (h : B8In X w a l) (hnx : Below w.heap.size w wr) {k : Nat} (hk : k < l.length) :
    ∃ b off x, a = some ⟨b, off, none⟩ ∧ b < w.heap.size ∧ l[k] = x ∧ wr.cell? ⟨b, off + k, none⟩ = some (.int .u8 (x : Int)) := by
  obtain ⟨b, off, ha, hb, _, hc⟩ := h k hk
  exact ⟨b, off, _, ha, hb, rfl, (hnx.cell (by exact hb)).trans (hc k hk)⟩
theorem B8In.cells {X : Nat → Prop} {w : World} {x : Addr} {l : List Nat} (h : B8In X w (some x) l) : ∀ j u, (bV l)[j]? = some u → w.cell? (x.add j) = some u := by
  intro j u hj
  have hl : j < l.length := by
    have := (List.getElem?_eq_some_iff.1 hj).1
    simpa [bV] using this
  obtain ⟨b, off, ha, _, _, hc⟩ := h j hl
  cases ha
  rw [Addr.add_lit, hc j hl]
  simp only [bV, List.getElem?_map, List.getElem?_eq_getElem hl, Option.map_some, Option.some.injEq] at hj
  rw [hj]
theorem same_no {a b : List Nat} {k : Nat} (ha : k < a.length) (hb : k < b.length) (h : a[k] ≠ b[k]) : decide (a = b) = false := decide_eq_false (fun e => h (by subst e; rfl))
theorem same_end {a b : List Nat} (hl : a.length = b.length) {k : Nat} (hk : ¬ k < a.length) (h : ∀ i (ha : i < a.length) (hb : i < b.length), i < k → a[i] = b[i]) : decide (a = b) = true := decide_eq_true (List.ext_getElem hl (fun i h1 h2 => h i h1 h2 (by omega)))
set_option maxRecDepth 100000 in
set_option maxHeartbeats 800000 in
theorem usame_any {X Y : Nat → Prop} {w : World} {a b : Option Addr} {ca cb : Nat} {l m : List Nat} (h : U64In X w a l) (k : U64In Y w b m) (hl : l.length ≤ 1000000000) (hm : m.length ≤ 1000000000) :
    Calls Try.prog 22 #[.slice a l.length ca, .slice b m.length cb] w fun e w' => e = .returned (.bool (decide (l = m))) ∧ Below w.heap.size w w' := by
  have H := hide h
  have K := hide k
  obtain ⟨n, hn⟩ : ∃ n, l.length = n := ⟨_, rfl⟩
  obtain ⟨n2, hn2⟩ : ∃ n, m.length = n := ⟨_, rfl⟩
  rw [hn] at hl ⊢
  rw [hn2] at hm ⊢
  have HN := hide hn
  have HN2 := hide hn2
  clear h k hn hn2
  by_cases he : n = n2
  · subst he
    go_enter Try.func22, Try.ntmps22
    go_wp2
    go_loopw [5] (fun i wr => ∃ k : Nat, k ≤ n ∧ i = .int .i64 (k : Int) ∧ (∀ i (ha : i < l.length) (hb : i < m.length), i < k → l[i] = m[i]) ∧ Below w.heap.size w wr) (fun i _ => n - (intOf i).toNat)
    case atStart => exact ⟨0, Nat.zero_le _, rfl, fun i _ _ h => by omega, Below.refl _ _⟩
    case round =>
      obtain ⟨k, hk, rfl, hs, hnx⟩ := hrel
      have HS := hide hs
      have HB := hide hnx
      clear hs hnx
      by_cases hlt : k < n
      · obtain ⟨ba, oa, x, rfl, hbl, hx, hc⟩ := H.out.get HB.out (k := k) (by have := HN.out; omega)
        obtain ⟨bb, ob, y, rfl, hbl2, hy, hc2⟩ := K.out.get HB.out (k := k) (by have := HN2.out; omega)
        have HX := hide hx
        have HY := hide hy
        clear hx hy
        have q1 : ∀ nq, (wr.drewN nq).cell? ⟨ba, oa + k, none⟩ = _ := fun _ => hc
        have q2 : ∀ nq, (wr.drewN nq).cell? ⟨bb, ob + k, none⟩ = _ := fun _ => hc2
        by_cases hxy : x = y
        · subst hxy
          go_wp2_with fail
          go_quiet (fail)
          obtain ⟨wd, hwd⟩ : ∃ W, wr.drewN nq = W := ⟨_, rfl⟩
          have HD := hide (show Below w.heap.size w wd by rw [← hwd]; exact ⟨HB.out.os, HB.out.tape, HB.out.output, HB.out.size, HB.out.block⟩)
          rw [hwd]
          clear hwd q1 q2
          go_wp2
          go_roundw
          case rel =>
            refine ⟨k + 1, by omega, by go_num, fun i ha hb hi => ?_, HD.out⟩
            rcases Nat.lt_or_ge i k with h | h
            · exact HS.out i ha hb h
            · have : i = k := by omega
              subst this
              exact HX.out.trans HY.out.symm
          case measure => simp [intOf]; omega
        · have hne : ((x : Int) != (y : Int)) = true := by simp; omega
          go_wp2_with fail
          go_quiet (fail)
          obtain ⟨wd, hwd⟩ : ∃ W, wr.drewN nq = W := ⟨_, rfl⟩
          have HD := hide (show Below w.heap.size w wd by rw [← hwd]; exact ⟨HB.out.os, HB.out.tape, HB.out.output, HB.out.size, HB.out.block⟩)
          rw [hwd]
          clear hwd q1 q2
          go_wp2
          go_ret
          exact ⟨lret_b (same_no (k := k) (by have := HN.out; omega) (by have := HN2.out; omega) (by rw [HX.out, HY.out]; exact hxy)).symm, HD.out⟩
      · go_wp2
        go_ret
        exact ⟨lret_b (same_end (by have := HN.out; have := HN2.out; omega) (k := k) (by have := HN.out; omega) HS.out).symm, HB.out⟩
  · have hne : ((n : Int) != (n2 : Int)) = true := by simp; omega
    go_enter Try.func22, Try.ntmps22
    go_wp2
    go_ret
    exact ⟨lret_b (decide_eq_false (fun e => he (by rw [← HN.out, ← HN2.out, e]))).symm, Below.refl _ _⟩

theorem count_next {l : List Nat} {k x q : Nat} (hk : k < l.length) (hx : l[k] = x) : (l.take (k + 1)).count q = (l.take k).count q + (if x = q then 1 else 0) := by
  rw [List.take_succ_eq_append_getElem hk, List.count_append, hx, List.count_singleton]
  simp
set_option maxRecDepth 100000 in
set_option maxHeartbeats 800000 in
theorem rcount_any {X : Nat → Prop} {w : World} (nm : ByteArray) (s q : Nat) {al : List Nat} {va : Option Addr} {vc : Nat} (h : BlIn X w (.slice va al.length vc) al) (hl : al.length ≤ 1000000000) :
    Calls Try.prog 77 #[.agg #[.string nm, .int .u64 (s : Int), .slice va al.length vc], .int .u8 (q : Int)] w fun e w' => e = .returned (.int .u64 (al.count q : Int)) ∧ Below w.heap.size w w' := by
  obtain ⟨a', c', e1, _, _, hu⟩ := h
  simp only [Value.slice.injEq] at e1
  obtain ⟨rfl, e2, rfl⟩ := e1
  clear e2
  have HU := hide hu
  obtain ⟨n, hn⟩ : ∃ n, al.length = n := ⟨_, rfl⟩
  rw [hn] at hl ⊢
  have HN := hide hn
  obtain ⟨wA, hwA⟩ : ∃ W, w.alloc (.cells #[.string nm, .int .u64 (s : Int), .slice va n vc] 99) = W := ⟨_, rfl⟩
  have hA0 : wA.heap[w.heap.size]? = some (.cells #[.string nm, .int .u64 (s : Int), .slice va n vc] 99 (0, 0)) := by
    rw [← hwA]; show (w.heap.push _)[w.heap.size]? = _; simp
  have hAb : Below w.heap.size w wA := by rw [← hwA]; exact (Below.refl _ _).alloc (Nat.le_refl _) _
  have a2 := lcell_of hA0 2 rfl
  have HAB := hide hAb
  clear hu hn hA0 hAb
  go_enter Try.func77, Try.ntmps77
  go_wp2_with fail
  clear hwA
  go_loopw [5, 6] (fun vc' vi wr => ∃ k : Nat, k ≤ n ∧ vi = .int .i64 (k : Int) ∧ vc' = .int .u64 ((al.take k).count q : Int) ∧ wr = wA) (fun _ vi _ => n - (intOf vi).toNat)
  case atStart => exact ⟨0, Nat.zero_le _, rfl, by simp, rfl⟩
  case round =>
    obtain ⟨k, hk, rfl, rfl, rfl⟩ := hrel
    obtain ⟨cn, hcn⟩ : ∃ x, (al.take k).count q = x := ⟨_, rfl⟩
    have hcl : cn ≤ k := by rw [← hcn]; have := List.count_le_length (a := q) (l := al.take k); rw [List.length_take] at this; omega
    rw [hcn]
    have HCN := hide hcn
    clear hcn
    by_cases hlt : k < n
    · obtain ⟨b, off, x, rfl, hbl, hx, hc⟩ := HU.out.get HAB.out (k := k) (by have := HN.out; omega)
      have hnx := count_next (q := q) (by have := HN.out; omega) hx
      rw [HCN.out] at hnx
      have HNX := hide hnx
      clear hx hnx
      by_cases hxq : x = q
      · subst hxq
        go_wp2_with fail
        go_roundw
        case rel => exact ⟨k + 1, by omega, by go_num, by rw [HNX.out, if_pos rfl]; simp, trivial⟩
        case measure => simp [intOf]; omega
      · have hne : ((x : Int) == (q : Int)) = false := beq_eq_false_iff_ne.2 (fun e => hxq (by omega))
        go_wp2_with fail
        go_roundw
        case rel => exact ⟨k + 1, by omega, by go_num, by rw [HNX.out, if_neg hxq]; simp, trivial⟩
        case measure => simp [intOf]; omega
    · have hkn : k = n := by omega
      have hfin : cn = al.count q := by rw [← HCN.out, List.take_of_length_le (by have := HN.out; omega)]
      subst hfin
      go_wp2_with fail
      go_ret
      exact ⟨rfl, HAB.out⟩
end Go.Proofs.Ytjbdofjheeljkaa
namespace Go.Proofs.Ytjbdofjheeljkaa
open Go.RowKit
open Ldg (De Le Rd Rl)

theorem lret_u {a b : Int} (h : a = b) : Ending.returned (.int .u64 a) = .returned (.int .u64 b) := by rw [h]
set_option maxRecDepth 100000 in
set_option maxHeartbeats 800000 in
theorem rlow_any {X : Nat → Prop} {w : World} (nm : ByteArray) (s : Nat) {al : List Nat} {va : Option Addr} {vc : Nat} (h : BlIn X w (.slice va al.length vc) al) (hl : al.length ≤ 1000000000) (hs : s ≤ 1000000000) :
    Calls Try.prog 75 #[.agg #[.string nm, .int .u64 (s : Int), .slice va al.length vc]] w fun e w' => e = .returned (.int .u64 (Ldg.lowR s al : Int)) ∧ Below w.heap.size w w' := by
  obtain ⟨a', c', e1, _, _, hu⟩ := h
  simp only [Value.slice.injEq] at e1
  obtain ⟨rfl, e2, rfl⟩ := e1
  clear e2
  have HU := hide hu
  obtain ⟨n, hn⟩ : ∃ n, al.length = n := ⟨_, rfl⟩
  rw [hn] at hl ⊢
  have HN := hide hn
  obtain ⟨wA, hwA⟩ : ∃ W, w.alloc (.cells #[.string nm, .int .u64 (s : Int), .slice va n vc] 99) = W := ⟨_, rfl⟩
  have hA0 : wA.heap[w.heap.size]? = some (.cells #[.string nm, .int .u64 (s : Int), .slice va n vc] 99 (0, 0)) := by
    rw [← hwA]; show (w.heap.push _)[w.heap.size]? = _; simp
  have hAb : Below w.heap.size w wA := by rw [← hwA]; exact (Below.refl _ _).alloc (Nat.le_refl _) _
  have a1 := lcell_of hA0 1 rfl
  have a2 := lcell_of hA0 2 rfl
  have HAB := hide hAb
  clear hu hn hA0 hAb
  go_enter Try.func75, Try.ntmps75
  go_wp2_with fail
  clear hwA
  go_loopw [3] (fun vi wr => ∃ k : Nat, k ≤ n ∧ vi = .int .i64 (k : Int) ∧ (∀ i (hi : i < al.length), i < k → al[i] ≠ 112) ∧ wr = wA) (fun vi _ => n - (intOf vi).toNat)
  case atStart => exact ⟨0, Nat.zero_le _, rfl, fun i _ h => by omega, rfl⟩
  case round =>
    obtain ⟨k, hk, rfl, hno, rfl⟩ := hrel
    have HNO := hide hno
    clear hno
    by_cases hlt : k < n
    · obtain ⟨b, off, x, rfl, hbl, hx, hc⟩ := HU.out.get HAB.out (k := k) (by have := HN.out; omega)
      have HX := hide hx
      clear hx
      by_cases hxq : x = 112
      · subst hxq
        go_wp2_with fail
        go_ret
        exact ⟨lret_u (by rw [Ldg.lowR_found (by have := HN.out; omega) HX.out HNO.out]; simp), HAB.out⟩
      · have hne : ((x : Int) == 112) = false := beq_eq_false_iff_ne.2 (by omega)
        go_wp2_with fail
        go_roundw
        case rel =>
          refine ⟨k + 1, by omega, by go_num, fun i hi hik => ?_, trivial⟩
          rcases Nat.lt_or_ge i k with h | h
          · exact HNO.out i hi h
          · have : i = k := by omega
            subst this
            rw [HX.out]; exact hxq
        case measure => simp [intOf]; omega
    · have hkn : k = n := by omega
      go_wp2_with fail
      go_ret
      exact ⟨lret_u (by rw [Ldg.lowR_end (fun i hi => HNO.out i hi (by have := HN.out; omega)), HN.out]; simp), HAB.out⟩
set_option maxRecDepth 100000 in
set_option maxHeartbeats 1600000 in
theorem rabove_any {X : Nat → Prop} {w : World} (nm : ByteArray) (s : Nat) {al : List Nat} {va : Option Addr} {vc : Nat} (h : BlIn X w (.slice va al.length vc) al) (hl : al.length ≤ 1000000000) (hs : s ≤ 1000000000) :
    Calls Try.prog 76 #[.agg #[.string nm, .int .u64 (s : Int), .slice va al.length vc]] w fun e w' => ∃ v', e = .returned v' ∧ OwnU w' w.heap.size v' (Rd.above ⟨nm, s, al⟩) ∧ Below w.heap.size w w' := by
  obtain ⟨i0, hi, hz0, hz1, hz2⟩ := info_parts u64_info
  have HL := hide h
  obtain ⟨a', c', e1, _, _, hu⟩ := h
  simp only [Value.slice.injEq] at e1
  obtain ⟨rfl, e2, rfl⟩ := e1
  clear e2
  have HU := hide hu
  have hlow := fun W (hW : Below w.heap.size w W) => rlow_any nm s (HL.out.below hW) hl hs
  obtain ⟨lw, hlw⟩ : ∃ x, Ldg.lowR s al = x := ⟨_, rfl⟩
  simp only [hlw] at hlow
  obtain ⟨n, hn⟩ : ∃ n, al.length = n := ⟨_, rfl⟩
  rw [hn] at hl hlow ⊢
  have HLOW := hide hlow
  have HN := hide hn
  have HLW := hide hlw
  obtain ⟨wA, hwA⟩ : ∃ W, w.alloc (.cells #[.string nm, .int .u64 (s : Int), .slice va n vc] 99) = W := ⟨_, rfl⟩
  have hA0 : wA.heap[w.heap.size]? = some (.cells #[.string nm, .int .u64 (s : Int), .slice va n vc] 99 (0, 0)) := by
    rw [← hwA]; show (w.heap.push _)[w.heap.size]? = _; simp
  have hAb : Below w.heap.size w wA := by rw [← hwA]; exact (Below.refl _ _).alloc (Nat.le_refl _) _
  have hAs : wA.heap.size = w.heap.size + 1 := by rw [← hwA]; simp
  have HAB := hide hAb
  have HA0 := hide hA0
  have HAS := hide hAs
  have a2 := lcell_of hA0 2 rfl
  clear hu hn hA0 hAb hlow hlw hAs
  go_enter Try.func76, Try.ntmps76
  go_wp2_with fail
  clear hwA a2
  go_loopw [3, 4] (fun vo vi wr => ∃ (k : Nat) (out : List Nat), k ≤ n ∧ vi = .int .i64 (k : Int) ∧ out = (Ldg.dn s (al.take k)).filter (fun x => decide (lw < x)) ∧ out.length ≤ k ∧ OwnU wr wA.heap.size vo out ∧ Below wA.heap.size wA wr) (fun _ vi _ => n - (intOf vi).toNat)
  case atStart => exact ⟨0, [], Nat.zero_le _, rfl, by simp [Ldg.dn], Nat.le_refl _, World.ownsRow_nil _ _ _ _, Below.refl _ _⟩
  case round =>
    obtain ⟨k, out, hk, rfl, ho, hol, hown, hnx⟩ := hrel
    have HO := hide ho
    have HOW := hide hown
    have HB := hide hnx
    clear ho hown hnx
    have hbox := (HB.out.block w.heap.size (by have := HAS.out; omega)).trans HA0.out
    have HBB := hide hbox
    have c0 := lcell_of hbox 0 rfl
    have c1 := lcell_of hbox 1 rfl
    have c2 := lcell_of hbox 2 rfl
    clear hbox
    by_cases hlt : k < n
    · obtain ⟨b, off, x, rfl, hbl, hx, hc⟩ := HU.out.get (bl HAB.out HB.out) (k := k) (by have := HN.out; omega)
      have hdn := Ldg.dn_next (s := s) (by have := HN.out; omega) hx
      have HDN := hide hdn
      clear hx hdn
      have inh : Nonempty (Ext wr) := Ext.some wr
      have y0 : ∀ x : Ext wr, x.w.cell? _ = _ := fun x => x.cell c0
      have y1 : ∀ x : Ext wr, x.w.cell? _ = _ := fun x => x.cell c1
      have y2 : ∀ x : Ext wr, x.w.cell? _ = _ := fun x => x.cell c2
      have y3 : ∀ x : Ext wr, x.w.cell? _ = _ := fun x => x.cell hc
      obtain ⟨sk, hsk⟩ : ∃ sk, s + k = sk := ⟨_, rfl⟩
      have u1 : IntKind.u64.wrap (k : Int) = (k : Int) := by rw [IntKind.wrap_u64]; omega
      have u2 : IntKind.u64.wrap ((s : Int) + (k : Int)) = (sk : Int) := by rw [IntKind.wrap_u64]; omega
      have u3 : (s : Int) + (k : Int) = (sk : Int) := by omega
      rw [hsk] at HDN
      by_cases hxq : x = 112
      · subst hxq
        have hd := HDN.out
        rw [if_pos rfl] at hd
        have HD := hide hd
        clear hd HDN
        go_wp2_with fail
        refine wp_region_calm (by kernel_rfl) (by kernel_rfl) ?_
        repeat (go_big_quiet_step ((go_at_call 75; exact calm_of (HLOW.out _ (bl (bl HAB.out HB.out) (Ext.below _))))))
        refine wpQuiet_nil ?_
        intro _ hw'
        obtain ⟨xq, rfl⟩ := hw'
        have hbx := HB.out.trans (xq.below.mono HB.out.size)
        have HBX := hide hbx
        have HOX := hide (HOW.out.below xq.below)
        clear hbx
        generalize xq.w = wc at *
        clear y0 y1 y2 y3 inh
        go_wp2
        go_roundw
        case rel => exact ⟨k + 1, out, by omega, by go_num, by rw [HD.out]; exact HO.out, by omega, HOX.out, HBX.out⟩
        case measure => simp [intOf]; omega
      · have hne : ((x : Int) != 112) = true := by simp; omega
        have hd := HDN.out
        rw [if_neg hxq] at hd
        have HD := hide hd
        clear hd HDN
        by_cases hg : lw < sk
        · have hdf : (Ldg.dn s (al.take (k + 1))).filter (fun x => decide (lw < x)) = out ++ [sk] := by
            rw [HD.out, List.filter_append, ← HO.out, List.filter_cons_of_pos (by simpa using hg)]; rfl
          have HDF := hide hdf
          have hgi : (lw : Int) < (sk : Int) := by omega
          clear hdf
          go_wp2_with fail
          refine wp_region_calm (by kernel_rfl) (by kernel_rfl) ?_
          repeat (go_big_quiet_step ((go_at_call 75; exact calm_of (HLOW.out _ (bl (bl HAB.out HB.out) (Ext.below _))))))
          refine wpQuiet_nil ?_
          intro _ hw'
          obtain ⟨xq, rfl⟩ := hw'
          have hbx := HB.out.trans (xq.below.mono HB.out.size)
          have HBX := hide hbx
          have hox := HOW.out.below xq.below
          have HOX := hide hox
          have hb0 := (xq.below.block w.heap.size (by have := HAS.out; have := HB.out.size; omega)).trans HBB.out
          have c0 := lcell_of hb0 0 rfl
          have c1 := lcell_of hb0 1 rfl
          have c2 := lcell_of hb0 2 rfl
          clear hbx hox hb0
          generalize xq.w = wc at *
          clear y0 y1 y2 y3 inh
          have hown := HOX.out
          have hsz := HBX.out.size
          unfold OwnU at hown
          go_wp2_with (at_builtin; refine wpList_append_own _ rfl _ _ 39 rfl wA.heap.size 23 i0 _ 1 8 Try.underlying39 hi hz0 hz1 hz2 rfl (by decide) _ _ _ rfl (hown.alloc _) ⟨wc.heap.size, 0, none⟩ 1 1 [.int .u64 (sk : Int)] rfl rfl ?c1 ?c2 ?c3 ?c4 ?c5 ?_)
          case c1 => exact cell_one_new _ _ _
          case c2 => intro u hu; simp at hu; subst hu; rfl
          case c3 => unfold maxLen; omega
          case c4 => omega
          case c5 => simp; omega
          intro v' w3 hown' hgrow _
          have R := ownu_step (x := sk) rfl hsz (hown.alloc _) HBX.out hown' hgrow
          clear hown hown' hgrow
          go_wp2
          go_roundw
          case rel => exact ⟨k + 1, out ++ [sk], by omega, by go_num, HDF.out.symm, by rw [List.length_append]; simp; omega, R.1, R.2⟩
          case measure => simp [intOf]; omega
        · have hdf : (Ldg.dn s (al.take (k + 1))).filter (fun x => decide (lw < x)) = out := by
            rw [HD.out, List.filter_append, ← HO.out, List.filter_cons_of_neg (by simpa using hg)]; simp
          have HDF := hide hdf
          have hgi : ¬ (lw : Int) < (sk : Int) := by omega
          clear hdf
          go_wp2_with fail
          refine wp_region_calm (by kernel_rfl) (by kernel_rfl) ?_
          repeat (go_big_quiet_step ((go_at_call 75; exact calm_of (HLOW.out _ (bl (bl HAB.out HB.out) (Ext.below _))))))
          refine wpQuiet_nil ?_
          intro _ hw'
          obtain ⟨xq, rfl⟩ := hw'
          have hbx := HB.out.trans (xq.below.mono HB.out.size)
          have HBX := hide hbx
          have hox := HOW.out.below xq.below
          have HOX := hide hox
          have hb0 := (xq.below.block w.heap.size (by have := HAS.out; have := HB.out.size; omega)).trans HBB.out
          have c0 := lcell_of hb0 0 rfl
          have c1 := lcell_of hb0 1 rfl
          have c2 := lcell_of hb0 2 rfl
          clear hbx hox hb0
          generalize xq.w = wc at *
          clear y0 y1 y2 y3 inh
          go_wp2
          go_roundw
          case rel => exact ⟨k + 1, out, by omega, by go_num, HDF.out.symm, by omega, HOX.out, HBX.out⟩
          case measure => simp [intOf]; omega
    · have hfin : Rd.above ⟨nm, s, al⟩ = out := by
        unfold Rd.above Rd.low
        rw [HO.out, HLW.out, List.take_of_length_le (by have := HN.out; omega)]
      have hown := HOW.out
      rw [← hfin] at hown
      have HOF := hide hown
      clear hown hfin
      go_wp2_with fail
      go_ret
      exact ⟨_, rfl, HOF.out.mono (by have := HAS.out; omega), HAB.out.trans (HB.out.mono (by have := HAS.out; omega))⟩
end Go.Proofs.Ytjbdofjheeljkaa
namespace Go.Proofs.Ytjbdofjheeljkaa
open Go.RowKit
open Ldg (De Le Rd Rl)

abbrev RV := Rd × Value
def rrow (p : RV) : List Value := [.string p.1.name, .int .u64 (p.1.since : Int), p.2]
def rrows (l : List RV) : List Value := l.flatMap rrow
theorem rrow_len (p : RV) : (rrow p).length = 3 := rfl
theorem rrows_len : ∀ l : List RV, (rrows l).length = l.length * 3
  | [] => rfl
  | p :: r => by simp only [rrows, List.flatMap_cons, List.length_append, rrow_len, List.length_cons]; have := rrows_len r; simp only [rrows] at this; omega
theorem rrows_app (a b : List RV) : rrows (a ++ b) = rrows a ++ rrows b := by simp [rrows]
theorem rrows_at : ∀ (l : List RV) (j i : Nat) (hj : j < l.length), i < 3 → (rrows l)[j * 3 + i]? = (rrow l[j])[i]?
  | p :: r, 0, i, _, hi => by
    simp only [rrows, List.flatMap_cons, List.getElem_cons_zero, Nat.zero_mul, Nat.zero_add]
    rw [List.getElem?_append_left (by rw [rrow_len]; exact hi)]
  | p :: r, j + 1, i, hj, hi => by
    have ih := rrows_at r j i (by simpa using hj) hi
    simp only [rrows, List.flatMap_cons, List.getElem_cons_succ] at ih ⊢
    rw [List.getElem?_append_right (by rw [rrow_len]; omega), rrow_len, show (j + 1) * 3 + i - 3 = j * 3 + i by omega]
    exact ih
theorem rrows_set : ∀ (l : List RV) (k i : Nat) (u : Value) (q : RV) (hk : k < l.length), i < 3 → rrow q = (rrow l[k]).set i u → (rrows l).set (k * 3 + i) u = rrows (l.set k q)
  | p :: r, 0, i, u, q, _, hi, h => by
    simp only [rrows, List.flatMap_cons, List.getElem_cons_zero, Nat.zero_mul, Nat.zero_add, List.set_cons_zero] at h ⊢
    rw [List.set_append_left _ _ (by rw [rrow_len]; exact hi), h]
  | p :: r, k + 1, i, u, q, hk, hi, h => by
    have ih := rrows_set r k i u q (by simpa using hk) hi (by simpa using h)
    simp only [rrows, List.flatMap_cons, List.set_cons_succ] at ih ⊢
    rw [List.set_append_right _ _ (by rw [rrow_len]; omega), rrow_len, show (k + 1) * 3 + i - 3 = k * 3 + i by omega, ih]


/-- The document's destinations behind an address. -/
structure RsAt (w : World) (a : Option Addr) (ps : List RV) : Prop where
  cells : ∀ i, i < ps.length → ∃ b off, a = some ⟨b, off, none⟩ ∧ b < w.heap.size ∧ ∀ j (hj : j < ps.length) (k : Nat) (u : Value), (rrow ps[j])[k]? = some u → w.cell? ⟨b, off + j * 3 + k, none⟩ = some u
  sls : ∀ p ∈ ps, BlIn anyB w p.2 p.1.all
theorem RsAt.below {w w' : World} {a : Option Addr} {ps : List RV} (h : RsAt w a ps) (hb : Below w.heap.size w w') : RsAt w' a ps := by
  refine ⟨fun i hi => ?_, fun p hp => (h.sls p hp).below hb⟩
  obtain ⟨b, off, ha, hl, hc⟩ := h.cells i hi
  have := hb.size
  exact ⟨b, off, ha, by omega, fun j hj k u hu => (hb.cell (by exact hl)).trans (hc j hj k u hu)⟩
theorem RsAt.nil (w : World) (a : Option Addr) : RsAt w a [] := ⟨fun i h => by simp at h, fun p h => by simp at h⟩
theorem RsAt.get {w wr : World} {a : Option Addr} {ps : List RV} (h : RsAt w a ps) (hnx : Below w.heap.size w wr) {k : Nat} (hk : k < ps.length) :
    ∃ b off nm s al va vc, a = some ⟨b, off, none⟩ ∧ b < w.heap.size ∧ ps[k] = (⟨nm, s, al⟩, .slice va al.length vc) ∧ BlIn anyB wr (.slice va al.length vc) al ∧
      wr.cell? ⟨b, off + k * 3, none⟩ = some (.string nm) ∧ wr.cell? ⟨b, off + k * 3 + 1, none⟩ = some (.int .u64 (s : Int)) ∧ wr.cell? ⟨b, off + k * 3 + 2, none⟩ = some (.slice va al.length vc) := by
  obtain ⟨b, off, ha, hl, hc⟩ := (h.below hnx).cells k hk
  have hl' : b < w.heap.size := by
    obtain ⟨b', off', ha', hl', _⟩ := h.cells k hk
    rw [ha] at ha'
    cases ha'
    exact hl'
  have hs := (h.below hnx).sls ps[k] (List.getElem_mem hk)
  rcases hp : ps[k] with ⟨⟨nm, s, al⟩, v⟩
  rw [hp] at hs
  have hc' := hc k hk
  rw [hp] at hc'
  obtain ⟨va, vc, ev2, hr⟩ := hs
  have ev3 : v = .slice va al.length vc := ev2
  clear ev2
  subst ev3
  exact ⟨b, off, nm, s, al, va, vc, ha, hl', rfl, ⟨va, vc, rfl, hr⟩, hc' 0 _ rfl, hc' 1 _ rfl, hc' 2 _ rfl⟩
def RlAt (w : World) (v : Value) (R : Rl) : Prop := ∃ a c ps, v = .agg #[.int .u64 (R.first : Int), .int .u64 (R.next : Int), .slice a ps.length c] ∧ ps.length ≤ c ∧ R.dests = ps.map Prod.fst ∧ RsAt w a ps
theorem RlAt.below {w w' : World} {v : Value} {R : Rl} (h : RlAt w v R) (hb : Below w.heap.size w w') : RlAt w' v R := by
  obtain ⟨a, c, ps, e, hc, hd, hs⟩ := h
  exact ⟨a, c, ps, e, hc, hd, hs.below hb⟩
theorem rplc_next {ps : List RV} {k : Nat} {n : ByteArray} (hk : k < ps.length) (h : Ldg.plcN ((ps.drop k).map (fun p => p.1.name)) n k = Ldg.plc (ps.map (fun p => p.1.name)) n) (hn : (ps[k].1.name.toList == n.toList) = false) :
    Ldg.plcN ((ps.drop (k + 1)).map (fun p => p.1.name)) n (k + 1) = Ldg.plc (ps.map (fun p => p.1.name)) n := by
  rw [← h, List.drop_eq_getElem_cons hk, List.map_cons]
  conv => rhs; unfold Ldg.plcN
  rw [if_neg (Lab.eqB_false hn)]
theorem rplc_found {ps : List RV} {k : Nat} {n : ByteArray} (hk : k < ps.length) (h : Ldg.plcN ((ps.drop k).map (fun p => p.1.name)) n k = Ldg.plc (ps.map (fun p => p.1.name)) n) (hn : (ps[k].1.name.toList == n.toList) = true) :
    Ldg.plc (ps.map (fun p => p.1.name)) n = (k : Int) := by
  rw [← h, List.drop_eq_getElem_cons hk, List.map_cons]
  unfold Ldg.plcN
  rw [if_pos (Lab.eqB_true hn)]
theorem rplc_end {ps : List RV} {k : Nat} {n : ByteArray} (hk : ¬ k < ps.length) (h : Ldg.plcN ((ps.drop k).map (fun p => p.1.name)) n k = Ldg.plc (ps.map (fun p => p.1.name)) n) :
    Ldg.plc (ps.map (fun p => p.1.name)) n = -1 := by
  rw [← h, List.drop_eq_nil_of_le (by omega)]; rfl
set_option maxRecDepth 100000 in
set_option maxHeartbeats 800000 in
theorem rplace_any (f x : Int) (a : Option Addr) (cap : Nat) (ps : List RV) (n : ByteArray) (w : World) (hp : RsAt w a ps) (hl : ps.length ≤ 1000000000) :
    Calls Try.prog 58 #[.agg #[.int .u64 f, .int .u64 x, .slice a ps.length cap], .string n] w fun e w' => e = .returned (.int .i64 (Ldg.plc (ps.map (fun p => p.1.name)) n)) ∧ Below w.heap.size w w' := by
  have HP := hide hp
  obtain ⟨m, hm⟩ : ∃ m, ps.length = m := ⟨_, rfl⟩
  rw [hm] at hl ⊢
  have HM := hide hm
  obtain ⟨wA, hwA⟩ : ∃ W, w.alloc (.cells #[.int .u64 f, .int .u64 x, .slice a m cap] 31) = W := ⟨_, rfl⟩
  have hA0 : wA.heap[w.heap.size]? = some (.cells #[.int .u64 f, .int .u64 x, .slice a m cap] 31 (0, 0)) := by
    rw [← hwA]; show (w.heap.push _)[w.heap.size]? = _; simp
  have hAb : Below w.heap.size w wA := by rw [← hwA]; exact (Below.refl _ _).alloc (Nat.le_refl _) _
  have a2 := lcell_of hA0 2 rfl
  have HAB := hide hAb
  clear hp hm hA0 hAb
  go_enter Try.func58, Try.ntmps58
  go_wp2_with fail
  clear hwA
  go_loopw [5] (fun i wr => ∃ k : Nat, k ≤ m ∧ i = .int .i64 (k : Int) ∧ Ldg.plcN ((ps.drop k).map (fun p => p.1.name)) n k = Ldg.plc (ps.map (fun p => p.1.name)) n ∧ wr = wA)
    (fun i _ => m - (intOf i).toNat)
  case atStart => exact ⟨0, Nat.zero_le _, rfl, rfl, rfl⟩
  case round =>
    obtain ⟨k, hk, rfl, hno, rfl⟩ := hrel
    have HN := hide hno
    clear hno
    by_cases hlt : k < m
    · obtain ⟨b, off, nm, s, al, va, vc, rfl, hbl, hz, _, h0, h1, h2⟩ := HP.out.get HAB.out (k := k) (by have := HM.out; omega)
      have HZ := hide hz
      clear hz
      by_cases heq : (nm.toList == n.toList) = true
      · go_wp2
        go_ret
        exact ⟨lret_i (rplc_found (by have := HM.out; omega) HN.out (by rw [HZ.out]; exact heq)).symm, HAB.out⟩
      · have heq' : (nm.toList == n.toList) = false := by simpa using heq
        clear heq
        go_wp2
        go_roundw
        case rel => exact ⟨k + 1, by omega, by go_num, rplc_next (by have := HM.out; omega) HN.out (by rw [HZ.out]; exact heq'), trivial⟩
        case measure => simp [intOf]; omega
    · go_wp2
      go_ret
      exact ⟨lret_i (rplc_end (by have := HM.out; omega) HN.out).symm, HAB.out⟩
end Go.Proofs.Ytjbdofjheeljkaa
namespace Go.Proofs.Ytjbdofjheeljkaa
open Go.RowKit
open Ldg (De Le Rd Rl)

theorem dnb {n : Nat} {a w : World} (h : Below n a w) (k : Nat) : Below n a (w.drewN k) := ⟨h.os, h.tape, h.output, h.size, h.block⟩
theorem rnames_eq {ps : List RV} {l : List Rd} (h : l = ps.map Prod.fst) : l.map Rd.name = ps.map (fun p => p.1.name) := by rw [h, List.map_map]; rfl
theorem rok_at {R : Rl} (hf : R.Ok) {ps : List RV} (h : R.dests = ps.map Prod.fst) {k : Nat} (hk : k < ps.length) : Rd.Ok R.first R.next ps[k].1 := hf.each _ (by rw [h]; exact List.mem_map_of_mem (List.getElem_mem hk))
theorem rmany_of {R : Rl} (hf : R.Ok) {ps : List RV} (h : R.dests = ps.map Prod.fst) : ps.length ≤ 4 := by have := hf.many; rw [h, List.length_map] at this; exact this
theorem pend_no {d : Rd} {q : Nat} (h : ¬ (d.since ≤ q ∧ ∃ h : q - d.since < d.all.length, d.all[q - d.since] = 112)) : d.pend.contains q = false := by
  rw [Bool.eq_false_iff]; exact fun e => h (Ldg.pend_has.1 e)
set_option maxRecDepth 100000 in
set_option maxHeartbeats 1600000 in
theorem rwaits_any {w : World} {v : Value} {R : Rl} (h : RlAt w v R) (hf : R.Ok) (n : ByteArray) (q : Nat) :
    Calls Try.prog 26 #[v, .string n, .int .u64 (q : Int)] w fun e w' => e = .returned (.bool (R.waits n q)) ∧ Below w.heap.size w w' := by
  obtain ⟨a, c, ps, rfl, hc, hd, hds⟩ := h
  have hmn := rmany_of hf hd
  have hnm := rnames_eq hd
  obtain ⟨T, hT⟩ : ∃ T, R.waits n q = T := ⟨_, rfl⟩
  rw [hT]
  unfold Rl.waits Rl.look Rl.names at hT
  rw [hnm] at hT
  have HT := hide hT
  have HF := hide hf
  have HD := hide hd
  have HDS := hide hds
  have hnb := hf.nb
  obtain ⟨m, hm⟩ : ∃ m, ps.length = m := ⟨_, rfl⟩
  have HPL := fun W (hW : Below w.heap.size w W) => rplace_any (R.first : Int) (R.next : Int) a c ps n W (hds.below hW) (by omega)
  rw [hm] at hc hmn HPL ⊢
  have HM := hide hm
  have HP := hide HPL
  obtain ⟨wA, hwA⟩ : ∃ W, w.alloc (.cells #[.int .u64 (R.first : Int), .int .u64 (R.next : Int), .slice a m c] 31) = W := ⟨_, rfl⟩
  have hA0 : wA.heap[w.heap.size]? = some (.cells #[.int .u64 (R.first : Int), .int .u64 (R.next : Int), .slice a m c] 31 (0, 0)) := by
    rw [← hwA]; show (w.heap.push _)[w.heap.size]? = _; simp
  have hAs : w.heap.size < wA.heap.size := by rw [← hwA]; simp
  have hAb : Below w.heap.size w wA := by rw [← hwA]; exact (Below.refl _ _).alloc (Nat.le_refl _) _
  have a0 := lcell_of hA0 0 rfl
  have a1 := lcell_of hA0 1 rfl
  have a2 := lcell_of hA0 2 rfl
  have HA0 := hide hA0
  have HAB := hide hAb
  have HAS := hide hAs
  clear HPL hm hds hd hf hT hnm hA0 hAb hAs
  go_enter Try.func26, Try.ntmps26
  go_wp2_with fail
  refine (HP.out _ HAB.out).mono ?_
  rintro e w1 ⟨rfl, hb1⟩
  have h0 := (hb1.block _ HAS.out).trans HA0.out
  have c0 := lcell_of h0 0 rfl
  have c1 := lcell_of h0 1 rfl
  have c2 := lcell_of h0 2 rfl
  have HB1 := hide (bl HAB.out hb1)
  clear h0 hb1 HA0 hwA a0 a1 a2
  rcases Ldg.plc_cases (ps.map (fun p => p.1.name)) n with ⟨hp, _⟩ | ⟨k, hk, hp, _⟩
  · have hT := HT.out
    rw [Ldg.lookAt_no _ hp] at hT
    simp only at hT
    subst hT
    rw [hp]
    clear HT hp
    go_wp2_with fail
    go_quiet (fail)
    go_wp2
    go_ret
    exact ⟨rfl, dnb HB1.out _⟩
  · rw [List.length_map] at hk
    have hT := HT.out
    rw [Ldg.lookAt_at hp (by rw [HD.out, List.length_map]; exact hk)] at hT
    simp only [HD.out, List.getElem_map] at hT
    have hok := rok_at HF.out HD.out hk
    obtain ⟨b, off, nm, s, al, va, vc, rfl, hbl, hz, hsl, g0, g1, g2⟩ := HDS.out.get HB1.out hk
    rw [hz] at hT hok
    simp only at hT hok
    have hen := hok.ends
    simp only at hen
    have hkm : k < m := by have := HM.out; omega
    obtain ⟨ln, hln⟩ : ∃ x, al.length = x := ⟨_, rfl⟩
    rw [hln] at g2
    have HLN := hide hln
    have HEN := hide hen
    have HT2 := hide hT
    have HSL := hide hsl
    rw [hp]
    have x1 : ∀ nq, (w1.drewN nq).cell? ⟨w.heap.size, 1, none⟩ = _ := fun _ => c1
    have x2 : ∀ nq, (w1.drewN nq).cell? ⟨w.heap.size, 2, none⟩ = _ := fun _ => c2
    have y1 : ∀ nq, (w1.drewN nq).cell? ⟨b, off + k * 3 + 1, none⟩ = _ := fun _ => g1
    have y2 : ∀ nq, (w1.drewN nq).cell? ⟨b, off + k * 3 + 2, none⟩ = _ := fun _ => g2
    clear hT HT hp hok hen hln hsl hz
    by_cases q1 : s ≤ q
    · by_cases q2 : q < R.next
      · obtain ⟨i, hi⟩ : ∃ i, q - s = i := ⟨_, rfl⟩
        have hil : i < ln := by have := HEN.out; have := HLN.out; omega
        have u1 : IntKind.u64.wrap ((q : Int) - (s : Int)) = (i : Int) := by rw [IntKind.wrap_u64]; omega
        have u2 : (q : Int) - (s : Int) = (i : Int) := by omega
        obtain ⟨a', c', e1, _, _, hu⟩ := HSL.out
        simp only [Value.slice.injEq] at e1
        obtain ⟨rfl, e2, rfl⟩ := e1
        clear e2
        obtain ⟨bb, bo, x, rfl, hbl2, hx, hxc⟩ := hu.get (Below.refl _ _) (k := i) (by have := HLN.out; omega)
        have z1 : ∀ nq, (w1.drewN nq).cell? ⟨bb, bo + i, none⟩ = _ := fun _ => hxc
        have HX := hide hx
        have HI := hide hi
        clear hx hu hi
        by_cases hx1 : x = 112
        · subst hx1
          have hT := HT2.out
          rw [Ldg.pend_has.2 ⟨q1, by show q - s < al.length; have := HI.out; have := HLN.out; omega, by simp only [HI.out]; exact HX.out⟩] at hT
          subst hT
          clear HT2
          go_wp2_with fail
          go_quiet (fail)
          go_wp2
          go_ret
          exact ⟨rfl, dnb HB1.out _⟩
        · have hT := HT2.out
          rw [pend_no (fun h => by
            obtain ⟨_, h2, h3⟩ := h
            simp only [HI.out] at h3
            exact hx1 (HX.out.symm.trans h3))] at hT
          subst hT
          have hxe : ((x : Int) == 112) = false := beq_eq_false_iff_ne.2 (by omega)
          clear HT2
          go_wp2_with fail
          go_quiet (fail)
          go_wp2
          go_ret
          exact ⟨rfl, dnb HB1.out _⟩
      · have hT := HT2.out
        rw [pend_no (fun h => by
          obtain ⟨_, h2, h3⟩ := h
          have h2' : q - s < al.length := h2
          have := HEN.out
          omega)] at hT
        subst hT
        clear HT2
        have q2' : ¬ (q : Int) < (R.next : Int) := by omega
        go_wp2_with fail
        go_quiet (fail)
        go_wp2
        go_ret
        exact ⟨rfl, dnb HB1.out _⟩
    · have hT := HT2.out
      rw [pend_no (fun h => q1 h.1)] at hT
      subst hT
      clear HT2
      have q1' : ¬ (s : Int) ≤ (q : Int) := by omega
      go_wp2_with fail
      go_quiet (fail)
      go_wp2
      go_ret
      exact ⟨rfl, dnb HB1.out _⟩
end Go.Proofs.Ytjbdofjheeljkaa
namespace Go.Proofs.Ytjbdofjheeljkaa
open Go.RowKit
open Ldg (De Le Rd Rl)

theorem range_step {q next : Nat} (h : q < next) (f : Nat → Bool) : (List.range' q (next - q)).filter f = (if f q then [q] else []) ++ (List.range' (q + 1) (next - (q + 1))).filter f := by
  rw [show next - q = next - (q + 1) + 1 by omega, List.range'_succ]
  cases hf : f q with
  | true => rw [List.filter_cons_of_pos hf]; rfl
  | false => rw [List.filter_cons_of_neg (by rw [hf]; decide)]; rfl
set_option maxRecDepth 100000 in
set_option maxHeartbeats 1600000 in
theorem rpending_any {w : World} {v : Value} {R : Rl} (h : RlAt w v R) (hf : R.Ok) (n : ByteArray) :
    Calls Try.prog 24 #[v, .string n] w fun e w' => ∃ v', e = .returned v' ∧ OwnU w' w.heap.size v' (R.pend n) ∧ Below w.heap.size w w' := by
  obtain ⟨i0, hi, hz0, hz1, hz2⟩ := info_parts u64_info
  have hwt := fun W (hW : Below w.heap.size w W) q => rwaits_any (h.below hW) hf n q
  obtain ⟨a, c, ps, rfl, hc, hd, hds⟩ := h
  have hmn := rmany_of hf hd
  have hnm := rnames_eq hd
  have hnb := hf.nb
  have hf1 := hf.f1
  have hfn := hf.fn
  obtain ⟨m, hm⟩ : ∃ m, ps.length = m := ⟨_, rfl⟩
  have HPL := fun W (hW : Below w.heap.size w W) => rplace_any (R.first : Int) (R.next : Int) a c ps n W (hds.below hW) (by omega)
  rw [hm] at hc hmn HPL hwt ⊢
  have HM := hide hm
  have HP := hide HPL
  have HW := hide hwt
  have HF := hide hf
  have HD := hide hd
  have HNM := hide hnm
  obtain ⟨wA, hwA⟩ : ∃ W, w.alloc (.cells #[.int .u64 (R.first : Int), .int .u64 (R.next : Int), .slice a m c] 31) = W := ⟨_, rfl⟩
  have hA0 : wA.heap[w.heap.size]? = some (.cells #[.int .u64 (R.first : Int), .int .u64 (R.next : Int), .slice a m c] 31 (0, 0)) := by
    rw [← hwA]; show (w.heap.push _)[w.heap.size]? = _; simp
  have hAs : w.heap.size < wA.heap.size := by rw [← hwA]; simp
  have hAb : Below w.heap.size w wA := by rw [← hwA]; exact (Below.refl _ _).alloc (Nat.le_refl _) _
  have a0 := lcell_of hA0 0 rfl
  have a1 := lcell_of hA0 1 rfl
  have a2 := lcell_of hA0 2 rfl
  have HA0 := hide hA0
  have HAB := hide hAb
  have HAS := hide hAs
  obtain ⟨P, hP⟩ : ∃ P, R.pend n = P := ⟨_, rfl⟩
  rw [hP]
  have HPD := hide hP
  clear HPL hm hds hd hf hwt hnm hA0 hAb hAs hP
  go_enter Try.func24, Try.ntmps24
  go_wp2_with fail
  refine (HP.out _ HAB.out).mono ?_
  rintro e w1 ⟨rfl, hb1⟩
  have h0 := (hb1.block _ HAS.out).trans HA0.out
  have c0 := lcell_of h0 0 rfl
  have c1 := lcell_of h0 1 rfl
  have c2 := lcell_of h0 2 rfl
  have HB1 := hide (bl HAB.out hb1)
  have HH0 := hide h0
  have HS1 := hide (show w.heap.size < w1.heap.size by have := HAS.out; have := hb1.size; omega)
  clear h0 hb1 HA0 hwA a0 a1 a2
  rcases Ldg.plc_cases (ps.map (fun p => p.1.name)) n with ⟨hp, _⟩ | ⟨k, hk, hp, _⟩
  · have hPn : P = [] := by
      rw [← HPD.out]
      unfold Rl.pend Rl.look Rl.names
      rw [HNM.out, Ldg.lookAt_no _ hp]
    subst hPn
    rw [hp]
    clear hp
    go_wp2_with fail
    go_loopw [5, 7] (fun vo vq wr => vo = .slice none 0 0 ∧ vq = .int .u64 1 ∧ wr = w1) (fun _ _ _ => 0)
    case atStart => exact ⟨rfl, rfl, rfl⟩
    case round =>
      obtain ⟨rfl, rfl, rfl⟩ := hrel
      go_wp2_with fail
      go_ret
      exact ⟨_, rfl, World.ownsRow_nil _ _ _ _, HB1.out⟩
  · rw [List.length_map] at hk
    have hld : k < R.dests.length := by rw [HD.out, List.length_map]; exact hk
    have hlook : R.look n = some R.dests[k] := by
      unfold Rl.look Rl.names
      rw [HNM.out]; exact Ldg.lookAt_at hp hld
    have hok := HF.out.each _ (List.getElem_mem hld)
    have hPe : (List.range' 1 (R.next - 1)).filter (fun x => R.waits n x) = P := by
      rw [← HPD.out]
      unfold Rl.pend Rl.waits
      rw [hlook]
      exact Ldg.pend_range hok.since hok.ends
    have HPE := hide hPe
    have hk0 : (0 : Int) ≤ (k : Int) := by omega
    rw [hp]
    clear hp hlook hok hPe hld hk
    go_wp2_with fail
    go_loopw [5, 7] (fun vo vq wr => ∃ (out : List Nat) (q : Nat), 1 ≤ q ∧ q ≤ R.next ∧ vq = .int .u64 (q : Int) ∧ out ++ (List.range' q (R.next - q)).filter (fun x => R.waits n x) = P ∧ out.length ≤ q ∧ OwnU wr w1.heap.size vo out ∧ Below w1.heap.size w1 wr) (fun _ vq _ => R.next - (intOf vq).toNat)
    case atStart => exact ⟨[], 1, Nat.le_refl _, by omega, rfl, HPE.out, Nat.zero_le _, World.ownsRow_nil _ _ _ _, Below.refl _ _⟩
    case round =>
      obtain ⟨out, q, hq1, hq2, rfl, hrest, hol, hown, hnx⟩ := hrel
      have HR := hide hrest
      have HO := hide hown
      have HB := hide hnx
      have hbx := (hnx.block _ HS1.out).trans HH0.out
      have d0 := lcell_of hbx 0 rfl
      have d1 := lcell_of hbx 1 rfl
      have d2 := lcell_of hbx 2 rfl
      clear hrest hown hnx hbx c0 c1 c2
      by_cases hlt : q < R.next
      · have hst := range_step hlt (fun x => R.waits n x)
        have hr := HR.out
        rw [hst] at hr
        have hcw := HW.out wr (bl HB1.out HB.out) q
        obtain ⟨tw, htw⟩ : ∃ t, R.waits n q = t := ⟨_, rfl⟩
        simp only [htw] at hr hcw
        have HR2 := hide hr
        have HCW := hide hcw
        have hlti : (q : Int) < (R.next : Int) := by omega
        clear hst hr hcw htw
        go_wp2_with fail
        refine HCW.out.mono ?_
        rintro e w2 ⟨rfl, hb2⟩
        have HB2 := hide (HB.out.trans (hb2.mono HB.out.size))
        have HO2 := hide (HO.out.below hb2)
        clear hb2 d0 d1 d2
        cases tw with
        | true =>
          have hr := HR2.out
          rw [if_pos rfl, ← List.append_assoc] at hr
          have HR3 := hide hr
          have hown := HO2.out
          have hsz := HB2.out.size
          unfold OwnU at hown
          clear hr HR2
          go_wp2_with (at_builtin; refine wpList_append_own _ rfl _ _ 39 rfl w1.heap.size 23 i0 _ 1 8 Try.underlying39 hi hz0 hz1 hz2 rfl (by decide) _ _ _ rfl (hown.alloc _) ⟨w2.heap.size, 0, none⟩ 1 1 [.int .u64 (q : Int)] rfl rfl ?c1 ?c2 ?c3 ?c4 ?c5 ?_)
          case c1 => exact cell_one_new _ _ _
          case c2 => intro u hu; simp at hu; subst hu; rfl
          case c3 => unfold maxLen; omega
          case c4 => omega
          case c5 => simp; omega
          intro v' w3 hown' hgrow _
          have RR := ownu_step (x := q) rfl hsz (hown.alloc _) HB2.out hown' hgrow
          clear hown hown' hgrow
          go_wp2
          go_roundw
          case rel => exact ⟨out ++ [q], q + 1, by omega, by omega, by go_num, HR3.out, by rw [List.length_append]; simp; omega, RR.1, RR.2⟩
          case measure => simp [intOf]; omega
        | false =>
          have hr := HR2.out
          rw [if_neg (by decide), List.nil_append] at hr
          have HR3 := hide hr
          clear hr HR2
          go_wp2_with fail
          go_roundw
          case rel => exact ⟨out, q + 1, by omega, by omega, by go_num, HR3.out, by omega, HO2.out, HB2.out⟩
          case measure => simp [intOf]; omega
      · have hqn : q = R.next := by omega
        have hfin : out = P := by
          have := HR.out
          rw [hqn, Nat.sub_self] at this
          simpa using this
        subst hfin
        have hlti : ¬ (q : Int) < (R.next : Int) := by omega
        go_wp2_with fail
        go_ret
        exact ⟨_, rfl, HO.out.mono (by have := HS1.out; omega), HB1.out.trans (HB.out.mono (by have := HS1.out; omega))⟩
end Go.Proofs.Ytjbdofjheeljkaa
namespace Go.Proofs.Ytjbdofjheeljkaa
open Go.RowKit
open Ldg (De Le Rd Rl)

set_option maxRecDepth 100000 in
set_option maxHeartbeats 1600000 in
theorem rfree_any {w : World} {v : Value} {R : Rl} (h : RlAt w v R) (hf : R.Ok) :
    Calls Try.prog 28 #[v] w fun e w' => e = .returned (.int .u64 (R.free : Int)) ∧ Below w.heap.size w w' := by
  have hwt := fun W (hW : Below w.heap.size w W) n q => rwaits_any (h.below hW) hf n q
  obtain ⟨a, c, ps, rfl, hc, hd, hds⟩ := h
  have hmn := rmany_of hf hd
  have hnb := hf.nb
  have hf1 := Ldg.free_ge hf
  have hfl := Ldg.free_le R
  obtain ⟨m, hm⟩ : ∃ m, ps.length = m := ⟨_, rfl⟩
  rw [hm] at hc hmn hwt ⊢
  have HM := hide hm
  have HW := hide hwt
  have HF := hide hf
  have HD := hide hd
  have HDS := hide hds
  obtain ⟨F, hF⟩ : ∃ F, R.free = F := ⟨_, rfl⟩
  rw [hF] at hf1 hfl ⊢
  have HFF := hide hF
  obtain ⟨wA, hwA⟩ : ∃ W, w.alloc (.cells #[.int .u64 (R.first : Int), .int .u64 (R.next : Int), .slice a m c] 31) = W := ⟨_, rfl⟩
  have hA0 : wA.heap[w.heap.size]? = some (.cells #[.int .u64 (R.first : Int), .int .u64 (R.next : Int), .slice a m c] 31 (0, 0)) := by
    rw [← hwA]; show (w.heap.push _)[w.heap.size]? = _; simp
  have hAs : w.heap.size < wA.heap.size := by rw [← hwA]; simp
  have hAb : Below w.heap.size w wA := by rw [← hwA]; exact (Below.refl _ _).alloc (Nat.le_refl _) _
  have HA0 := hide hA0
  have HAB := hide hAb
  have HAS := hide hAs
  clear hm hds hd hf hwt hA0 hAb hAs hF
  go_enter Try.func28, Try.ntmps28
  go_wp2_with fail
  clear hwA
  go_loopw [3] (fun vq wr => ∃ q : Nat, 1 ≤ q ∧ q ≤ F ∧ vq = .int .u64 (q : Int) ∧ Below wA.heap.size wA wr) (fun vq _ => R.next - (intOf vq).toNat)
  case atStart => exact ⟨1, Nat.le_refl _, hf1, rfl, Below.refl _ _⟩
  case round =>
    obtain ⟨q, hq1, hq2, rfl, hnx⟩ := hrel
    have HB := hide hnx
    have hbx := (hnx.block _ HAS.out).trans HA0.out
    have d1 := lcell_of hbx 1 rfl
    clear hnx hbx
    by_cases hlt : q < R.next
    · have hlti : (q : Int) < (R.next : Int) := by omega
      obtain ⟨wo, hwo⟩ : ∃ wo, wo = wr := ⟨_, rfl⟩
      subst hwo
      go_wp2_with fail
      clear d1
      go_loopw [4] (fun vi wr => ∃ i : Nat, i ≤ m ∧ vi = .int .i64 (i : Int) ∧ (∀ j (hj : j < R.dests.length), j < i → R.waits R.dests[j].name q = false) ∧ Below wA.heap.size wA wr) (fun vi _ => m - (intOf vi).toNat)
      case atStart => exact ⟨0, Nat.zero_le _, rfl, fun j _ h => by omega, HB.out⟩
      case round =>
        obtain ⟨i, hi, rfl, hno, hnx⟩ := hrel
        have HN := hide hno
        have HB2 := hide hnx
        have hbx := (hnx.block _ HAS.out).trans HA0.out
        have d0 := lcell_of hbx 0 rfl
        have d1 := lcell_of hbx 1 rfl
        have d2 := lcell_of hbx 2 rfl
        clear hno hnx hbx
        by_cases hlt2 : i < m
        · obtain ⟨b, off, nm, s, al, va, vc, rfl, hbl, hz, hsl, g0, g1, g2⟩ := HDS.out.get (bl HAB.out HB2.out) (k := i) (by have := HM.out; omega)
          have hir : i < R.dests.length := by rw [HD.out, List.length_map]; have := HM.out; omega
          have hnm : R.dests[i].name = nm := by
            have h1 : R.dests[i] = (ps.map Prod.fst)[i]'(by rw [List.length_map]; have := HM.out; omega) := by simp only [HD.out]
            rw [h1, List.getElem_map, hz]
          obtain ⟨tw, htw⟩ : ∃ t, R.waits nm q = t := ⟨_, rfl⟩
          have hcw := fun W (hW : Below wr.heap.size wr W) => HW.out W (bl (bl HAB.out HB2.out) hW) nm q
          simp only [htw] at hcw
          have HCW := hide hcw
          have HTW := hide htw
          have HNM := hide hnm
          have HIR := hide hir
          have inh : Nonempty (Ext wr) := Ext.some wr
          have x0 : ∀ x : Ext wr, x.w.cell? _ = _ := fun x => x.cell d0
          have x1 : ∀ x : Ext wr, x.w.cell? _ = _ := fun x => x.cell d1
          have x2 : ∀ x : Ext wr, x.w.cell? _ = _ := fun x => x.cell d2
          have y0 : ∀ x : Ext wr, x.w.cell? _ = _ := fun x => x.cell g0
          clear hz hsl hcw htw hnm g1 g2
          go_wp2_with fail
          refine wp_region_calm (by kernel_rfl) (by kernel_rfl) ?_
          repeat (go_big_quiet_step ((go_at_call 26; exact calm_of (HCW.out _ (Ext.below _)))))
          refine wpQuiet_nil ?_
          intro _ hw'
          obtain ⟨xq, rfl⟩ := hw'
          have hbx := HB2.out.trans (xq.below.mono HB2.out.size)
          have HBX := hide hbx
          clear hbx
          generalize xq.w = wc at *
          clear x0 x1 x2 y0 inh d0 d1 d2 g0
          cases tw with
          | true =>
            have hfq := Ldg.free_found HF.out (q := q) (by rw [HFF.out]; exact hq2) HIR.out (by rw [HNM.out]; exact HTW.out)
            rw [HFF.out] at hfq
            subst hfq
            go_wp2_with fail
            go_ret
            exact ⟨rfl, HAB.out.trans (HBX.out.mono (by have := HAS.out; omega))⟩
          | false =>
            go_wp2_with fail
            go_roundw
            case rel =>
              refine ⟨i + 1, by omega, by go_num, fun j hj hji => ?_, HBX.out⟩
              rcases Nat.lt_or_ge j i with h | h
              · exact HN.out j hj h
              · have : j = i := by omega
                subst this
                rw [HNM.out]; exact HTW.out
            case measure => simp [intOf]; omega
        · have hnext := Ldg.free_next HF.out (q := q) (by rw [HFF.out]; exact hq2) hlt (fun j hj => HN.out j hj (by rw [HD.out, List.length_map] at hj; have := HM.out; omega))
          rw [HFF.out] at hnext
          go_wp2_with fail
          go_roundw
          case rel => exact ⟨q + 1, by omega, hnext, by go_num, HB2.out⟩
          case measure => simp [intOf]; omega
    · have hqF : R.next = F := by omega
      have hlti : ¬ (q : Int) < (R.next : Int) := by omega
      go_wp2_with fail
      go_ret
      exact ⟨lret_u (by omega), HAB.out.trans (HB.out.mono (by have := HAS.out; omega))⟩
end Go.Proofs.Ytjbdofjheeljkaa
namespace Go.Proofs.Ytjbdofjheeljkaa
open Go.RowKit
open Ldg (De Le Rd Rl)

theorem bV_len (l : List Nat) : (bV l).length = l.length := by simp [bV]
theorem bV_app (a b : List Nat) : bV (a ++ b) = bV a ++ bV b := by simp [bV]
theorem bV_one (l : List Nat) : ∀ u ∈ bV l, u.oneCell' = true := by
  intro u hu
  obtain ⟨x, _, rfl⟩ := List.mem_map.1 hu
  rfl
theorem lown_keep {w w' : World} {base e size n : Nat} {v : Value} {xs : List Value} (h : w.ownsRow base e size v n xs) (k : ∀ g, v.ownBlock = some g → w'.heap[g]? = w.heap[g]?) : w'.ownsRow base e size v n xs := by
  refine ⟨h.1, ?_⟩
  rcases h.2 with h0 | ⟨g, cap, cur, hv, hB, hg, hr⟩
  · exact .inl h0
  · exact .inr ⟨g, cap, cur, hv, hB, (k g (by rw [hv]; rfl)).trans hg, hr⟩
theorem lown_mono {w : World} {B B' e size n : Nat} {v : Value} {xs : List Value} (h : w.ownsRow B e size v n xs) (hB : B' ≤ B) : w.ownsRow B' e size v n xs := by
  refine ⟨h.1, ?_⟩
  rcases h.2 with h0 | ⟨g, cap, cur, hv, hg, hr⟩
  · exact .inl h0
  · exact .inr ⟨g, cap, cur, hv, Nat.le_trans hB hg, hr⟩
theorem lown_lt {w : World} {B e size n : Nat} {v : Value} {xs : List Value} (h : w.ownsRow B e size v n xs) {g : Nat} (k : v.ownBlock = some g) : g < w.heap.size ∧ B ≤ g := by
  rcases h.2 with ⟨rfl, _⟩ | ⟨g', cap, cur, rfl, hb, hh, _⟩
  · cases k
  · simp only [Value.ownBlock, Option.some.injEq] at k
    subst k
    exact ⟨(Array.getElem?_eq_some_iff.1 hh).1, hb⟩
theorem lown_slice {w : World} {B e size n : Nat} {v : Value} {xs : List Value} (h : w.ownsRow B e size v n xs) : ∃ a c, v = .slice a n c ∧ n ≤ c := by
  rcases h.2 with ⟨rfl, h0⟩ | ⟨g, cap, cur, rfl, hB, hg, hnc, _⟩
  · exact ⟨none, 0, by rw [h0], by omega⟩
  · exact ⟨_, _, rfl, hnc⟩
/-- Bytes of the call's own, as read. -/
theorem own_bl {w : World} {B : Nat} {v : Value} {l : List Nat} (h : w.ownsRow B 5 1 v l.length (bV l)) : BlIn (fun b => B ≤ b ∧ v.ownBlock = some b) w v l := by
  rcases h.2 with ⟨rfl, h0⟩ | ⟨g, cap, cur, rfl, hB, hg, hnc, hcm, hcs, htake⟩
  · have : l = [] := List.length_eq_zero_iff.1 h0
    subst this
    exact BlIn.nil _ _
  · refine ⟨some ⟨g, 0, none⟩, cap, rfl, hnc, fun e => (by cases e), fun i hi => ⟨g, 0, rfl, (Array.getElem?_eq_some_iff.1 hg).1, ⟨hB, rfl⟩, fun j hj => ?_⟩⟩
    rw [Nat.zero_add, World.ownsRow.cellAt h _ (by omega)]
    simp [bV, hj]
/-- The slice value v is the call's own, its elements are the destinations, each one's bytes a row by themselves. -/
structure OwnR (w : World) (B : Nat) (v : Value) (ps : List RV) : Prop where
  row : w.ownsRow B 99 3 v ps.length (rrows ps)
  all : ∀ p ∈ ps, w.ownsRow B 5 1 p.2 p.1.all.length (bV p.1.all)
  apart : ∀ i j (hi : i < ps.length) (hj : j < ps.length), i ≠ j → ∀ b, ps[i].2.ownBlock = some b → ps[j].2.ownBlock ≠ some b
theorem OwnR.kind {w : World} {B : Nat} {v : Value} {ps : List RV} (h : OwnR w B v ps) {p : RV} (hp : p ∈ ps) {b : Nat} (k : p.2.ownBlock = some b) : v.ownBlock ≠ some b := fun e => by
  obtain ⟨c1, h1⟩ := kind_of h.row e
  obtain ⟨c2, h2⟩ := kind_of (h.all p hp) k
  rw [h1] at h2
  simp only [Option.some.injEq, Obj.cells.injEq] at h2
  exact absurd h2.2.1 (by decide)
theorem OwnR.keep {w w' : World} {B : Nat} {v : Value} {ps : List RV} (h : OwnR w B v ps) (k : ∀ b, B ≤ b → b < w.heap.size → (v.ownBlock = some b ∨ ∃ p ∈ ps, p.2.ownBlock = some b) → w'.heap[b]? = w.heap[b]?) : OwnR w' B v ps :=
  ⟨lown_keep h.row (fun g e => k g (lown_lt h.row e).2 (lown_lt h.row e).1 (.inl e)), fun p hp => lown_keep (h.all p hp) (fun g e => k g (lown_lt (h.all p hp) e).2 (lown_lt (h.all p hp) e).1 (.inr ⟨p, hp, e⟩)), h.apart⟩
theorem OwnR.below {w w' : World} {B : Nat} {v : Value} {ps : List RV} (h : OwnR w B v ps) (hb : Below w.heap.size w w') : OwnR w' B v ps := h.keep (fun b _ hl _ => hb.block b hl)
theorem OwnR.mono {w : World} {B B' : Nat} {v : Value} {ps : List RV} (h : OwnR w B v ps) (hB : B' ≤ B) : OwnR w B' v ps :=
  ⟨lown_mono h.row hB, fun p hp => lown_mono (h.all p hp) hB, h.apart⟩
/-- A block of another kind that is written. -/
theorem OwnR.other {w w' : World} {B N : Nat} {v : Value} {ps : List RV} (h : OwnR w B v ps) {cs : Array Value} {t : TypeId} (hN : w.heap[N]? = some (.cells cs t (0, 0))) (h1 : t ≠ 99) (h2 : t ≠ 5) (k : Kept (fun b => b ≠ N) w w') : OwnR w' B v ps :=
  h.keep (fun b _ _ hb => k.block b (fun e => by
    subst e
    rcases hb with hb | ⟨p, hp, hb⟩
    · obtain ⟨c1, hc⟩ := kind_of h.row hb
      rw [hN] at hc
      simp only [Option.some.injEq, Obj.cells.injEq] at hc
      exact h1 hc.2.1
    · obtain ⟨c1, hc⟩ := kind_of (h.all p hp) hb
      rw [hN] at hc
      simp only [Option.some.injEq, Obj.cells.injEq] at hc
      exact h2 hc.2.1))
theorem OwnR.view {w : World} {B : Nat} {v : Value} {ps : List RV} (h : OwnR w B v ps) : ∃ a cap, v = .slice a ps.length cap ∧ ps.length ≤ cap ∧ RsAt w a ps := by
  have hs : ∀ p ∈ ps, BlIn anyB w p.2 p.1.all := fun p hp => (own_bl (h.all p hp)).mono (fun _ _ _ => trivial)
  rcases h.row.2 with ⟨rfl, h0⟩ | ⟨g, cap, cur, rfl, hB, hg, hnc, hcm, hcs, htake⟩
  · have : ps = [] := List.length_eq_zero_iff.1 h0
    subst this
    exact ⟨none, 0, rfl, Nat.le_refl _, RsAt.nil _ _⟩
  · refine ⟨some ⟨g, 0, none⟩, cap, rfl, hnc, ⟨fun i hi => ⟨g, 0, rfl, (Array.getElem?_eq_some_iff.1 hg).1, fun j hj k u hu => ?_⟩, hs⟩⟩
    have hk : k < 3 := by
      have := (List.getElem?_eq_some_iff.1 hu).1
      rwa [rrow_len] at this
    rw [Nat.zero_add, World.ownsRow.cellAt h.row _ (by omega), rrows_at ps j k hj hk]
    exact hu
theorem OwnR.led {w : World} {B : Nat} {v : Value} {ps : List RV} (h : OwnR w B v ps) (first next : Nat) : RlAt w (.agg #[.int .u64 (first : Int), .int .u64 (next : Int), v]) ⟨first, next, ps.map Prod.fst⟩ := by
  obtain ⟨a, cap, rfl, hc, hd⟩ := h.view
  exact ⟨a, cap, ps, rfl, hc, rfl, hd⟩
theorem info_rdest : (Try.prog.info? 99).map (fun i => (i.zero, i.size, i.bytes)) = some (some (.agg #[.string ⟨#[]⟩, .int .u64 0, .slice none 0 0]), 3, 48) := by kernel_rfl
theorem rdests_under : Try.prog.underlying 29 = some (.slice 99) := by kernel_rfl
theorem u8_info10 : (Try.prog.info? 5).map (fun i => (i.zero, i.size, i.bytes)) = some (some (.int .u8 0), 1, 1) := by kernel_rfl
theorem u8s_under : Try.prog.underlying 97 = some (.slice 5) := by kernel_rfl
/-- 'append(own, x...)' of bytes that are read. -/
theorem app_b8 {w : World} {B n c : Nat} {v0 : Value} {l0 l : List Nat} {a : Option Addr} {X : Nat → Prop} (h : w.ownsRow B 5 1 v0 l0.length (bV l0)) (hB : B ≤ w.heap.size) (hs : BlIn X w (.slice a n c) l) (hn : n = l.length) (hl : l0.length + l.length ≤ 1000000000) (ty : TypeId) :
    ∃ v' w', (Builtin.append_ #[97, 97] ty #[v0, .slice a n c]).run Try.prog w = .ok v' w' ∧ w'.ownsRow B 5 1 v' (l0 ++ l).length (bV (l0 ++ l)) ∧ w.grownBy w' v0.ownBlock ∧ (v'.ownBlock = v0.ownBlock ∨ v'.ownBlock = some w.heap.size) := by
  subst hn
  obtain ⟨i0, hi, hz0, hz1, hz2⟩ := info_parts u8_info10
  obtain ⟨a', c', e1, _, hz, hu⟩ := hs
  simp only [Value.slice.injEq] at e1
  obtain ⟨rfl, _, rfl⟩ := e1
  cases a with
  | none =>
    have hc0 := hz rfl
    subst hc0
    have hl0 : l = [] := by
      cases l with
      | nil => rfl
      | cons x r =>
        obtain ⟨b, off, ha, _⟩ := hu 0 (by simp)
        cases ha
    subst hl0
    refine ⟨v0, w, run_append_owned_none (P := Try.prog) (w := w) B 97 ty 5 i0 1 u8s_under hi v0 _ _ h, ?_, ⟨rfl, rfl, rfl, Nat.le_refl _, fun _ _ _ => rfl⟩, .inl rfl⟩
    rw [List.append_nil]; exact h
  | some x =>
    obtain ⟨v', w', hr, ho, hg, hob⟩ := Ldg.app_own w B 97 ty 5 i0 _ 1 1 u8s_under hi hz0 hz1 hz2 rfl (by decide) v0 l0.length (bV l0) h x l.length c (bV l) (by rw [bV_len, Nat.mul_one]) hu.cells (bV_one l) (by unfold maxLen; omega) (by omega) hB
    refine ⟨v', w', hr, ?_, hg, hob⟩
    rw [List.length_append, bV_app]
    exact ho
/-- One destination more. -/
theorem OwnR.app {w : World} {B : Nat} {v : Value} {ps : List RV} (h : OwnR w B v ps) (hB : B ≤ w.heap.size) (hn : ps.length ≤ 1000000) (ty : TypeId) (b : Nat) (nm : ByteArray) (s : Nat) (al : List Nat) (sv : Value) (hq : w.heap[b]? = some (.cells #[.string nm, .int .u64 (s : Int), sv] 99 (0, 0)))
    (hal : w.ownsRow B 5 1 sv al.length (bV al)) (hap : ∀ p ∈ ps, ∀ x, p.2.ownBlock = some x → sv.ownBlock ≠ some x) :
    ∃ (ea : Option Addr) (ec : Nat) (w' : World), (Builtin.append_ #[29, 29] ty #[v, .slice (some ⟨b, 0, none⟩) 1 1]).run Try.prog w = .ok (.slice ea (ps.length + 1) ec) w' ∧
      OwnR w' B (.slice ea (ps.length + 1) ec) (ps ++ [(⟨nm, s, al⟩, sv)]) ∧ w.grownBy w' v.ownBlock := by
  obtain ⟨i0, hi, hz0, hz1, hz2⟩ := info_parts info_rdest
  obtain ⟨v', w', hr, ho, hg, hob⟩ := Ldg.app_own w B 29 ty 99 i0 _ 3 48 rdests_under hi hz0 hz1 hz2 rfl (by decide) v ps.length (rrows ps) h.row ⟨b, 0, none⟩ 1 1 (rrow (⟨nm, s, al⟩, sv)) rfl
    (fun j u hu => by rw [Addr.add_lit, Nat.zero_add]; exact lcell_of hq j (by simpa [rrow] using hu)) (fun u hu => by
      obtain ⟨a', c', hv, _⟩ := lown_slice hal
      simp only [rrow, hv, List.mem_cons, List.not_mem_nil, or_false] at hu
      rcases hu with rfl | rfl | rfl <;> rfl) (by unfold maxLen; omega) (by omega) hB
  obtain ⟨ea, ec, hve, _⟩ := lown_slice ho
  subst hve
  have hkeep : ∀ p : RV, (∃ al : List Nat, w.ownsRow B 5 1 p.2 al.length (bV al)) → ∀ g, p.2.ownBlock = some g → w'.heap[g]? = w.heap[g]? := fun p hp g hgp => by
    obtain ⟨al', hal'⟩ := hp
    refine hg.block g (lown_lt hal' hgp).1 (fun e => ?_)
    obtain ⟨c1, h1⟩ := kind_of h.row e.symm
    obtain ⟨c2, h2⟩ := kind_of hal' hgp
    rw [h1] at h2
    simp only [Option.some.injEq, Obj.cells.injEq] at h2
    exact absurd h2.2.1 (by decide)
  refine ⟨ea, ec, w', hr, ⟨?_, fun p hp => ?_, fun i j hi hj hij x hx => ?_⟩, hg⟩
  · rw [List.length_append, rrows_app]
    have : rrows [((⟨nm, s, al⟩, sv) : RV)] = rrow (⟨nm, s, al⟩, sv) := by simp [rrows]
    rw [this]
    exact ho
  · rcases List.mem_append.1 hp with hp | hp
    · exact lown_keep (h.all p hp) (hkeep p ⟨_, h.all p hp⟩)
    · rw [List.mem_singleton.1 hp]
      exact lown_keep hal (hkeep (⟨nm, s, al⟩, sv) ⟨al, hal⟩)
  · have hi' : i < ps.length + 1 := by simpa using hi
    have hj' : j < ps.length + 1 := by simpa using hj
    by_cases ei : i < ps.length
    · rw [List.getElem_append_left ei] at hx
      by_cases ej : j < ps.length
      · rw [List.getElem_append_left ej]
        exact h.apart i j ei ej hij x hx
      · have ej2 : j = ps.length := by omega
        subst ej2
        simp only [List.getElem_concat_length]
        exact hap _ (List.getElem_mem ei) x hx
    · have ei2 : i = ps.length := by omega
      subst ei2
      simp only [List.getElem_concat_length] at hx
      rw [List.getElem_append_left (by omega)]
      exact fun e => hap _ (List.getElem_mem _) x e hx
end Go.Proofs.Ytjbdofjheeljkaa
namespace Go.Proofs.Ytjbdofjheeljkaa
open Go.RowKit
open Ldg (De Le Rd Rl)

theorem grown_bel {w w' : World} {row : Option Nat} {B : Nat} (h : w.grownBy w' row) (hB : B ≤ w.heap.size) (k : ∀ g, row = some g → B ≤ g) : Below B w w' := (Below.refl B w).grown h hB k
theorem empty_b8 (w : World) (B : Nat) (hB : B ≤ w.heap.size) : (w.alloc (.cells #[] 5)).ownsRow B 5 1 (.slice (some ⟨w.heap.size, 0, none⟩) 0 0) 0 (bV []) :=
  ⟨rfl, .inr ⟨w.heap.size, 0, #[], rfl, hB, by show (w.heap.push _)[w.heap.size]? = _; simp, Nat.le_refl _, Nat.zero_le _, rfl, rfl⟩⟩
set_option maxRecDepth 100000 in
set_option maxHeartbeats 1600000 in
theorem rcopied_any {w : World} {v : Value} {R : Rl} (h : RlAt w v R) (hm4 : R.dests.length ≤ 4) (hs : ∀ d ∈ R.dests, d.all.length ≤ 100000000) :
    Calls Try.prog 74 #[v] w fun e w' => ∃ ea n ec ps, e = .returned (.agg #[.int .u64 (R.first : Int), .int .u64 (R.next : Int), .slice ea n ec]) ∧ n = ps.length ∧ ps.map Prod.fst = R.dests ∧ OwnR w' w.heap.size (.slice ea n ec) ps ∧ Below w.heap.size w w' := by
  obtain ⟨a, c, qs, rfl, hc, hd, hds⟩ := h
  have hsm : ∀ k (hk : k < qs.length), qs[k].1.all.length ≤ 100000000 := fun k hk => hs _ (by rw [hd]; exact List.mem_map_of_mem (List.getElem_mem hk))
  rw [hd, List.length_map] at hm4
  obtain ⟨m, hm⟩ : ∃ m, qs.length = m := ⟨_, rfl⟩
  rw [hm] at hc hm4 ⊢
  have HM := hide hm
  have HD := hide hd
  have HDS := hide hds
  have HSM := hide hsm
  obtain ⟨wA, hwA⟩ : ∃ W, (w.alloc (.cells #[.int .u64 (R.first : Int), .int .u64 (R.next : Int), .slice a m c] 31)).alloc (.cells #[.int .u64 0, .int .u64 0, .slice none 0 0] 31) = W := ⟨_, rfl⟩
  have hA0 : wA.heap[w.heap.size]? = some (.cells #[.int .u64 (R.first : Int), .int .u64 (R.next : Int), .slice a m c] 31 (0, 0)) := by rw [← hwA]; exact two_old w _ _
  have hA1 : wA.heap[w.heap.size + 1]? = some (.cells #[.int .u64 0, .int .u64 0, .slice none 0 0] 31 (0, 0)) := by rw [← hwA]; exact two_new w _ _
  have hAs : wA.heap.size = w.heap.size + 2 := by rw [← hwA]; simp
  have hAb : Below w.heap.size w wA := by rw [← hwA]; exact ((Below.refl w.heap.size w).alloc (Nat.le_refl _) _).alloc (by simp) _
  obtain ⟨N, hN⟩ : ∃ N, wA.heap.size = N := ⟨_, rfl⟩
  obtain ⟨wZ, hwZ⟩ : ∃ W, wA.alloc (.cells #[.int .u64 (R.first : Int), .int .u64 (R.next : Int), .slice none 0 0] 31) = W := ⟨_, rfl⟩
  have hZb : Below wA.heap.size wA wZ := by rw [← hwZ]; exact (Below.refl _ _).alloc (Nat.le_refl _) _
  have hZ2 : wZ.heap[N]? = some (.cells #[.int .u64 (R.first : Int), .int .u64 (R.next : Int), .slice none 0 0] 31 (0, 0)) := by
    rw [← hwZ, ← hN]; show (wA.heap.push _)[wA.heap.size]? = _; simp
  have hZs : wZ.heap.size = N + 1 := by rw [← hwZ]; simp [hN]
  obtain ⟨wB, hwB⟩ : ∃ W, wZ.setCell ⟨N, 2, none⟩ (.slice none 0 0) = W := ⟨_, rfl⟩
  have hBb : Below wA.heap.size wA wB := by rw [← hwB]; exact hZb.setCell (p := ⟨N, 2, none⟩) (by show wA.heap.size ≤ N; omega) _
  have hB0 := (hBb.block w.heap.size (by omega)).trans hA0
  have hB1 := (hBb.block (w.heap.size + 1) (by omega)).trans hA1
  have hB2 : wB.heap[N]? = some (.cells #[.int .u64 (R.first : Int), .int .u64 (R.next : Int), .slice none 0 0] 31 (0, 0)) := by
    rw [← hwB]; exact box_set hZ2 _
  have hBs : wB.heap.size = N + 1 := by rw [← hwB]; simp [World.setCell, hZs]
  have b2 := lcell_of hZ2 2 rfl
  have bf := lfrozen_of hZ2
  have a0 := lcell_of hA0 0 rfl
  have a1 := lcell_of hA0 1 rfl
  have HB0 := hide hB0
  have HB1 := hide hB1
  have HB2 := hide hB2
  have HBB := hide (bl hAb hBb)
  have HBS := hide hBs
  have hNw : N = w.heap.size + 2 := by omega
  have HNW := hide hNw
  clear hm hd hds hsm hs hA0 hA1 hAs hAb hBb hB0 hB1 hB2 hBs hNw hZb hZ2 hZs
  go_enter Try.func74, Try.ntmps74
  go_wp2_with fail
  clear hwA hwB hwZ a0 a1 b2 bf
  go_loopw [4] (fun vi wr => ∃ (k : Nat) (ps : List RV) (ea : Option Addr) (ec : Nat), k ≤ m ∧ vi = .int .i64 (k : Int) ∧ ps.length = k ∧ ps.map Prod.fst = (qs.take k).map Prod.fst ∧ OwnR wr (N + 1) (.slice ea k ec) ps ∧ Below w.heap.size w wr ∧ N < wr.heap.size ∧
      wr.heap[w.heap.size]? = some (.cells #[.int .u64 (R.first : Int), .int .u64 (R.next : Int), .slice a m c] 31 (0, 0)) ∧ wr.heap[w.heap.size + 1]? = some (.cells #[.int .u64 0, .int .u64 0, .slice none 0 0] 31 (0, 0)) ∧
      wr.heap[N]? = some (.cells #[.int .u64 (R.first : Int), .int .u64 (R.next : Int), .slice ea k ec] 31 (0, 0)))
    (fun vi _ => m - (intOf vi).toNat)
  case atStart => exact ⟨0, [], none, 0, Nat.zero_le _, rfl, rfl, rfl, ⟨World.ownsRow_nil _ _ _ _, fun p hp => by simp at hp, fun i j hi => by simp at hi⟩, HBB.out, by have := HBS.out; omega, HB0.out, HB1.out, HB2.out⟩
  case round =>
    obtain ⟨k, ps, ea, ec, hk, rfl, hpl, hpf, hown, hnx, hNs, hp0, hp1, hp2⟩ := hrel
    have HPF := hide hpf
    have HPL := hide hpl
    have HB := hide hnx
    have HO := hide hown
    have HP0 := hide hp0
    have HP1 := hide hp1
    have HP2 := hide hp2
    have HNS := hide hNs
    have c2 := lcell_of hp0 2 rfl
    by_cases hlt : k < m
    · clear hown hnx hNs hp0 hp1 hp2
      go_wp2_with fail
      clear c2
      refine wp_region_growK (fun x => x < N + 1) [([0, 1, 2, 3, 4, 5, 6, 7, 8, 9, 10, 11, 12, 13, 15, 16, 17, 18, 19, 20], 14), ([], 21), ([22], 23), ([], 24)] [] [25, 26] (by kernel_rfl) (by kernel_rfl) (by kernel_rfl) (by kernel_rfl) ?_
      intro wq hbq
      simp only [stagesOfK, getLK, pickLK]
      have hown := HO.out.below hbq
      have hnx := bl HB.out hbq
      have hNs : N < wq.heap.size := by have := hbq.size; have := HNS.out; omega
      have hp0 := (hbq.block _ (by have := HNS.out; have := HNW.out; omega)).trans HP0.out
      have hp1 := (hbq.block _ (by have := HNS.out; have := HNW.out; omega)).trans HP1.out
      have hp2 := (hbq.block _ HNS.out).trans HP2.out
      have c2 := lcell_of hp0 2 rfl
      obtain ⟨b, off, nm, s, al, va, vc, rfl, hbl, hz, hsl, g0, g1, g2⟩ := HDS.out.get hnx (k := k) (by have := HM.out; omega)
      have hal := HSM.out k (by have := HM.out; omega)
      rw [hz] at hal
      simp only at hal
      have hbl2 : b < wq.heap.size := Nat.lt_of_lt_of_le hbl hnx.size
      have hbN : b < N + 1 := by have := HNW.out; omega
      have hws : w.heap.size < wq.heap.size := by have := HNW.out; omega
      obtain ⟨ln, hln⟩ : ∃ x, al.length = x := ⟨_, rfl⟩
      obtain ⟨S, hS⟩ : ∃ S, wq.heap.size = S := ⟨_, rfl⟩
      obtain ⟨wa, hwa⟩ : ∃ W, wq.alloc (.cells #[] 5) = W := ⟨_, rfl⟩
      have ka : Below wq.heap.size wq wa := by rw [← hwa]; exact (Below.refl _ _).alloc (Nat.le_refl _) _
      have sa : wa.heap.size = S + 1 := by rw [← hwa]; simp [hS]
      have hemp : wa.ownsRow (N + 1) 5 1 (.slice (some ⟨S, 0, none⟩) 0 0) 0 (bV []) := by rw [← hwa, ← hS]; exact empty_b8 wq (N + 1) (by omega)
      obtain ⟨sv, wb, hap1, hob1, hgb1, hsb1⟩ := app_b8 (l0 := []) hemp (by omega) (hsl.below ka) rfl (by simp; omega) 78
      rw [List.nil_append] at hob1
      rw [hln] at hap1 g2
      obtain ⟨sva, svc, hsv, _⟩ := lown_slice hob1
      rw [hln] at hsv
      subst hsv
      have kb0 : Below S wa wb := grown_bel hgb1 (by omega) (fun g e => by have := Option.some.inj e; simp at this; omega)
      have kb : Below wq.heap.size wq wb := ka.trans (by rw [hS]; exact kb0)
      have hsvb : ∀ x, (Value.slice sva ln svc).ownBlock = some x → S ≤ x := fun x hx => by
        rcases hsb1 with e | e
        · rw [e] at hx; have := Option.some.inj hx; simp at this; omega
        · rw [e] at hx; have := Option.some.inj hx; omega
      obtain ⟨Q, hQ⟩ : ∃ Q, wb.heap.size = Q := ⟨_, rfl⟩
      have sQ : S + 1 ≤ Q := by have := kb0.size; omega
      obtain ⟨wc, hwc⟩ : ∃ W, wb.alloc (.cells #[.string nm, .int .u64 (s : Int), .slice sva ln svc] 99) = W := ⟨_, rfl⟩
      have kc0 : Below wb.heap.size wb wc := by rw [← hwc]; exact (Below.refl _ _).alloc (Nat.le_refl _) _
      have kc := kb.trans (kc0.mono kb.size)
      have sc : wc.heap.size = Q + 1 := by rw [← hwc]; simp [hQ]
      have hqc : wc.heap[Q]? = some (.cells #[.string nm, .int .u64 (s : Int), .slice sva ln svc] 99 (0, 0)) := by
        rw [← hwc, ← hQ]; show (wb.heap.push _)[wb.heap.size]? = _; simp
      have hobc : wc.ownsRow (N + 1) 5 1 (.slice sva ln svc) al.length (bV al) := lown_keep hob1 (fun g e => kc0.block g (lown_lt hob1 e).1)
      have hownc := hown.below kc
      obtain ⟨ea2, ec2, wd, hap2, hod, hgd⟩ := hownc.app (by omega) (by omega) 29 Q nm s al (.slice sva ln svc) hqc hobc (fun p hp x hx e => by
        have h1 := (lown_lt (hown.all p hp) hx).1
        have h2 := hsvb x e
        omega)
      rw [hpl] at hap2 hod
      have hrowN : ∀ g, (Value.slice ea k ec).ownBlock = some g → g ≠ N ∧ N + 1 ≤ g := fun g e => by have := (lown_lt hown.row e).2; exact ⟨by omega, this⟩
      have kd0 : Below (N + 1) wc wd := grown_bel hgd (by omega) (fun g e => (hrowN g e).2)
      have kd : Below (N + 1) wq wd := (kc.mono (by omega)).trans kd0
      have p0d := (kd.block w.heap.size (by have := HNW.out; omega)).trans hp0
      have p1d := (kd.block (w.heap.size + 1) (by have := HNW.out; omega)).trans hp1
      have p2d := (kd.block N (by omega)).trans hp2
      obtain ⟨we, hwe⟩ : ∃ W, wd.setCell ⟨N, 2, none⟩ (.slice ea2 (k + 1) ec2) = W := ⟨_, rfl⟩
      have ke : Kept (fun x => x ≠ N) wd we := by rw [← hwe]; exact Kept.setCell (Kept.refl _ _) (fun _ h e => h e) _
      have p2e : we.heap[N]? = some (.cells #[.int .u64 (R.first : Int), .int .u64 (R.next : Int), .slice ea2 (k + 1) ec2] 31 (0, 0)) := by rw [← hwe]; exact box_set p2d _
      have p0e := (ke.block w.heap.size (by have := HNW.out; omega)).trans p0d
      have p1e := (ke.block (w.heap.size + 1) (by have := HNW.out; omega)).trans p1d
      have hoe := hod.other p2d (by decide) (by decide) ke
      have hbe : Below w.heap.size w we := (hnx.trans (kd.mono (by have := HNW.out; omega))).trans (ke.bel (fun b hb => by have := HNW.out; omega))
      have hse : N < we.heap.size := by have := ke.size; have := kd.size; omega
      have hmap : (ps ++ [((⟨nm, s, al⟩, .slice sva ln svc) : RV)]).map Prod.fst = (qs.take (k + 1)).map Prod.fst := by
        rw [List.map_append, HPF.out, List.take_succ_eq_append_getElem (by have := HM.out; omega), List.map_append, List.map_singleton, List.map_singleton, hz]
      have HAP1 := hide hap1
      have HAP2 := hide hap2
      have HOE := hide hoe
      have HBE := hide hbe
      have HSE := hide hse
      have HMAP := hide hmap
      have P0E := hide p0e
      have P1E := hide p1e
      have P2E := hide p2e
      have hwN : w.heap.size < N + 1 := by have := HNW.out; omega
      have ka1 : Kept (fun x => x < N + 1) wq wa := Kept.of_below ka (fun x hx => by omega)
      have ka2 : Kept (fun x => x < N + 1) wa wb := Kept.of_below kb0 (fun x hx => by omega)
      have ka3 : Kept (fun x => x < N + 1) wb wc := Kept.of_below kc0 (fun x hx => by omega)
      have ka4 : Kept (fun x => x < N + 1) wc wd := Kept.of_below kd0 (fun x hx => hx)
      have d2 := lcell_of hp2 2 rfl
      have ed2 := lcell_of p2d 2 rfl
      have ef := lfrozen_of p2d
      have inh : Nonempty (GrK (fun x => x < N + 1) wq) := GrK.some _ wq
      have z1 := fun z : GrK (fun x => x < N + 1) wq => z.cell (a := ⟨w.heap.size, 2, none⟩) hwN c2
      have z2 := fun z : GrK (fun x => x < N + 1) wq => z.cell (a := ⟨N, 2, none⟩) (Nat.lt_succ_self N) d2
      have z3 := fun z : GrK (fun x => x < N + 1) wq => z.cell (a := ⟨b, off + k * 3, none⟩) hbN g0
      have z4 := fun z : GrK (fun x => x < N + 1) wq => z.cell (a := ⟨b, off + k * 3 + 1, none⟩) hbN g1
      have z5 := fun z : GrK (fun x => x < N + 1) wq => z.cell (a := ⟨b, off + k * 3 + 2, none⟩) hbN g2
      clear hpl hpf hown hnx hNs hp0 hp1 hp2 ka kb0 kb kc0 kc hqc hobc hownc hod hgd kd0 kd p0d p1d p2d ke p2e p0e p1e hoe hbe hse hmap hap1 hap2 hob1 hgb1 hsb1 hemp hsl hz hsvb hrowN hln hbq c2 d2 g0 g1 g2
      refine wpG_stageK ?_
      repeat (go_big_quiet_step (fail))
      refine wpQuiet_nil ?_
      clear z1 z2 z3 z4 z5 inh
      go_wp2_with fail
      refine OnToK.mk ka1 (Sub.refl _) ?_
      refine wpG_stageK (wpQuiet_nil ?_)
      go_wp2_with (at_builtin; refine Ldg.wpList_app_run rfl _ _ _ _ rfl rfl rfl HAP1.out ?_)
      go_wp2_with fail
      refine OnToK.mk ka2 (Sub.refl _) ?_
      have inh : Nonempty (GrK (fun x => x < N + 1) wb) := GrK.some _ wb
      refine wpG_stageK ?_
      repeat (go_big_quiet_step (fail))
      refine wpQuiet_nil ?_
      clear inh
      go_wp2_with fail
      refine OnToK.mk ka3 (Sub.refl _) ?_
      refine wpG_stageK (wpQuiet_nil ?_)
      go_wp2_with (at_builtin; refine Ldg.wpList_app_run rfl _ _ _ _ rfl rfl rfl HAP2.out ?_)
      go_wp2_with fail
      refine OnToK.mk ka4 (Sub.refl _) ?_
      refine wpG_lastK (wpQuiet_nil ?_)
      go_wp2_with fail
      go_roundw
      case rel => exact ⟨k + 1, ps ++ [(⟨nm, s, al⟩, .slice sva ln svc)], ea2, ec2, by omega, by go_num, by rw [List.length_append, HPL.out]; rfl, HMAP.out, HOE.out, HBE.out, HSE.out, P0E.out, P1E.out, P2E.out⟩
      case measure => simp [intOf]; omega
    · have hkm : k = m := by omega
      subst hkm
      have d0 := lcell_of hp2 0 rfl
      have d1 := lcell_of hp2 1 rfl
      have d2 := lcell_of hp2 2 rfl
      have t0 := lcell_of hp1 0 rfl
      have t1 := lcell_of hp1 1 rfl
      have t2 := lcell_of hp1 2 rfl
      have ft := lfrozen_of hp1
      clear hpl hpf hown hnx hNs hp0 hp1 hp2
      go_wp2_with fail
      refine bodyPost_ret (v := .agg #[.int .u64 (R.first : Int), .int .u64 (R.next : Int), .slice ea k ec]) (by simp [results, Try.results74, go_sem, t0, t1, t2]) rfl ?_
      have hk3 := kept3 wr (w.heap.size + 1) (.int .u64 (R.first : Int)) (.int .u64 (R.next : Int)) (.slice ea k ec)
      refine ⟨ea, k, ec, ps, rfl, HPL.out.symm, ?_, (HO.out.other HP1.out (by decide) (by decide) hk3).mono (by have := HNW.out; omega), HB.out.trans (hk3.bel (fun b hb => by omega))⟩
      rw [HPF.out, HD.out, List.take_of_length_le (by have := HM.out; omega)]
end Go.Proofs.Ytjbdofjheeljkaa
namespace Go.Proofs.Ytjbdofjheeljkaa
open Go.RowKit
open Ldg (De Le Rd Rl)

theorem rown_some {w : World} {B n c : Nat} {ea : Option Addr} {ps : List RV} (h : OwnR w B (.slice ea n c) ps) (hn : 0 < ps.length) : ∃ g, ea = some ⟨g, 0, none⟩ ∧ n = ps.length ∧ B ≤ g ∧ g < w.heap.size := by
  rcases h.row.2 with ⟨_, h0⟩ | ⟨g, cap, cur, e, hB, hg, _⟩
  · omega
  · simp only [Value.slice.injEq] at e
    exact ⟨g, e.1, e.2.1, hB, (Array.getElem?_eq_some_iff.1 hg).1⟩
theorem OwnR.get {w : World} {B g n c : Nat} {ps : List RV} (h : OwnR w B (.slice (some ⟨g, 0, none⟩) n c) ps) {k : Nat} (hk : k < ps.length) :
    ∃ nm s al va vc, ps[k] = (⟨nm, s, al⟩, .slice va al.length vc) ∧ w.cell? ⟨g, k * 3, none⟩ = some (.string nm) ∧ w.cell? ⟨g, k * 3 + 1, none⟩ = some (.int .u64 (s : Int)) ∧ w.cell? ⟨g, k * 3 + 2, none⟩ = some (.slice va al.length vc) ∧ (∀ j, w.frozen? ⟨g, j, none⟩ = false) := by
  have hn : n = ps.length := by
    rcases h.row.2 with ⟨h0, _⟩ | ⟨g', cap, cur, e1, _⟩
    · cases h0
    · simp only [Value.slice.injEq] at e1; exact e1.2.1
  subst hn
  rcases hp : ps[k] with ⟨⟨nm, s, al⟩, v⟩
  have ha := h.all ps[k] (List.getElem_mem hk)
  rw [hp] at ha
  obtain ⟨va, vc, hv, _⟩ := lown_slice ha
  have hv2 : v = .slice va al.length vc := hv
  clear hv
  subst hv2
  have hc : ∀ i u, i < 3 → (rrow ps[k])[i]? = some u → w.cell? ⟨g, k * 3 + i, none⟩ = some u := fun i u hi hu => by
    rw [World.ownsRow.cellAt h.row _ (by omega), rrows_at ps k i hk hi]; exact hu
  rw [hp] at hc
  exact ⟨nm, s, al, va, vc, rfl, hc 0 _ (by omega) rfl, hc 1 _ (by omega) rfl, hc 2 _ (by omega) rfl, fun j => h.row.frozenAt _⟩
theorem rrows_put : ∀ (ps : List RV) (k : Nat), k < ps.length → ∀ (nm : ByteArray) (s : Nat) (al : List Nat) (sv : Value),
    (((rrows ps).set (k * 3) (.string nm)).set (k * 3 + 1) (.int .u64 (s : Int))).set (k * 3 + 2) sv = rrows (ps.set k (⟨nm, s, al⟩, sv))
  | p :: r, 0, _, nm, s, al, sv => by simp [rrows, rrow, List.set]
  | p :: r, k + 1, h, nm, s, al, sv => by
    have ih := rrows_put r k (by simpa using h) nm s al sv
    simp only [rrows] at ih
    rw [Nat.succ_mul]
    simp only [rrows, rrow, List.flatMap_cons, List.cons_append, List.nil_append, List.set_cons_succ]
    rw [← ih]
/-- One destination has other bytes: their row has grown, and the destination is written back. -/
theorem OwnR.regrow {w w' : World} {B g n c : Nat} {ps : List RV} (h : OwnR w B (.slice (some ⟨g, 0, none⟩) n c) ps) {k : Nat} (hk : k < ps.length) (nm : ByteArray) (s : Nat) (al : List Nat) (v' : Value)
    (hkp : ∀ b, b < w.heap.size → ps[k].2.ownBlock ≠ some b → w'.heap[b]? = w.heap[b]?) (hv : w'.ownsRow B 5 1 v' al.length (bV al)) (hob : v'.ownBlock = ps[k].2.ownBlock ∨ ∀ x, v'.ownBlock = some x → w.heap.size ≤ x) :
    OwnR (((w'.setCell ⟨g, k * 3, none⟩ (.string nm)).setCell ⟨g, k * 3 + 1, none⟩ (.int .u64 (s : Int))).setCell ⟨g, k * 3 + 2, none⟩ v') B (.slice (some ⟨g, 0, none⟩) n c) (ps.set k (⟨nm, s, al⟩, v')) := by
  have hn : n = ps.length := by
    rcases h.row.2 with ⟨h0, _⟩ | ⟨g', cap, cur, e1, _⟩
    · cases h0
    · simp only [Value.slice.injEq] at e1; exact e1.2.1
  subst hn
  have hkg : ps[k].2.ownBlock ≠ some g := fun e => h.kind (List.getElem_mem hk) e rfl
  have hrow := lown_keep h.row (w' := w') (fun x e => hkp x (lown_lt h.row e).1 (fun e2 => by
    have : g = x := Option.some.inj e
    subst this
    exact hkg e2))
  have hgv : ∀ x, v'.ownBlock = some x → x ≠ g := fun x hx e => by
    subst e
    obtain ⟨c1, h1⟩ := kind_of hrow (g := x) rfl
    obtain ⟨c2, h2⟩ := kind_of hv hx
    rw [h1] at h2
    simp only [Option.some.injEq, Obj.cells.injEq] at h2
    exact absurd h2.2.1 (by decide)
  have h3 : ∀ b, b ≠ g → (((w'.setCell ⟨g, k * 3, none⟩ (.string nm)).setCell ⟨g, k * 3 + 1, none⟩ (.int .u64 (s : Int))).setCell ⟨g, k * 3 + 2, none⟩ v').heap[b]? = w'.heap[b]? := fun b hb => by
    repeat rw [Below.heap_setCell _ _ _ _ hb]
  refine ⟨?_, fun p hp => ?_, fun i j hi hj hij x hx => ?_⟩
  · rw [List.length_set, ← rrows_put ps k hk nm s al v']
    exact lown_set (lown_set (lown_set hrow _ _) _ _) _ _
  · obtain ⟨i, hi, rfl⟩ := List.mem_iff_getElem.1 hp
    have hi' : i < ps.length := by simpa using hi
    by_cases e : k = i
    · subst e
      rw [List.getElem_set_self]
      exact lown_keep hv (fun x hx => h3 x (hgv x hx))
    · rw [List.getElem_set_ne e]
      have ha := h.all ps[i] (List.getElem_mem hi')
      refine lown_keep ha (fun x hx => ?_)
      have hxg : x ≠ g := fun e2 => h.kind (List.getElem_mem hi') hx (by rw [e2]; rfl)
      exact (h3 x hxg).trans (hkp x (lown_lt ha hx).1 (fun e2 => h.apart k i hk hi' e x e2 hx))
  · have hi' : i < ps.length := by simpa using hi
    have hj' : j < ps.length := by simpa using hj
    by_cases ei : k = i
    · subst ei
      rw [List.getElem_set_self] at hx
      rw [List.getElem_set_ne hij]
      rcases hob with e | e
      · rw [e] at hx
        exact h.apart k j hk hj' hij x hx
      · have h1 := e x hx
        exact fun e2 => by have := (lown_lt (h.all ps[j] (List.getElem_mem hj')) e2).1; omega
    · rw [List.getElem_set_ne ei] at hx
      by_cases ej : k = j
      · subst ej
        rw [List.getElem_set_self]
        rcases hob with e | e
        · rw [e]; exact h.apart i k hi' hk hij x hx
        · exact fun e2 => by have h1 := e x e2; have := (lown_lt (h.all ps[i] (List.getElem_mem hi')) hx).1; omega
      · rw [List.getElem_set_ne ej]
        exact h.apart i j hi' hj' hij x hx
theorem rkept3 (w : World) (g k : Nat) (u0 u1 u2 : Value) : Kept (fun b => b ≠ g) w (((w.setCell ⟨g, k * 3, none⟩ u0).setCell ⟨g, k * 3 + 1, none⟩ u1).setCell ⟨g, k * 3 + 2, none⟩ u2) := by
  iterate 3 (refine Kept.setCell ?_ (fun _ h e => h e) _)
  exact Kept.refl _ _
structure RBox2 (w wA : World) (v0 v1 : Value) (a : Option Addr) (m c : Nat) : Prop where
  b0 : wA.heap[w.heap.size]? = some (.cells #[v0, v1, .slice a m c] 31 (0, 0))
  b1 : wA.heap[w.heap.size + 1]? = some (.cells #[.int .u64 0, .int .u64 0, .slice none 0 0] 31 (0, 0))
  bel : Below w.heap.size w wA
  size : w.heap.size + 1 < wA.heap.size
theorem RBox2.made (w : World) (v0 v1 : Value) (a : Option Addr) (m c : Nat) : RBox2 w ((w.alloc (.cells #[v0, v1, .slice a m c] 31)).alloc (.cells #[.int .u64 0, .int .u64 0, .slice none 0 0] 31)) v0 v1 a m c :=
  ⟨two_old w _ _, two_new w _ _, ((Below.refl w.heap.size w).alloc (Nat.le_refl _) _).alloc (by simp) _, by simp⟩
theorem RBox2.then {w wA w1 : World} {v0 v1 : Value} {a : Option Addr} {m c : Nat} (h : RBox2 w wA v0 v1 a m c) (hb : Below wA.heap.size wA w1) : RBox2 w w1 v0 v1 a m c :=
  ⟨(hb.block _ (by have := h.size; omega)).trans h.b0, (hb.block _ (by have := h.size; omega)).trans h.b1, bl h.bel hb, by have := h.size; have := hb.size; omega⟩
/-- What is told lies in a box of another kind than the rows. -/
theorem rled_told {w w1 wC : World} {BA first next : Nat} {v : Value} {ps : List RV} {cs : Array Value} (h : OwnR wC BA v ps) (ht : wC.heap[w.heap.size + 1]? = some (.cells cs 31 (0, 0))) (hb : Below w.heap.size w wC) (u0 u1 : Value) (e0 : u0 = .int .u64 (first : Int)) (e1 : u1 = .int .u64 (next : Int)) (hw1 : w1 = ((wC.setCell ⟨w.heap.size + 1, 0, none⟩ u0).setCell ⟨w.heap.size + 1, 1, none⟩ u1).setCell ⟨w.heap.size + 1, 2, none⟩ v) :
    RlAt w1 (.agg #[u0, u1, v]) ⟨first, next, ps.map Prod.fst⟩ ∧ Below w.heap.size w w1 := by
  subst e0 e1 hw1
  have hk := kept3 wC (w.heap.size + 1) (.int .u64 (first : Int)) (.int .u64 (next : Int)) v
  exact ⟨(h.other ht (by decide) (by decide) hk).led first next, hb.trans (hk.bel (fun b hb => by omega))⟩
theorem one_b8 (w : World) (x : Nat) : BlIn anyB (w.alloc (.cells #[.int .u8 (x : Int)] 5)) (.slice (some ⟨w.heap.size, 0, none⟩) 1 1) [x] :=
  ⟨_, 1, rfl, Nat.le_refl _, fun e => (by cases e), fun i hi => ⟨w.heap.size, 0, rfl, by simp, trivial, fun j hj => by
    have : j = 0 := by simpa using hj
    subst this
    simp⟩⟩
theorem map_set2 {ps : List RV} {k : Nat} {d : Rd} {v : Value} : (ps.set k (d, v)).map Prod.fst = (ps.map Prod.fst).set k d := by rw [List.map_set]
set_option maxRecDepth 100000 in
set_option maxHeartbeats 1600000 in
theorem radd_any {w : World} {v : Value} {R : Rl} (h : RlAt w v R) (hf : R.Ok) :
    Calls Try.prog 47 #[v] w fun e w' => ∃ rv, e = .returned rv ∧ RlAt w' rv R.add ∧ Below w.heap.size w w' := by
  have HRL := hide h
  obtain ⟨a, c, qs, rfl, hc, hd, hds⟩ := h
  have hmn := rmany_of hf hd
  have hnb := hf.nb
  have hall : ∀ d ∈ R.dests, d.all.length ≤ 10000000 := fun d hd => by have := (hf.each d hd).ends; omega
  obtain ⟨m, hm⟩ : ∃ m, qs.length = m := ⟨_, rfl⟩
  rw [hm] at hc hmn HRL ⊢
  have hlc := fun W (hW : Below w.heap.size w W) => rcopied_any (HRL.out.below hW) hf.many (fun d hd => by have := hall d hd; omega)
  have HLC := hide hlc
  have HALL := hide hall
  have HF := hide hf
  have hbx := RBox2.made w (.int .u64 (R.first : Int)) (.int .u64 (R.next : Int)) a m c
  have HBX := hide hbx
  clear hlc hm hds hd hf hc hbx hall
  go_enter Try.func47, Try.ntmps47
  go_wp2_with fail
  refine (HLC.out _ HBX.out.bel).mono ?_
  rintro e w1 ⟨ea, n', ec, ps, rfl, hnp, hps, hown, hb1⟩
  have HX1 := hide (HBX.out.then hb1)
  have hx1 := HX1.out
  have s1 := hx1.size
  obtain ⟨N, hN⟩ : ∃ N, w1.heap.size = N := ⟨_, rfl⟩
  obtain ⟨G, hG⟩ : ∃ G, ((w.alloc (.cells #[.int .u64 (R.first : Int), .int .u64 (R.next : Int), .slice a m c] 31)).alloc (.cells #[.int .u64 0, .int .u64 0, .slice none 0 0] 31)).heap.size = G := ⟨_, rfl⟩
  have hGw : G = w.heap.size + 2 := by rw [← hG]; simp
  rw [hG] at hown
  rw [hN] at s1
  obtain ⟨wB, hwB⟩ : ∃ W, w1.alloc (.cells #[.int .u64 (R.first : Int), .int .u64 (R.next : Int), .slice ea n' ec] 31) = W := ⟨_, rfl⟩
  have o0 : wB.heap[N]? = some (.cells #[.int .u64 (R.first : Int), .int .u64 (R.next : Int), .slice ea n' ec] 31 (0, 0)) := by
    rw [← hwB, ← hN]; show (w1.heap.push _)[w1.heap.size]? = _; simp
  have kB : Below w1.heap.size w1 wB := by rw [← hwB]; exact (Below.refl _ _).alloc (Nat.le_refl _) _
  obtain ⟨wC, hwC⟩ : ∃ W, wB.setCell ⟨N, 1, none⟩ (.int .u64 ((R.next : Int) + 1)) = W := ⟨_, rfl⟩
  have o1 : wC.heap[N]? = some (.cells #[.int .u64 (R.first : Int), .int .u64 ((R.next : Int) + 1), .slice ea n' ec] 31 (0, 0)) := by
    rw [← hwC]; exact box_set o0 _
  have kC : Below w1.heap.size w1 wC := by rw [← hwC]; exact kB.setCell (p := ⟨N, 1, none⟩) (by show w1.heap.size ≤ N; omega) _
  have t1 := (hx1.then kC).b1
  have sC : wC.heap.size = N + 1 := by rw [← hwC, ← hwB]; simp [World.setCell, hN]
  have x0 := lcell_of o0 0 rfl
  have x1 := lcell_of o0 1 rfl
  have x2 := lcell_of o0 2 rfl
  have fx := lfrozen_of o0
  have HOWN := hide (hown.below kC)
  have HBC := hide (bl hx1.bel kC)
  have HO1 := hide o1
  have HT1 := hide t1
  have HSC := hide sC
  have HPS := hide hps
  have HNP := hide hnp
  have HGW := hide hGw
  have hn4 : n' ≤ 4 := by
    have h2 := congrArg List.length hps
    rw [List.length_map] at h2
    have := HF.out.many
    omega
  clear hx1 hown hps hnp hb1 o0 o1 t1 kB kC sC hG hGw
  go_wp2_with fail
  clear x0 x1 x2 fx hwB hwC
  go_loopw [4] (fun vi wr => ∃ (k : Nat) (rs : List RV), k ≤ n' ∧ vi = .int .i64 (k : Int) ∧ rs.map Prod.fst = Ldg.upTo (fun d : Rd => { d with all := d.all ++ [112] }) k R.dests ∧ OwnR wr G (.slice ea n' ec) rs ∧ Below w.heap.size w wr ∧ N < wr.heap.size ∧
      wr.heap[N]? = some (.cells #[.int .u64 (R.first : Int), .int .u64 ((R.next : Int) + 1), .slice ea n' ec] 31 (0, 0)) ∧ wr.heap[w.heap.size + 1]? = some (.cells #[.int .u64 0, .int .u64 0, .slice none 0 0] 31 (0, 0)))
    (fun vi _ => n' - (intOf vi).toNat)
  case atStart => exact ⟨0, ps, Nat.zero_le _, rfl, by rw [Ldg.upTo_zero]; exact HPS.out, HOWN.out, HBC.out, by have := HSC.out; omega, HO1.out, HT1.out⟩
  case round =>
    obtain ⟨k, rs, hk, rfl, hrs, hown, hnx, hNs, ho, ht⟩ := hrel
    have hlr : rs.length = n' := by
      have h1 := congrArg List.length hrs
      have h2 := congrArg List.length HPS.out
      rw [List.length_map, Ldg.upTo_len] at h1
      rw [List.length_map] at h2
      have := HNP.out
      omega
    by_cases hlt : k < n'
    · obtain ⟨g, rfl, hnn, hBg, hgl⟩ := rown_some hown (by omega)
      clear hnn
      obtain ⟨nm, s, al, va, vc, hz, c0, c1, c2, fz⟩ := hown.get (k := k) (by omega)
      have hkd : k < R.dests.length := by
        have h1 := congrArg List.length hrs
        rw [List.length_map, Ldg.upTo_len] at h1
        omega
      have hrk : rs[k].1 = R.dests[k] := by
        have h1 : (rs.map Prod.fst)[k]'(by rw [List.length_map]; omega) = rs[k].1 := List.getElem_map _
        rw [← h1]
        simp only [hrs]
        exact Ldg.upTo_at _ hkd
      have hall := HALL.out _ (List.getElem_mem hkd)
      rw [← hrk, hz] at hall
      simp only at hall
      obtain ⟨ln, hln⟩ : ∃ x, al.length = x := ⟨_, rfl⟩
      obtain ⟨S, hS⟩ : ∃ S, wr.heap.size = S := ⟨_, rfl⟩
      have hab := hown.all rs[k] (List.getElem_mem (by omega))
      rw [hz] at hab
      simp only at hab
      obtain ⟨wD, hwD⟩ : ∃ W, wr.alloc (.cells #[.string nm, .int .u64 (s : Int), .slice va ln vc] 99) = W := ⟨_, rfl⟩
      have kD : Below wr.heap.size wr wD := by rw [← hwD]; exact (Below.refl _ _).alloc (Nat.le_refl _) _
      have sD : wD.heap.size = S + 1 := by rw [← hwD]; simp [hS]
      have bD : wD.heap[S]? = some (.cells #[.string nm, .int .u64 (s : Int), .slice va ln vc] 99 (0, 0)) := by
        rw [← hwD, ← hS]; show (wr.heap.push _)[wr.heap.size]? = _; simp
      obtain ⟨wO, hwO⟩ : ∃ W, wD.alloc (.cells #[.int .u8 112] 5) = W := ⟨_, rfl⟩
      have kO0 : Below wD.heap.size wD wO := by rw [← hwO]; exact (Below.refl _ _).alloc (Nat.le_refl _) _
      have kO : Below wr.heap.size wr wO := kD.trans (kO0.mono kD.size)
      have sO : wO.heap.size = S + 2 := by rw [← hwO]; simp [sD]
      have hone := one_b8 wD 112
      rw [show ((112 : Nat) : Int) = 112 from rfl, hwO, sD] at hone
      have habO : wO.ownsRow G 5 1 (.slice va al.length vc) al.length (bV al) := lown_keep hab (fun x e => kO.block x (lown_lt hab e).1)
      obtain ⟨v', wP, hap, hov, hgv, hobv⟩ := app_b8 habO (by omega) hone rfl (by simp; omega) 78
      obtain ⟨va2, vc2, hv2, hvc2⟩ := lown_slice hov
      clear hvc2
      subst hv2
      obtain ⟨ln2, hln2⟩ : ∃ x, (al ++ [112]).length = x := ⟨_, rfl⟩
      rw [hln] at hap c2
      rw [hln2] at hap
      have hob0 : ∀ x, (Value.slice va al.length vc).ownBlock = some x → x < S := fun x e => by have := (lown_lt hab e).1; omega
      have hkP : ∀ b, b < wr.heap.size → rs[k].2.ownBlock ≠ some b → wP.heap[b]? = wr.heap[b]? := fun b hb hne => (hgv.block b (by omega) (fun e => hne (by rw [hz]; exact e.symm))).trans (kO.block b hb)
      have bP : wP.heap[S]? = some (.cells #[.string nm, .int .u64 (s : Int), .slice va ln vc] 99 (0, 0)) := (hgv.block S (by omega) (fun e => by have := hob0 S e.symm; omega)).trans ((kO0.block S (by omega)).trans bD)
      obtain ⟨wQ, hwQ⟩ : ∃ W, wP.setCell ⟨S, 2, none⟩ (.slice va2 ln2 vc2) = W := ⟨_, rfl⟩
      have bQ : wQ.heap[S]? = some (.cells #[.string nm, .int .u64 (s : Int), .slice va2 ln2 vc2] 99 (0, 0)) := by rw [← hwQ]; exact box_set bP _
      have kQ : Kept (fun x => x ≠ S) wP wQ := by rw [← hwQ]; exact Kept.setCell (Kept.refl _ _) (fun _ h e => h e) _
      have hkQ : ∀ b, b < wr.heap.size → rs[k].2.ownBlock ≠ some b → wQ.heap[b]? = wr.heap[b]? := fun b hb hne => (kQ.block b (by omega)).trans (hkP b hb hne)
      have hovQ : wQ.ownsRow G 5 1 (.slice va2 (al ++ [112]).length vc2) (al ++ [112]).length (bV (al ++ [112])) := lown_keep hov (fun x e => kQ.block x (fun e2 => by
        subst e2
        obtain ⟨cc, hcc⟩ := kind_of hov e
        rw [bP] at hcc
        simp only [Option.some.injEq, Obj.cells.injEq] at hcc
        exact absurd hcc.2.1 (by decide)))
      have hre := hown.regrow (k := k) (by omega) nm s (al ++ [112]) _ hkQ hovQ (by
        rw [hz]
        rcases hobv with e | e
        · exact .inl e
        · refine .inr (fun x hx => ?_)
          rw [e] at hx
          have := Option.some.inj hx
          omega)
      rw [hln2] at hre
      have hrk3 := rkept3 wQ g k (.string nm) (.int .u64 (s : Int)) (.slice va2 ln2 vc2)
      have hgN : N ≠ g := fun e => by
        subst e
        obtain ⟨cc, hcc⟩ := kind_of hown.row (g := N) rfl
        rw [ho] at hcc
        simp only [Option.some.injEq, Obj.cells.injEq] at hcc
        exact absurd hcc.2.1 (by decide)
      have hbx : ∀ X cs, X < wr.heap.size → wr.heap[X]? = some (.cells cs 31 (0, 0)) → X ≠ g → (((wQ.setCell ⟨g, k * 3, none⟩ (.string nm)).setCell ⟨g, k * 3 + 1, none⟩ (.int .u64 (s : Int))).setCell ⟨g, k * 3 + 2, none⟩ (.slice va2 ln2 vc2)).heap[X]? = some (.cells cs 31 (0, 0)) ∧ wQ.heap[X]? = some (.cells cs 31 (0, 0)) := fun X cs hX hXc hXg => by
        have h1 := (hkQ X hX (fun e => by
          rw [hz] at e
          obtain ⟨cc, hcc⟩ := kind_of hab e
          rw [hXc] at hcc
          simp only [Option.some.injEq, Obj.cells.injEq] at hcc
          exact absurd hcc.2.1 (by decide))).trans hXc
        exact ⟨(hrk3.block X hXg).trans h1, h1⟩
      have hgB := HGW.out
      have hN2 := hbx N _ hNs ho hgN
      have hT2 := hbx (w.heap.size + 1) _ (by omega) ht (by omega)
      have hbel : Below w.heap.size w (((wQ.setCell ⟨g, k * 3, none⟩ (.string nm)).setCell ⟨g, k * 3 + 1, none⟩ (.int .u64 (s : Int))).setCell ⟨g, k * 3 + 2, none⟩ (.slice va2 ln2 vc2)) := by
        have b1 : Below w.heap.size wr wQ := ⟨kQ.os.trans (hgv.os.trans kO.os), kQ.tape.trans (hgv.tape.trans kO.tape), kQ.output.trans (hgv.output.trans kO.output), Nat.le_trans kO.size (Nat.le_trans hgv.size kQ.size), fun b hb => hkQ b (by omega) (fun e => by rw [hz] at e; have := (lown_lt hab e).2; omega)⟩
        exact (hnx.trans b1).trans (hrk3.bel (fun b hb => by omega))
      have hsz : N < (((wQ.setCell ⟨g, k * 3, none⟩ (.string nm)).setCell ⟨g, k * 3 + 1, none⟩ (.int .u64 (s : Int))).setCell ⟨g, k * 3 + 2, none⟩ (.slice va2 ln2 vc2)).heap.size := by have := hrk3.size; have := kQ.size; have := hgv.size; omega
      have hmap : (rs.set k (⟨nm, s, al ++ [112]⟩, .slice va2 ln2 vc2)).map Prod.fst = Ldg.upTo (fun d : Rd => { d with all := d.all ++ [112] }) (k + 1) R.dests := by
        rw [map_set2, hrs]
        have := Ldg.upTo_next (fun d : Rd => { d with all := d.all ++ [112] }) hkd
        rw [← hrk, hz] at this
        exact this
      have hgQ := hkQ g hgl (fun e => hown.kind (List.getElem_mem (by omega)) e rfl)
      have r0 := (World.cell?_of_block (w := wr) (a := ⟨g, k * 3, none⟩) hgQ).trans c0
      have r1 := (World.cell?_of_block (w := wr) (a := ⟨g, k * 3 + 1, none⟩) hgQ).trans c1
      have r2 := (World.cell?_of_block (w := wr) (a := ⟨g, k * 3 + 2, none⟩) hgQ).trans c2
      have rf : ∀ j, wQ.frozen? ⟨g, j, none⟩ = false := fun j => (World.frozen?_of_block (w := wr) (a := ⟨g, j, none⟩) hgQ).trans (fz j)
      have n2 := lcell_of ho 2 rfl
      have n2q := lcell_of hN2.2 2 rfl
      have D2 := lcell_of bD 2 rfl
      have P2 := lcell_of bP 2 rfl
      have Pf := lfrozen_of bP
      have Q0 := lcell_of bQ 0 rfl
      have Q1 := lcell_of bQ 1 rfl
      have Q2 := lcell_of bQ 2 rfl
      have HRE := hide hre
      have HMAP := hide hmap
      have HBEL := hide hbel
      have HSZ := hide hsz
      have HN2 := hide hN2.1
      have HT2 := hide hT2.1
      have HAP := hide hap
      clear hre hmap hbel hsz hN2 hT2 hap hrk hkd hall hab kD bD kO0 kO hone habO hov hgv hobv hob0 hkP bP bQ kQ hkQ hovQ hrk3 hgN hbx hgQ hown ho ht hrs hnx hln hln2 hz hlr
      go_wp2_with (at_builtin; refine Ldg.wpList_app_run rfl _ _ _ _ rfl rfl rfl HAP.out ?_)
      go_wp2_with fail
      go_roundw
      case rel => exact ⟨k + 1, _, by omega, by go_num, HMAP.out, HRE.out, HBEL.out, HSZ.out, HN2.out, HT2.out⟩
      case measure => simp [intOf]; omega
    · have hkn : k = n' := by omega
      subst hkn
      have c0 := lcell_of ho 0 rfl
      have c1 := lcell_of ho 1 rfl
      have c2 := lcell_of ho 2 rfl
      have d0 := lcell_of ht 0 rfl
      have d1 := lcell_of ht 1 rfl
      have d2 := lcell_of ht 2 rfl
      have fd := lfrozen_of ht
      have HO := hide hown
      have HB := hide hnx
      have HT := hide ht
      have hrs2 : rs.map Prod.fst = R.add.dests := by
        rw [hrs, Ldg.upTo_all]
        · rfl
        · have h2 := congrArg List.length hrs
          rw [List.length_map, Ldg.upTo_len] at h2
          omega
      have HRS := hide hrs2
      clear hrs hown hnx ho ht hrs2 hNs
      go_wp2_with fail
      refine bodyPost_ret (v := .agg #[.int .u64 (R.first : Int), .int .u64 ((R.next : Int) + 1), .slice ea k ec]) (by simp [results, Try.results47, go_sem, d0, d1, d2]) rfl ?_
      have hfin := rled_told (w := w) (first := R.first) (next := R.next + 1) HO.out HT.out HB.out (.int .u64 (R.first : Int)) (.int .u64 ((R.next : Int) + 1)) rfl (by simp) rfl
      rw [HRS.out] at hfin
      exact ⟨_, rfl, hfin⟩
end Go.Proofs.Ytjbdofjheeljkaa
namespace Go.Proofs.Ytjbdofjheeljkaa
open Go.RowKit
open Ldg (De Le Rd Rl)

/-- A ledger that is told, and an error. -/
def RTwoE (w : World) (r : Rl × Nat) (e : Ending) (w' : World) : Prop := ∃ rv, e = .returned (.tuple #[rv, .int .i64 (r.2 : Int)]) ∧ RlAt w' rv r.1 ∧ Below w.heap.size w w'
theorem rled_none (w : World) : RlAt w (.agg #[.int .u64 0, .int .u64 0, .slice none 0 0]) Rl.none := ⟨none, 0, [], rfl, Nat.le_refl _, rfl, RsAt.nil _ _⟩
theorem RTwoE.err {w w1 wA : World} {v0 v1 : Value} {a : Option Addr} {m c : Nat} (h : RBox2 w w1 v0 v1 a m c) (x : Nat) (hA : wA = ((w1.setCell ⟨w.heap.size + 1, 0, none⟩ (.int .u64 0)).setCell ⟨w.heap.size + 1, 1, none⟩ (.int .u64 0)).setCell ⟨w.heap.size + 1, 2, none⟩ (.slice none 0 0)) :
    RTwoE w (Rl.none, x) (.returned (.tuple #[.agg #[.int .u64 0, .int .u64 0, .slice none 0 0], .int .i64 (x : Int)])) wA :=
  ⟨_, rfl, rled_none _, by rw [hA]; exact h.bel.trans ((kept3 w1 (w.heap.size + 1) _ _ _).bel (fun b hb => by omega))⟩
set_option maxRecDepth 100000 in
set_option maxHeartbeats 1600000 in
theorem rjoin_any {w : World} {v : Value} {R : Rl} (h : RlAt w v R) (hf : R.Ok) (n : ByteArray) (hns : n.size ≤ 1000000000) :
    Calls Try.prog 48 #[v, .string n] w (RTwoE w (R.join n)) := by
  have HRL := hide h
  obtain ⟨a, c, qs, rfl, hc, hd, hds⟩ := h
  have hmn := rmany_of hf hd
  have hnb := hf.nb
  have hnm := rnames_eq hd
  have hall : ∀ d ∈ R.dests, d.all.length ≤ 10000000 := fun d hd => by have := (hf.each d hd).ends; omega
  obtain ⟨m, hm⟩ : ∃ m, qs.length = m := ⟨_, rfl⟩
  have hpl := fun W (hW : Below w.heap.size w W) => rplace_any (R.first : Int) (R.next : Int) a c qs n W (hds.below hW) (by omega)
  rw [hm] at hc hmn HRL hpl ⊢
  have hlc := fun W (hW : Below w.heap.size w W) => rcopied_any (HRL.out.below hW) hf.many (fun d hd => by have := hall d hd; omega)
  have HLC := hide hlc
  have HALL := hide hall
  have HF := hide hf
  have HPL := hide hpl
  have HD := hide hd
  have HDS := hide hds
  have HM := hide hm
  have HNM := hide hnm
  obtain ⟨wA, hwA⟩ : ∃ W, (w.alloc (.cells #[.int .u64 (R.first : Int), .int .u64 (R.next : Int), .slice a m c] 31)).alloc (.cells #[.int .u64 0, .int .u64 0, .slice none 0 0] 31) = W := ⟨_, rfl⟩
  have hbx := RBox2.made w (.int .u64 (R.first : Int)) (.int .u64 (R.next : Int)) a m c
  rw [hwA] at hbx
  have z0 := lcell_of hbx.b0 0 rfl
  have z1 := lcell_of hbx.b0 1 rfl
  have z2 := lcell_of hbx.b0 2 rfl
  have y0 := lcell_of hbx.b1 0 rfl
  have y1 := lcell_of hbx.b1 1 rfl
  have y2 := lcell_of hbx.b1 2 rfl
  have fy := lfrozen_of hbx.b1
  have HBX := hide hbx
  obtain ⟨T, hT⟩ : ∃ T, R.join n = T := ⟨_, rfl⟩
  rw [hT]
  unfold Rl.join Rl.names at hT
  rw [hnm] at hT
  have hdl : R.dests.length = m := by rw [hd, List.length_map, hm]
  rw [hdl] at hT
  have HDL := hide hdl
  obtain ⟨ib, hib⟩ : ∃ b, Lab.isName n = b := ⟨_, rfl⟩
  have hna := fun W => Ldg.refName_any n W (by omega)
  rw [hib] at hT hna
  have HNA := hide hna
  clear hlc hpl hm hds hd hf hc hbx hnm hib hna hdl hall
  cases ib with
  | false =>
    rw [if_pos rfl] at hT
    subst hT
    go_enter Try.func48, Try.ntmps48
    go_wp2_with fail
    refine (HNA.out _).mono ?_
    rintro e w1 ⟨rfl, rfl⟩
    go_wp2_with fail
    refine bodyPost_ret (v := .tuple #[.agg #[.int .u64 0, .int .u64 0, .slice none 0 0], .int .i64 3]) (by simp [results, Try.results48, go_sem, y0, y1, y2]) rfl ?_
    exact RTwoE.err HBX.out 3 rfl
  | true =>
    rw [if_neg (by decide)] at hT
    have HT := hide hT
    clear hT
    go_enter Try.func48, Try.ntmps48
    go_wp2_with fail
    refine (HNA.out _).mono ?_
    rintro e w1 ⟨rfl, rfl⟩
    go_wp2_with fail
    refine (HPL.out _ HBX.out.bel).mono ?_
    rintro e w1 ⟨rfl, hb1⟩
    have HX1 := hide (HBX.out.then hb1)
    clear z0 z1 z2 y0 y1 y2 fy hwA hb1
    have z0 := lcell_of HX1.out.b0 0 rfl
    have z1 := lcell_of HX1.out.b0 1 rfl
    have z2 := lcell_of HX1.out.b0 2 rfl
    have y0 := lcell_of HX1.out.b1 0 rfl
    have y1 := lcell_of HX1.out.b1 1 rfl
    have y2 := lcell_of HX1.out.b1 2 rfl
    have fy := lfrozen_of HX1.out.b1
    rcases Ldg.plc_cases (qs.map (fun p => p.1.name)) n with ⟨hp, _⟩ | ⟨k, hk, hp, _⟩
    · rw [hp] at HT ⊢
      have hT := HT.out
      rw [if_neg (fun x => x rfl)] at hT
      clear HT hp
      by_cases h4 : 4 ≤ m
      · rw [if_pos h4] at hT
        subst hT
        go_wp2_with fail
        refine bodyPost_ret (v := .tuple #[.agg #[.int .u64 0, .int .u64 0, .slice none 0 0], .int .i64 6]) (by simp [results, Try.results48, go_sem, y0, y1, y2]) rfl ?_
        exact RTwoE.err HX1.out 6 rfl
      · rw [if_neg h4] at hT
        have HTT := hide hT
        clear hT
        go_wp2_with fail
        refine (HLC.out _ HX1.out.bel).mono ?_
        rintro e w2 ⟨ea, n', ec, ps, rfl, hnp, hps, hown, hb2⟩
        have HX2 := hide (HX1.out.then hb2)
        have hx2 := HX2.out
        have s1 := hx2.size
        have HPS := hide hps
        obtain ⟨N, hN⟩ : ∃ N, w2.heap.size = N := ⟨_, rfl⟩
        rw [hN] at s1
        have hs1 := HX1.out.size
        obtain ⟨wB, hwB⟩ : ∃ W, w2.alloc (.cells #[.int .u64 (R.first : Int), .int .u64 (R.next : Int), .slice ea n' ec] 31) = W := ⟨_, rfl⟩
        have o0 : wB.heap[N]? = some (.cells #[.int .u64 (R.first : Int), .int .u64 (R.next : Int), .slice ea n' ec] 31 (0, 0)) := by
          rw [← hwB, ← hN]; show (w2.heap.push _)[w2.heap.size]? = _; simp
        have kB : Below w2.heap.size w2 wB := by rw [← hwB]; exact (Below.refl _ _).alloc (Nat.le_refl _) _
        have xB := hx2.then kB
        have sB : wB.heap.size = N + 1 := by rw [← hwB]; simp [hN]
        obtain ⟨wC, hwC⟩ : ∃ W, wB.alloc (.cells #[.string n, .int .u64 (R.next : Int), .slice none 0 0] 99) = W := ⟨_, rfl⟩
        have kC : Below wB.heap.size wB wC := by rw [← hwC]; exact (Below.refl _ _).alloc (Nat.le_refl _) _
        have xC := xB.then kC
        have oC := (kC.block N (by omega)).trans o0
        have sC : wC.heap.size = N + 2 := by rw [← hwC]; simp [sB]
        have qC : wC.heap[N + 1]? = some (.cells #[.string n, .int .u64 (R.next : Int), .slice none 0 0] 99 (0, 0)) := by
          rw [← hwC, ← sB]; show (wB.heap.push _)[wB.heap.size]? = _; simp
        have hn4 : n' ≤ 4 := by
          have h2 := congrArg List.length hps
          rw [List.length_map] at h2
          have := HF.out.many
          omega
        have hownC := (hown.below kB).below kC
        obtain ⟨ea2, ec2, w3, hap, ho3, hg3⟩ := hownC.app (by have := hb2.size; omega) (by omega) 29 (N + 1) n R.next [] (.slice none 0 0) qC (World.ownsRow_nil _ _ _ _) (fun p hp x hx e => by cases e)
        rw [← hnp] at hap ho3
        have hrowN : ∀ g, (Value.slice ea n' ec).ownBlock = some g → w1.heap.size ≤ g ∧ g < N := fun g e => ⟨(lown_lt hown.row e).2, by have := (lown_lt hown.row e).1; omega⟩
        have k3 : ∀ b, b < wC.heap.size → (Value.slice ea n' ec).ownBlock ≠ some b → w3.heap[b]? = wC.heap[b]? := fun b hb hne => hg3.block b hb (fun e => hne e.symm)
        have o3 := (k3 N (by omega) (fun e => by have := (hrowN N e).2; omega)).trans oC
        have b3 := (k3 (w.heap.size + 1) (by omega) (fun e => by have := (hrowN _ e).1; omega)).trans xC.b1
        have l3 : Below w.heap.size w w3 := xC.bel.trans ⟨hg3.os, hg3.tape, hg3.output, hg3.size, fun b hb => k3 b (by omega) (fun e => by have := (hrowN _ e).1; omega)⟩
        obtain ⟨w4, hw4⟩ : ∃ W, w3.setCell ⟨N, 2, none⟩ (.slice ea2 (n' + 1) ec2) = W := ⟨_, rfl⟩
        have o4 : w4.heap[N]? = some (.cells #[.int .u64 (R.first : Int), .int .u64 (R.next : Int), .slice ea2 (n' + 1) ec2] 31 (0, 0)) := by
          rw [← hw4]; exact box_set o3 _
        have k34 : Kept (fun b => b ≠ N) w3 w4 := by rw [← hw4]; exact Kept.setCell (Kept.refl _ _) (fun _ h e => h e) _
        have b4 := (k34.block (w.heap.size + 1) (by omega)).trans b3
        have l4 := l3.trans (k34.bel (B := w.heap.size) (fun b hb => by omega))
        have ho4 := ho3.other o3 (by decide) (by decide) k34
        have x0 := lcell_of o0 0 rfl
        have x1 := lcell_of o0 1 rfl
        have x2 := lcell_of o0 2 rfl
        have w32 := lcell_of o3 2 rfl
        have w3f := lfrozen_of o3
        have p0 := lcell_of o4 0 rfl
        have p1 := lcell_of o4 1 rfl
        have p2 := lcell_of o4 2 rfl
        have d0 := lcell_of b4 0 rfl
        have d1 := lcell_of b4 1 rfl
        have d2 := lcell_of b4 2 rfl
        have fd := lfrozen_of b4
        have vB := lcell_of xB.b0 1 rfl
        have HO4 := hide ho4
        have HL4 := hide l4
        have HB4 := hide b4
        have HAP := hide hap
        have hmi : (m : Int) < 4 := by omega
        clear hx2 hown hps hb2 o0 kB xB kC xC oC qC o3 b3 l3 k34 b4 l4 ho4 ho3 hg3 hap hownC hrowN k3 hnp z0 z1 z2 y0 y1 y2 fy
        go_wp2_with (at_builtin; refine Ldg.wpList_app_run rfl _ _ _ _ rfl rfl rfl HAP.out ?_)
        go_wp2_with fail
        refine bodyPost_ret (v := .tuple #[.agg #[.int .u64 (R.first : Int), .int .u64 (R.next : Int), .slice ea2 (n' + 1) ec2], .int .i64 0]) (by simp [results, Try.results48, go_sem, d0, d1, d2]) rfl ?_
        have hfin := rled_told (w := w) (first := R.first) (next := R.next) HO4.out HB4.out HL4.out (.int .u64 (R.first : Int)) (.int .u64 (R.next : Int)) rfl rfl rfl
        rw [List.map_append, HPS.out] at hfin
        rw [← HTT.out]
        exact ⟨_, rfl, hfin⟩
    · rw [hp] at HT ⊢
      have hT := HT.out
      rw [if_pos (by omega)] at hT
      subst hT
      clear HT hp
      have hk0 : (0 : Int) ≤ (k : Int) := by omega
      go_wp2_with fail
      refine bodyPost_ret (v := .tuple #[.agg #[.int .u64 0, .int .u64 0, .slice none 0 0], .int .i64 4]) (by simp [results, Try.results48, go_sem, y0, y1, y2]) rfl ?_
      exact RTwoE.err HX1.out 4 rfl
end Go.Proofs.Ytjbdofjheeljkaa
namespace Go.Proofs.Ytjbdofjheeljkaa
open Go.RowKit
open Ldg (De Le Rd Rl)

theorem rrows_same (ps : List RV) (k : Nat) (hk : k < ps.length) (q : RV) (h : rrow q = rrow ps[k]) : rrows (ps.set k q) = rrows ps := by
  have h2 := rrows_set ps k 0 (.string q.1.name) q hk (by omega) (by rw [← h]; rfl)
  rw [← h2]
  have h3 : (rrows ps)[k * 3 + 0]? = some (.string q.1.name) := by
    rw [rrows_at ps k 0 hk (by omega), ← h]; rfl
  obtain ⟨h4, h5⟩ := List.getElem?_eq_some_iff.1 h3
  rw [← h5, List.set_getElem_self]
/-- One byte of one destination is another. -/
theorem OwnR.setAll {w : World} {B n c : Nat} {ea : Option Addr} {ps : List RV} (h : OwnR w B (.slice ea n c) ps) {k : Nat} (hk : k < ps.length) {nm : ByteArray} {s : Nat} {al : List Nat} {b vc ln : Nat} (hz : ps[k] = (⟨nm, s, al⟩, .slice (some ⟨b, 0, none⟩) ln vc)) (i kd : Nat) :
    OwnR (w.setCell ⟨b, i, none⟩ (.int .u8 (kd : Int))) B (.slice ea n c) (ps.set k (⟨nm, s, al.set i kd⟩, .slice (some ⟨b, 0, none⟩) ln vc)) := by
  have hkb : ps[k].2.ownBlock = some b := by rw [hz]; rfl
  have hab := h.all ps[k] (List.getElem_mem hk)
  rw [hz] at hab
  simp only at hab
  have hln : ln = al.length := by
    obtain ⟨a', c', e, _⟩ := lown_slice hab
    simp only [Value.slice.injEq] at e
    exact e.2.1
  subst hln
  have ho : ∀ x, x ≠ b → (w.setCell ⟨b, i, none⟩ (.int .u8 (kd : Int))).heap[x]? = w.heap[x]? := fun x hx => Below.heap_setCell _ _ _ _ hx
  refine ⟨?_, fun p hp => ?_, fun x y hx hy hxy z hz2 => ?_⟩
  · rw [List.length_set, rrows_same ps k hk _ (by rw [hz]; rfl)]
    exact lown_keep h.row (fun x e => ho x (fun e2 => h.kind (List.getElem_mem hk) hkb (by rw [← e2]; exact e)))
  · obtain ⟨x, hx, rfl⟩ := List.mem_iff_getElem.1 hp
    have hx' : x < ps.length := by simpa using hx
    by_cases e : k = x
    · subst e
      rw [List.getElem_set_self]
      have := lown_set hab i (.int .u8 (kd : Int))
      have e2 : (bV al).set i (.int .u8 (kd : Int)) = bV (al.set i kd) := by simp [bV]
      rw [e2] at this
      show World.ownsRow _ _ _ _ _ (al.set i kd).length _
      rw [List.length_set]
      exact this
    · rw [List.getElem_set_ne e]
      exact lown_keep (h.all ps[x] (List.getElem_mem hx')) (fun y hy => ho y (fun e2 => h.apart k x hk hx' e b hkb (by rw [← e2]; exact hy)))
  · have hx' : x < ps.length := by simpa using hx
    have hy' : y < ps.length := by simpa using hy
    have e1 : ∀ j (hj : j < (ps.set k (⟨nm, s, al.set i kd⟩, .slice (some ⟨b, 0, none⟩) al.length vc)).length) (hj' : j < ps.length), ((ps.set k (⟨nm, s, al.set i kd⟩, .slice (some ⟨b, 0, none⟩) al.length vc))[j]).2 = ps[j].2 := fun j hj hj' => by
      by_cases e : k = j
      · subst e; rw [List.getElem_set_self, hz]
      · rw [List.getElem_set_ne e]
    rw [e1 x hx hx'] at hz2
    rw [e1 y hy hy']
    exact h.apart x y hx' hy' hxy z hz2
set_option maxRecDepth 100000 in
set_option maxHeartbeats 1600000 in
theorem rdone_any {w : World} {v : Value} {R : Rl} (h : RlAt w v R) (hf : R.Ok) (n : ByteArray) (s kd : Nat) :
    Calls Try.prog 51 #[v, .string n, .int .u64 (s : Int), .int .u8 (kd : Int)] w (RTwoE w (R.done n s kd)) := by
  have HRL := hide h
  obtain ⟨a, c, qs, rfl, hc, hd, hds⟩ := h
  have hmn := rmany_of hf hd
  have hnb := hf.nb
  have hnm := rnames_eq hd
  have hall : ∀ d ∈ R.dests, d.all.length ≤ 10000000 := fun d hd => by have := (hf.each d hd).ends; omega
  obtain ⟨m, hm⟩ : ∃ m, qs.length = m := ⟨_, rfl⟩
  have hpl := fun W (hW : Below w.heap.size w W) => rplace_any (R.first : Int) (R.next : Int) a c qs n W (hds.below hW) (by omega)
  rw [hm] at hc hmn HRL hpl ⊢
  have hlc := fun W (hW : Below w.heap.size w W) => rcopied_any (HRL.out.below hW) hf.many (fun d hd => by have := hall d hd; omega)
  have HLC := hide hlc
  have HALL := hide hall
  have HF := hide hf
  have HPL := hide hpl
  have HD := hide hd
  have HDS := hide hds
  have HM := hide hm
  have HNM := hide hnm
  obtain ⟨wA, hwA⟩ : ∃ W, (w.alloc (.cells #[.int .u64 (R.first : Int), .int .u64 (R.next : Int), .slice a m c] 31)).alloc (.cells #[.int .u64 0, .int .u64 0, .slice none 0 0] 31) = W := ⟨_, rfl⟩
  have hbx := RBox2.made w (.int .u64 (R.first : Int)) (.int .u64 (R.next : Int)) a m c
  rw [hwA] at hbx
  have z0 := lcell_of hbx.b0 0 rfl
  have z1 := lcell_of hbx.b0 1 rfl
  have z2 := lcell_of hbx.b0 2 rfl
  have y0 := lcell_of hbx.b1 0 rfl
  have y1 := lcell_of hbx.b1 1 rfl
  have y2 := lcell_of hbx.b1 2 rfl
  have fy := lfrozen_of hbx.b1
  have HBX := hide hbx
  have hwt := fun W (hW : Below w.heap.size w W) => rwaits_any (HRL.out.below hW) hf n s
  obtain ⟨T, hT⟩ : ∃ T, R.done n s kd = T := ⟨_, rfl⟩
  rw [hT]
  have hlk : R.look n = Ldg.lookAt R.dests (Ldg.plc (qs.map (fun p => p.1.name)) n) := by unfold Rl.look Rl.names; rw [hnm]
  unfold Rl.waits at hwt
  unfold Rl.done at hT
  unfold Rl.names at hT
  rw [hnm] at hT
  rw [hlk] at hT
  simp only [hlk] at hwt
  have HT := hide hT
  have HW := hide hwt
  clear hlc hpl hm hds hd hf hc hbx hnm hall hT hwt hlk
  go_enter Try.func51, Try.ntmps51
  go_wp2_with fail
  refine (HPL.out _ HBX.out.bel).mono ?_
  rintro e w1 ⟨rfl, hb1⟩
  have HX1 := hide (HBX.out.then hb1)
  clear z0 z1 z2 y0 y1 y2 fy hwA hb1
  have z0 := lcell_of HX1.out.b0 0 rfl
  have z1 := lcell_of HX1.out.b0 1 rfl
  have z2 := lcell_of HX1.out.b0 2 rfl
  have y0 := lcell_of HX1.out.b1 0 rfl
  have y1 := lcell_of HX1.out.b1 1 rfl
  have y2 := lcell_of HX1.out.b1 2 rfl
  have fy := lfrozen_of HX1.out.b1
  rcases Ldg.plc_cases (qs.map (fun p => p.1.name)) n with ⟨hp, _⟩ | ⟨k, hk, hp, _⟩
  · have hT := HT.out
    rw [Ldg.lookAt_no _ hp] at hT
    simp only at hT
    subst hT
    rw [hp]
    clear HT hp HW
    go_wp2_with fail
    refine bodyPost_ret (v := .tuple #[.agg #[.int .u64 0, .int .u64 0, .slice none 0 0], .int .i64 5]) (by simp [results, Try.results51, go_sem, y0, y1, y2]) rfl ?_
    exact RTwoE.err HX1.out 5 rfl
  · rw [List.length_map] at hk
    have hkd' : k < R.dests.length := by rw [HD.out, List.length_map]; exact hk
    have hT := HT.out
    have hw := HW.out
    rw [Ldg.lookAt_at hp hkd', hp, Int.toNat_natCast] at hT
    rw [Ldg.lookAt_at hp hkd'] at hw
    simp only at hT hw
    have hkm : k < m := by have := HM.out; omega
    have hk0 : ¬ (k : Int) < 0 := by omega
    rw [hp]
    clear hp HT HW
    have hok := HF.out.each _ (List.getElem_mem hkd')
    obtain ⟨d, hdd⟩ : ∃ d, R.dests[k] = d := ⟨_, rfl⟩
    rw [hdd] at hT hok
    simp only [hdd] at hw
    have HDD := hide hdd
    have HW := hide hw
    by_cases hkd : kd = 97 ∨ kd = 114
    · rw [if_neg (fun x => x hkd)] at hT
      obtain ⟨wt, hwt⟩ : ∃ x, d.pend.contains s = x := ⟨_, rfl⟩
      rw [hwt] at hT
      have HT := hide hT
      have HWT := hide hwt
      clear hT hw hdd hwt
      have hcl := fun W (hW : Below w.heap.size w W) => HW.out W hW
      simp only [HWT.out] at hcl
      have HCL := hide hcl
      clear hcl HW
      rcases hkd with rfl | rfl
      · go_wp2_with fail
        refine (HCL.out _ HX1.out.bel).mono ?_
        rintro e w2 ⟨rfl, hb2⟩
        have HX2 := hide (HX1.out.then hb2)
        clear z0 z1 z2 y0 y1 y2 fy hb2
        have z0 := lcell_of HX2.out.b0 0 rfl
        have z1 := lcell_of HX2.out.b0 1 rfl
        have z2 := lcell_of HX2.out.b0 2 rfl
        have y0 := lcell_of HX2.out.b1 0 rfl
        have y1 := lcell_of HX2.out.b1 1 rfl
        have y2 := lcell_of HX2.out.b1 2 rfl
        have fy := lfrozen_of HX2.out.b1
        cases wt with
        | false =>
          have hT := HT.out
          rw [if_pos rfl] at hT
          subst hT
          clear HT
          go_wp2_with fail
          refine bodyPost_ret (v := .tuple #[.agg #[.int .u64 0, .int .u64 0, .slice none 0 0], .int .i64 13]) (by simp [results, Try.results51, go_sem, y0, y1, y2]) rfl ?_
          exact RTwoE.err HX2.out 13 rfl
        | true =>
          have hT := HT.out
          rw [if_neg (by decide)] at hT
          have HTT := hide hT
          clear HT hT
          go_wp2_with fail
          refine (HLC.out _ HX2.out.bel).mono ?_
          rintro e w3 ⟨ea, n', ec, ps, rfl, hnp, hps, hown, hb3⟩
          have HX3 := hide (HX2.out.then hb3)
          have hx3 := HX3.out
          have s1 := hx3.size
          have HPS := hide hps
          obtain ⟨N, hN⟩ : ∃ N, w3.heap.size = N := ⟨_, rfl⟩
          rw [hN] at s1
          have hs2 := HX2.out.size
          have hln := congrArg List.length hps
          rw [List.length_map] at hln
          have hkn : k < ps.length := by omega
          have hn4 : n' ≤ 4 := by have := HF.out.many; omega
          obtain ⟨g, rfl, hnn, hBg, hgl⟩ := rown_some hown (by omega)
          clear hnn
          obtain ⟨nm, sn, al, va, vc, hz, c0, c1, c2, fz⟩ := hown.get hkn
          have hpd : (⟨nm, sn, al⟩ : Rd) = d := by
            rw [← HDD.out]
            have h1 : (ps.map Prod.fst)[k]'(by rw [List.length_map]; exact hkn) = ps[k].1 := List.getElem_map _
            have h2 : ps[k].1 = ⟨nm, sn, al⟩ := by rw [hz]
            rw [← h2, ← h1]
            simp only [hps]
          subst hpd
          obtain ⟨q1', q2', q3'⟩ := Ldg.pend_has.1 HWT.out
          simp only at q1' q2' q3'
          obtain ⟨i, hi⟩ : ∃ i, s - sn = i := ⟨_, rfl⟩
          have hil : i < al.length := by omega
          have hab := hown.all ps[k] (List.getElem_mem hkn)
          rw [hz] at hab
          simp only at hab
          obtain ⟨b, rfl⟩ : ∃ b, va = some ⟨b, 0, none⟩ := by
            rcases hab.2 with ⟨h0, h1⟩ | ⟨gg, cap, cur, e, _⟩
            · omega
            · simp only [Value.slice.injEq] at e; exact ⟨gg, e.1⟩
          obtain ⟨hbs, hbB⟩ := lown_lt hab (g := b) rfl
          obtain ⟨wB, hwB⟩ : ∃ W, w3.alloc (.cells #[.int .u64 (R.first : Int), .int .u64 (R.next : Int), .slice (some ⟨g, 0, none⟩) n' ec] 31) = W := ⟨_, rfl⟩
          have o0 : wB.heap[N]? = some (.cells #[.int .u64 (R.first : Int), .int .u64 (R.next : Int), .slice (some ⟨g, 0, none⟩) n' ec] 31 (0, 0)) := by
            rw [← hwB, ← hN]; show (w3.heap.push _)[w3.heap.size]? = _; simp
          have kB : Below w3.heap.size w3 wB := by rw [← hwB]; exact (Below.refl _ _).alloc (Nat.le_refl _) _
          have xB := hx3.then kB
          have sB : wB.heap.size = N + 1 := by rw [← hwB]; simp [hN]
          have hownB := hown.below kB
          have x0 := lcell_of o0 0 rfl
          have x1 := lcell_of o0 1 rfl
          have x2 := lcell_of o0 2 rfl
          obtain ⟨ln, hlnn⟩ : ∃ x, al.length = x := ⟨_, rfl⟩
          have hen := hok.ends
          simp only at hen
          have hw2 : IntKind.u64.wrap ((s : Int) - (sn : Int)) = (i : Int) := by rw [IntKind.wrap_u64]; omega
          have hw3 : (s : Int) - (sn : Int) = (i : Int) := by omega
          have hw4 : IntKind.u64.wrap (i : Int) = (i : Int) := by rw [IntKind.wrap_u64]; omega
          rw [hw3] at hw2
          clear hw2
          have hil2 : i < ln := by omega
          rw [hlnn] at c2
          have HOWB := hide hownB
          have HXB := hide xB
          have HO0 := hide o0
          have hmem : ((⟨nm, sn, al⟩, .slice (some ⟨b, 0, none⟩) al.length vc) : RV) ∈ ps := by rw [← hz]; exact List.getElem_mem hkn
          have HMEM := hide hmem
          clear hmem
          have HZ := hide hz
          have HSB := hide sB
          have HPK := hide hkn
          have HIL := hide hil
          have HI := hide hi
          have HLNN := hide hlnn
          have r1 := (World.cell?_of_block (w := w3) (a := ⟨g, k * 3 + 1, none⟩) (kB.block g hgl)).trans c1
          have r2 := (World.cell?_of_block (w := w3) (a := ⟨g, k * 3 + 2, none⟩) (kB.block g hgl)).trans c2
          have hgB : g < wB.heap.size := by omega
          have hkn' : k < n' := by omega
          have hbB2 : b < wB.heap.size := by omega
          clear hx3 hown hps hb3 o0 kB xB sB hownB hz hab hlnn hil c0 c1 c2 fz hi hnp hln hok hen q1' q2' q3' z0 z1 z2 y0 y1 y2 fy
          go_wp2_with fail
          refine wp_region_growK (fun x => x = N ∨ x = g) [] [0, 1, 2, 3, 4, 5, 6, 7, 8, 9, 10, 11, 12, 13, 14, 15] [16] (by kernel_rfl) (by kernel_rfl) (by kernel_rfl) (by kernel_rfl) ?_
          intro wq hbq
          simp only [stagesOfK, getLK, pickLK]
          have hoq := HOWB.out.below hbq
          have xq := HXB.out.then hbq
          have o2 := (hbq.block N (by have := HSB.out; omega)).trans HO0.out
          have e2 := lcell_of o2 2 rfl
          have t1 := (hbq.cell (p := ⟨g, k * 3 + 1, none⟩) hgB).trans r1
          have t2 := (hbq.cell (p := ⟨g, k * 3 + 2, none⟩) hgB).trans r2
          have hab := hoq.all _ HMEM.out
          simp only at hab
          have cb : wq.cell? ⟨b, i, none⟩ = some (.int .u8 ((al[i]'HIL.out : Nat) : Int)) := by
            rw [World.ownsRow.cellAt hab i (by have := HIL.out; omega)]
            simp [bV, HIL.out]
          obtain ⟨bv, hbv⟩ : ∃ x, al[i]'HIL.out = x := ⟨_, rfl⟩
          rw [hbv] at cb
          have fb : ∀ j, wq.frozen? ⟨b, j, none⟩ = false := fun j => hab.frozenAt _
          have hse := hoq.setAll HPK.out HZ.out i 97
          have hbN : N ≠ b := fun e => by
            obtain ⟨cc, hcc⟩ := kind_of hab (g := b) rfl
            rw [← e, o2] at hcc
            simp only [Option.some.injEq, Obj.cells.injEq] at hcc
            exact absurd hcc.2.1 (by decide)
          obtain ⟨wE, hwE⟩ : ∃ W, wq.setCell ⟨b, i, none⟩ (.int .u8 97) = W := ⟨_, rfl⟩
          have kE : Kept (fun x => x ≠ b) wq wE := by rw [← hwE]; exact Kept.setCell (Kept.refl _ _) (fun _ h e => h e) _
          have hse2 : OwnR wE w2.heap.size (.slice (some ⟨g, 0, none⟩) n' ec) (ps.set k (⟨nm, sn, al.set i 97⟩, .slice (some ⟨b, 0, none⟩) al.length vc)) := by rw [← hwE]; exact hse
          have oE := (kE.block N hbN).trans o2
          have tE := (kE.block (w.heap.size + 1) (by have := HX2.out.size; omega)).trans xq.b1
          have lE := xq.bel.trans (kE.bel (B := w.heap.size) (fun x hx => by have := HX2.out.size; omega))
          have HSE := hide hse2
          have HTE := hide tE
          have HLE := hide lE
          have inh : Nonempty (GrK (fun x => x = N ∨ x = g) wq) := GrK.some _ wq
          have z1 := fun z : GrK (fun x => x = N ∨ x = g) wq => z.cell (a := ⟨N, 2, none⟩) (.inl rfl) e2
          have z2 := fun z : GrK (fun x => x = N ∨ x = g) wq => z.cell (a := ⟨g, k * 3 + 1, none⟩) (.inr rfl) t1
          have z3 := fun z : GrK (fun x => x = N ∨ x = g) wq => z.cell (a := ⟨g, k * 3 + 2, none⟩) (.inr rfl) t2
          have p0 := lcell_of oE 0 rfl
          have p1 := lcell_of oE 1 rfl
          have p2 := lcell_of oE 2 rfl
          have d0 := lcell_of tE 0 rfl
          have d1 := lcell_of tE 1 rfl
          have d2 := lcell_of tE 2 rfl
          have fd := lfrozen_of tE
          clear hoq xq o2 hab hse hse2 kE oE tE lE hbv hbq x0 x1 x2
          refine wpG_lastK ?_
          repeat (go_big_quiet_step (fail))
          refine wpQuiet_nil ?_
          clear z1 z2 z3 inh
          go_wp2_with fail
          refine bodyPost_ret (v := .tuple #[.agg #[.int .u64 (R.first : Int), .int .u64 (R.next : Int), .slice (some ⟨g, 0, none⟩) n' ec], .int .i64 0]) (by simp [results, Try.results51, go_sem, d0, d1, d2]) rfl ?_
          have hfin := rled_told (w := w) (first := R.first) (next := R.next) HSE.out HTE.out HLE.out (.int .u64 (R.first : Int)) (.int .u64 (R.next : Int)) rfl rfl rfl
          rw [map_set2, HPS.out] at hfin
          rw [← HTT.out, HI.out]
          exact ⟨_, rfl, hfin⟩
      · go_wp2_with fail
        refine (HCL.out _ HX1.out.bel).mono ?_
        rintro e w2 ⟨rfl, hb2⟩
        have HX2 := hide (HX1.out.then hb2)
        clear z0 z1 z2 y0 y1 y2 fy hb2
        have z0 := lcell_of HX2.out.b0 0 rfl
        have z1 := lcell_of HX2.out.b0 1 rfl
        have z2 := lcell_of HX2.out.b0 2 rfl
        have y0 := lcell_of HX2.out.b1 0 rfl
        have y1 := lcell_of HX2.out.b1 1 rfl
        have y2 := lcell_of HX2.out.b1 2 rfl
        have fy := lfrozen_of HX2.out.b1
        cases wt with
        | false =>
          have hT := HT.out
          rw [if_pos rfl] at hT
          subst hT
          clear HT
          go_wp2_with fail
          refine bodyPost_ret (v := .tuple #[.agg #[.int .u64 0, .int .u64 0, .slice none 0 0], .int .i64 13]) (by simp [results, Try.results51, go_sem, y0, y1, y2]) rfl ?_
          exact RTwoE.err HX2.out 13 rfl
        | true =>
          have hT := HT.out
          rw [if_neg (by decide)] at hT
          have HTT := hide hT
          clear HT hT
          go_wp2_with fail
          refine (HLC.out _ HX2.out.bel).mono ?_
          rintro e w3 ⟨ea, n', ec, ps, rfl, hnp, hps, hown, hb3⟩
          have HX3 := hide (HX2.out.then hb3)
          have hx3 := HX3.out
          have s1 := hx3.size
          have HPS := hide hps
          obtain ⟨N, hN⟩ : ∃ N, w3.heap.size = N := ⟨_, rfl⟩
          rw [hN] at s1
          have hs2 := HX2.out.size
          have hln := congrArg List.length hps
          rw [List.length_map] at hln
          have hkn : k < ps.length := by omega
          have hn4 : n' ≤ 4 := by have := HF.out.many; omega
          obtain ⟨g, rfl, hnn, hBg, hgl⟩ := rown_some hown (by omega)
          clear hnn
          obtain ⟨nm, sn, al, va, vc, hz, c0, c1, c2, fz⟩ := hown.get hkn
          have hpd : (⟨nm, sn, al⟩ : Rd) = d := by
            rw [← HDD.out]
            have h1 : (ps.map Prod.fst)[k]'(by rw [List.length_map]; exact hkn) = ps[k].1 := List.getElem_map _
            have h2 : ps[k].1 = ⟨nm, sn, al⟩ := by rw [hz]
            rw [← h2, ← h1]
            simp only [hps]
          subst hpd
          obtain ⟨q1', q2', q3'⟩ := Ldg.pend_has.1 HWT.out
          simp only at q1' q2' q3'
          obtain ⟨i, hi⟩ : ∃ i, s - sn = i := ⟨_, rfl⟩
          have hil : i < al.length := by omega
          have hab := hown.all ps[k] (List.getElem_mem hkn)
          rw [hz] at hab
          simp only at hab
          obtain ⟨b, rfl⟩ : ∃ b, va = some ⟨b, 0, none⟩ := by
            rcases hab.2 with ⟨h0, h1⟩ | ⟨gg, cap, cur, e, _⟩
            · omega
            · simp only [Value.slice.injEq] at e; exact ⟨gg, e.1⟩
          obtain ⟨hbs, hbB⟩ := lown_lt hab (g := b) rfl
          obtain ⟨wB, hwB⟩ : ∃ W, w3.alloc (.cells #[.int .u64 (R.first : Int), .int .u64 (R.next : Int), .slice (some ⟨g, 0, none⟩) n' ec] 31) = W := ⟨_, rfl⟩
          have o0 : wB.heap[N]? = some (.cells #[.int .u64 (R.first : Int), .int .u64 (R.next : Int), .slice (some ⟨g, 0, none⟩) n' ec] 31 (0, 0)) := by
            rw [← hwB, ← hN]; show (w3.heap.push _)[w3.heap.size]? = _; simp
          have kB : Below w3.heap.size w3 wB := by rw [← hwB]; exact (Below.refl _ _).alloc (Nat.le_refl _) _
          have xB := hx3.then kB
          have sB : wB.heap.size = N + 1 := by rw [← hwB]; simp [hN]
          have hownB := hown.below kB
          have x0 := lcell_of o0 0 rfl
          have x1 := lcell_of o0 1 rfl
          have x2 := lcell_of o0 2 rfl
          obtain ⟨ln, hlnn⟩ : ∃ x, al.length = x := ⟨_, rfl⟩
          have hen := hok.ends
          simp only at hen
          have hw2 : IntKind.u64.wrap ((s : Int) - (sn : Int)) = (i : Int) := by rw [IntKind.wrap_u64]; omega
          have hw3 : (s : Int) - (sn : Int) = (i : Int) := by omega
          have hw4 : IntKind.u64.wrap (i : Int) = (i : Int) := by rw [IntKind.wrap_u64]; omega
          rw [hw3] at hw2
          clear hw2
          have hil2 : i < ln := by omega
          rw [hlnn] at c2
          have HOWB := hide hownB
          have HXB := hide xB
          have HO0 := hide o0
          have hmem : ((⟨nm, sn, al⟩, .slice (some ⟨b, 0, none⟩) al.length vc) : RV) ∈ ps := by rw [← hz]; exact List.getElem_mem hkn
          have HMEM := hide hmem
          clear hmem
          have HZ := hide hz
          have HSB := hide sB
          have HPK := hide hkn
          have HIL := hide hil
          have HI := hide hi
          have HLNN := hide hlnn
          have r1 := (World.cell?_of_block (w := w3) (a := ⟨g, k * 3 + 1, none⟩) (kB.block g hgl)).trans c1
          have r2 := (World.cell?_of_block (w := w3) (a := ⟨g, k * 3 + 2, none⟩) (kB.block g hgl)).trans c2
          have hgB : g < wB.heap.size := by omega
          have hkn' : k < n' := by omega
          have hbB2 : b < wB.heap.size := by omega
          clear hx3 hown hps hb3 o0 kB xB sB hownB hz hab hlnn hil c0 c1 c2 fz hi hnp hln hok hen q1' q2' q3' z0 z1 z2 y0 y1 y2 fy
          go_wp2_with fail
          refine wp_region_growK (fun x => x = N ∨ x = g) [] [0, 1, 2, 3, 4, 5, 6, 7, 8, 9, 10, 11, 12, 13, 14, 15] [16] (by kernel_rfl) (by kernel_rfl) (by kernel_rfl) (by kernel_rfl) ?_
          intro wq hbq
          simp only [stagesOfK, getLK, pickLK]
          have hoq := HOWB.out.below hbq
          have xq := HXB.out.then hbq
          have o2 := (hbq.block N (by have := HSB.out; omega)).trans HO0.out
          have e2 := lcell_of o2 2 rfl
          have t1 := (hbq.cell (p := ⟨g, k * 3 + 1, none⟩) hgB).trans r1
          have t2 := (hbq.cell (p := ⟨g, k * 3 + 2, none⟩) hgB).trans r2
          have hab := hoq.all _ HMEM.out
          simp only at hab
          have cb : wq.cell? ⟨b, i, none⟩ = some (.int .u8 ((al[i]'HIL.out : Nat) : Int)) := by
            rw [World.ownsRow.cellAt hab i (by have := HIL.out; omega)]
            simp [bV, HIL.out]
          obtain ⟨bv, hbv⟩ : ∃ x, al[i]'HIL.out = x := ⟨_, rfl⟩
          rw [hbv] at cb
          have fb : ∀ j, wq.frozen? ⟨b, j, none⟩ = false := fun j => hab.frozenAt _
          have hse := hoq.setAll HPK.out HZ.out i 114
          have hbN : N ≠ b := fun e => by
            obtain ⟨cc, hcc⟩ := kind_of hab (g := b) rfl
            rw [← e, o2] at hcc
            simp only [Option.some.injEq, Obj.cells.injEq] at hcc
            exact absurd hcc.2.1 (by decide)
          obtain ⟨wE, hwE⟩ : ∃ W, wq.setCell ⟨b, i, none⟩ (.int .u8 114) = W := ⟨_, rfl⟩
          have kE : Kept (fun x => x ≠ b) wq wE := by rw [← hwE]; exact Kept.setCell (Kept.refl _ _) (fun _ h e => h e) _
          have hse2 : OwnR wE w2.heap.size (.slice (some ⟨g, 0, none⟩) n' ec) (ps.set k (⟨nm, sn, al.set i 114⟩, .slice (some ⟨b, 0, none⟩) al.length vc)) := by rw [← hwE]; exact hse
          have oE := (kE.block N hbN).trans o2
          have tE := (kE.block (w.heap.size + 1) (by have := HX2.out.size; omega)).trans xq.b1
          have lE := xq.bel.trans (kE.bel (B := w.heap.size) (fun x hx => by have := HX2.out.size; omega))
          have HSE := hide hse2
          have HTE := hide tE
          have HLE := hide lE
          have inh : Nonempty (GrK (fun x => x = N ∨ x = g) wq) := GrK.some _ wq
          have z1 := fun z : GrK (fun x => x = N ∨ x = g) wq => z.cell (a := ⟨N, 2, none⟩) (.inl rfl) e2
          have z2 := fun z : GrK (fun x => x = N ∨ x = g) wq => z.cell (a := ⟨g, k * 3 + 1, none⟩) (.inr rfl) t1
          have z3 := fun z : GrK (fun x => x = N ∨ x = g) wq => z.cell (a := ⟨g, k * 3 + 2, none⟩) (.inr rfl) t2
          have p0 := lcell_of oE 0 rfl
          have p1 := lcell_of oE 1 rfl
          have p2 := lcell_of oE 2 rfl
          have d0 := lcell_of tE 0 rfl
          have d1 := lcell_of tE 1 rfl
          have d2 := lcell_of tE 2 rfl
          have fd := lfrozen_of tE
          clear hoq xq o2 hab hse hse2 kE oE tE lE hbv hbq x0 x1 x2
          refine wpG_lastK ?_
          repeat (go_big_quiet_step (fail))
          refine wpQuiet_nil ?_
          clear z1 z2 z3 inh
          go_wp2_with fail
          refine bodyPost_ret (v := .tuple #[.agg #[.int .u64 (R.first : Int), .int .u64 (R.next : Int), .slice (some ⟨g, 0, none⟩) n' ec], .int .i64 0]) (by simp [results, Try.results51, go_sem, d0, d1, d2]) rfl ?_
          have hfin := rled_told (w := w) (first := R.first) (next := R.next) HSE.out HTE.out HLE.out (.int .u64 (R.first : Int)) (.int .u64 (R.next : Int)) rfl rfl rfl
          rw [map_set2, HPS.out] at hfin
          rw [← HTT.out, HI.out]
          exact ⟨_, rfl, hfin⟩
    · rw [if_pos hkd] at hT
      subst hT
      have h97 : ((kd : Int) != 97) = true := by simp; omega
      have h114 : ((kd : Int) != 114) = true := by simp; omega
      clear hw HW
      go_wp2_with fail
      refine bodyPost_ret (v := .tuple #[.agg #[.int .u64 0, .int .u64 0, .slice none 0 0], .int .i64 1]) (by simp [results, Try.results51, go_sem, y0, y1, y2]) rfl ?_
      exact RTwoE.err HX1.out 1 rfl
end Go.Proofs.Ytjbdofjheeljkaa
namespace Go.Proofs.Ytjbdofjheeljkaa
open Go.RowKit
open Ldg (De Le Rd Rl)

theorem rdestsE : Try.prog.underlying 29 = some (.slice (Try.prog.elem 29)) := by kernel_rfl
theorem elem_rdests : Try.prog.elem 29 = 99 := by kernel_rfl
theorem size_rdest (w : World) : (sizeOf 99).run Try.prog w = .ok 3 w := by
  obtain ⟨i, hi, _, hs, _⟩ := info_parts info_rdest
  simp [sizeOf, typeInfo, hi, hs]
theorem rupto_dests (g l c n : Nat) (h : n ≤ c) (w : World) : (Instr.slice 29 (.slice (some ⟨g, 0, none⟩) l c) none (some (.int .i64 (n : Int))) none).run Try.prog w = .ok (.slice (some ⟨g, 0, none⟩) n c) w := by
  rw [run_slice_h (P := Try.prog) w 29 (some ⟨g, 0, none⟩) l c rdestsE .i64 (n : Int) (by omega) (by omega), elem_rdests, size_rdest]
  simp [Result.andThen, sliced, Addr.add]
theorem rfrom_dests (g l c n : Nat) (h : n ≤ l) (hlc : l ≤ c) : ∃ o, (∀ w, (Instr.slice 29 (.slice (some ⟨g, 0, none⟩) l c) (some (.int .i64 (n : Int))) none none).run Try.prog w = .ok (.slice (some ⟨g, o, none⟩) (l - n) (c - n)) w) ∧ (0 < l - n → o = n * 3) := by
  refine ⟨if c = n then 0 else n * 3, fun w => ?_, fun hh => by rw [if_neg (by omega)]⟩
  rw [run_slice_l (P := Try.prog) w 29 (some ⟨g, 0, none⟩) l c rdestsE .i64 (n : Int) (by omega) (by omega), elem_rdests, size_rdest]
  by_cases hc : c = n
  · simp [Result.andThen, sliced, hc]
  · by_cases h0 : n = 0
    · subst h0; simp [Result.andThen, sliced, Addr.add, hc]
    · simp [Result.andThen, sliced, Addr.add, hc, show ¬ n * 3 = 0 by omega]
theorem rrows_one {w : World} {B : Nat} {ps : List RV} (h : ∀ p ∈ ps, w.ownsRow B 5 1 p.2 p.1.all.length (bV p.1.all)) : ∀ u ∈ rrows ps, u.oneCell' = true := by
  intro u hu
  obtain ⟨p, hp, hu⟩ := List.mem_flatMap.1 hu
  obtain ⟨a', c', ep, _⟩ := lown_slice (h p hp)
  simp only [rrow, ep, List.mem_cons, List.not_mem_nil, or_false] at hu
  rcases hu with rfl | rfl | rfl <;> rfl
/-- A stretch of the row, as read. -/
theorem OwnR.part {w : World} {B g n c : Nat} {ps : List RV} (h : OwnR w B (.slice (some ⟨g, 0, none⟩) n c) ps) (i : Nat) (l : List RV) (hl : ∀ j (hj : j < l.length), ∃ hi : i + j < ps.length, ps[i + j] = l[j]) : ∀ j u, (rrows l)[j]? = some u → w.cell? ((⟨g, i * 3, none⟩ : Addr).add j) = some u := by
  intro j u hj
  have hn : n = ps.length := by
    rcases h.row.2 with ⟨h0, _⟩ | ⟨g', cap, cur, e1, _⟩
    · cases h0
    · simp only [Value.slice.injEq] at e1; exact e1.2.1
  subst hn
  have hjl := (List.getElem?_eq_some_iff.1 hj).1
  rw [rrows_len] at hjl
  have e : j = j / 3 * 3 + j % 3 := by omega
  have hq : j / 3 < l.length := by omega
  have hr : j % 3 < 3 := Nat.mod_lt _ (by omega)
  obtain ⟨hi, hp⟩ := hl (j / 3) hq
  rw [e, rrows_at l _ _ hq hr, ← hp] at hj
  rw [Addr.add_lit, World.ownsRow.cellAt h.row _ (by omega), show i * 3 + j = (i + j / 3) * 3 + j % 3 by omega, rrows_at ps _ _ hi hr]
  exact hj
theorem apart_iff {ps : List RV} : (∀ i j (hi : i < ps.length) (hj : j < ps.length), i ≠ j → ∀ b, ps[i].2.ownBlock = some b → ps[j].2.ownBlock ≠ some b) ↔ ps.Pairwise (fun p q => ∀ b, p.2.ownBlock = some b → q.2.ownBlock ≠ some b) := by
  rw [List.pairwise_iff_getElem]
  constructor
  · intro h i j hi hj hij
    exact h i j hi hj (by omega)
  · intro h i j hi hj hij b hb
    rcases Nat.lt_or_ge i j with hlt | hge
    · exact h i j hi hj hlt b hb
    · exact fun e => h j i hj hi (by omega) b e hb
/-- 'append(append([]Dest{}, out[:k]...), out[k+1:]...)'. -/
theorem OwnR.drop1 {w wa : World} {B g n c k o : Nat} {ps : List RV} (h : OwnR w B (.slice (some ⟨g, 0, none⟩) n c) ps) (hk : k < ps.length) (hl : ps.length ≤ 1000) (ho : 0 < n - (k + 1) → o = (k + 1) * 3) (hwa : w.alloc (.cells #[] 99) = wa) (hB : B ≤ w.heap.size) :
    ∃ (e1 : Option Addr) (c1 : Nat) (wb : World) (e2 : Option Addr) (c2 : Nat) (wc : World),
      (Builtin.append_ #[29, 29] 29 #[.slice (some ⟨w.heap.size, 0, none⟩) 0 0, .slice (some ⟨g, 0, none⟩) k c]).run Try.prog wa = .ok (.slice e1 k c1) wb ∧
      (Builtin.append_ #[29, 29] 29 #[.slice e1 k c1, .slice (some ⟨g, o, none⟩) (n - (k + 1)) (c - (k + 1))]).run Try.prog wb = .ok (.slice e2 (n - 1) c2) wc ∧
      OwnR wc B (.slice e2 (n - 1) c2) (ps.take k ++ ps.drop (k + 1)) ∧ Below w.heap.size wa wb ∧ Below w.heap.size wb wc := by
  have hn : n = ps.length := by
    rcases h.row.2 with ⟨h0, _⟩ | ⟨g', cap, cur, e1, _⟩
    · cases h0
    · simp only [Value.slice.injEq] at e1; exact e1.2.1
  subst hn
  obtain ⟨i0, hi, hz0, hz1, hz2⟩ := info_parts info_rdest
  have ka : Below w.heap.size w wa := by rw [← hwa]; exact (Below.refl _ _).alloc (Nat.le_refl _) _
  have sa : wa.heap.size = w.heap.size + 1 := by rw [← hwa]; simp
  have hemp : wa.ownsRow B 99 3 (.slice (some ⟨w.heap.size, 0, none⟩) 0 0) 0 [] :=
    ⟨rfl, .inr ⟨w.heap.size, 0, #[], rfl, hB, by rw [← hwa]; show (w.heap.push _)[w.heap.size]? = _; simp, Nat.le_refl _, Nat.zero_le _, rfl, rfl⟩⟩
  have hA := h.below ka
  have hpart1 := hA.part 0 (ps.take k) (fun j hj => by
    have hj2 : j < k ∧ j < ps.length := by rw [List.length_take] at hj; omega
    refine ⟨by omega, ?_⟩
    simp)
  obtain ⟨v1, wb, hr1, ho1, hg1, hob1⟩ := Ldg.app_own wa B 29 29 99 i0 _ 3 48 rdests_under hi hz0 hz1 hz2 rfl (by decide) _ 0 [] hemp ⟨g, 0, none⟩ k c (rrows (ps.take k)) (by rw [rrows_len, List.length_take, Nat.min_eq_left (by omega)]) (by simpa using hpart1) (rrows_one (fun p hp => hA.all p (List.mem_of_mem_take hp))) (by unfold maxLen; omega) (by omega) (by omega)
  rw [Nat.zero_add, List.nil_append] at ho1
  obtain ⟨e1, c1, hv1, _⟩ := lown_slice ho1
  subst hv1
  have hb1 : ∀ x, (Value.slice e1 k c1).ownBlock = some x → w.heap.size ≤ x := fun x hx => by
    rcases hob1 with e | e
    · rw [e] at hx; have := Option.some.inj hx; simp at this; omega
    · rw [e] at hx; have := Option.some.inj hx; omega
  have kb0 : Below w.heap.size wa wb := grown_bel hg1 (by omega) (fun x e => by have := Option.some.inj e; simp at this; omega)
  have kb := ka.trans kb0
  have hB2 := h.below kb
  have hpart2 : ∀ j u, (rrows (ps.drop (k + 1)))[j]? = some u → wb.cell? ((⟨g, o, none⟩ : Addr).add j) = some u := by
    by_cases h0 : 0 < ps.length - (k + 1)
    · rw [ho h0]
      exact hB2.part (k + 1) (ps.drop (k + 1)) (fun j hj => by
        have hj2 : j < ps.length - (k + 1) := by simpa using hj
        exact ⟨by omega, by simp⟩)
    · have : ps.drop (k + 1) = [] := List.drop_eq_nil_of_le (by omega)
      rw [this]
      intro j u hj
      simp [rrows] at hj
  obtain ⟨v2, wc, hr2, ho2, hg2, hob2⟩ := Ldg.app_own wb B 29 29 99 i0 _ 3 48 rdests_under hi hz0 hz1 hz2 rfl (by decide) _ k (rrows (ps.take k)) ho1 ⟨g, o, none⟩ (ps.length - (k + 1)) (c - (k + 1)) (rrows (ps.drop (k + 1))) (by rw [rrows_len, List.length_drop]) hpart2 (rrows_one (fun p hp => hB2.all p (List.mem_of_mem_drop hp))) (by unfold maxLen; omega) (by omega) (by have := kb.size; omega)
  rw [show k + (ps.length - (k + 1)) = ps.length - 1 by omega] at ho2
  obtain ⟨e2, c2, hv2, _⟩ := lown_slice ho2
  subst hv2
  have kc0 : Below w.heap.size wb wc := grown_bel hg2 kb.size (fun x e => hb1 x e)
  have hpl : (ps.take k ++ ps.drop (k + 1)).length = ps.length - 1 := by simp; omega
  refine ⟨e1, c1, wb, e2, c2, wc, hr1, hr2, ⟨?_, fun p hp => ?_, ?_⟩, kb0, kc0⟩
  · rw [hpl, rrows_app]; exact ho2
  · have hpp : p ∈ ps := by
      rcases List.mem_append.1 hp with hp | hp
      · exact List.mem_of_mem_take hp
      · exact List.mem_of_mem_drop hp
    have ha := h.all p hpp
    exact lown_keep ha (fun x e => (kb.trans kc0).block x (lown_lt ha e).1)
  · rw [apart_iff, ← List.eraseIdx_eq_take_drop_succ]
    exact (apart_iff.1 h.apart).sublist (List.eraseIdx_sublist ps k)
set_option maxRecDepth 100000 in
set_option maxHeartbeats 1600000 in
theorem rleave_any {w : World} {v : Value} {R : Rl} (h : RlAt w v R) (hf : R.Ok) (n : ByteArray) :
    Calls Try.prog 49 #[v, .string n] w (RTwoE w (R.leave n)) := by
  have HRL := hide h
  obtain ⟨a, c, qs, rfl, hc, hd, hds⟩ := h
  have hmn := rmany_of hf hd
  have hnb := hf.nb
  have hnm := rnames_eq hd
  have hall : ∀ d ∈ R.dests, d.all.length ≤ 10000000 := fun d hd => by have := (hf.each d hd).ends; omega
  obtain ⟨m, hm⟩ : ∃ m, qs.length = m := ⟨_, rfl⟩
  have hpl := fun W (hW : Below w.heap.size w W) => rplace_any (R.first : Int) (R.next : Int) a c qs n W (hds.below hW) (by omega)
  rw [hm] at hc hmn HRL hpl ⊢
  have hlc := fun W (hW : Below w.heap.size w W) => rcopied_any (HRL.out.below hW) hf.many (fun d hd => by have := hall d hd; omega)
  have HLC := hide hlc
  have HALL := hide hall
  have HF := hide hf
  have HPL := hide hpl
  have HD := hide hd
  have HDS := hide hds
  have HM := hide hm
  have HNM := hide hnm
  obtain ⟨wA, hwA⟩ : ∃ W, (w.alloc (.cells #[.int .u64 (R.first : Int), .int .u64 (R.next : Int), .slice a m c] 31)).alloc (.cells #[.int .u64 0, .int .u64 0, .slice none 0 0] 31) = W := ⟨_, rfl⟩
  have hbx := RBox2.made w (.int .u64 (R.first : Int)) (.int .u64 (R.next : Int)) a m c
  rw [hwA] at hbx
  have z0 := lcell_of hbx.b0 0 rfl
  have z1 := lcell_of hbx.b0 1 rfl
  have z2 := lcell_of hbx.b0 2 rfl
  have y0 := lcell_of hbx.b1 0 rfl
  have y1 := lcell_of hbx.b1 1 rfl
  have y2 := lcell_of hbx.b1 2 rfl
  have fy := lfrozen_of hbx.b1
  have HBX := hide hbx
  obtain ⟨T, hT⟩ : ∃ T, R.leave n = T := ⟨_, rfl⟩
  rw [hT]
  unfold Rl.leave Rl.names at hT
  rw [hnm] at hT
  have HT := hide hT
  clear hlc hpl hm hds hd hf hc hbx hnm hall hT
  go_enter Try.func49, Try.ntmps49
  go_wp2_with fail
  refine (HPL.out _ HBX.out.bel).mono ?_
  rintro e w1 ⟨rfl, hb1⟩
  have HX1 := hide (HBX.out.then hb1)
  clear z0 z1 z2 y0 y1 y2 fy hwA hb1
  have z0 := lcell_of HX1.out.b0 0 rfl
  have z1 := lcell_of HX1.out.b0 1 rfl
  have z2 := lcell_of HX1.out.b0 2 rfl
  have y0 := lcell_of HX1.out.b1 0 rfl
  have y1 := lcell_of HX1.out.b1 1 rfl
  have y2 := lcell_of HX1.out.b1 2 rfl
  have fy := lfrozen_of HX1.out.b1
  rcases Ldg.plc_cases (qs.map (fun p => p.1.name)) n with ⟨hp, _⟩ | ⟨k, hk, hp, _⟩
  · have hT := HT.out
    rw [if_pos hp] at hT
    subst hT
    rw [hp]
    clear HT hp
    go_wp2_with fail
    refine bodyPost_ret (v := .tuple #[.agg #[.int .u64 0, .int .u64 0, .slice none 0 0], .int .i64 5]) (by simp [results, Try.results49, go_sem, y0, y1, y2]) rfl ?_
    exact RTwoE.err HX1.out 5 rfl
  · rw [List.length_map] at hk
    have hT := HT.out
    rw [hp, if_neg (by omega), Int.toNat_natCast] at hT
    have HTT := hide hT
    have hkm : k < m := by have := HM.out; omega
    have hk0 : ¬ (k : Int) < 0 := by omega
    rw [hp]
    clear hp HT hT
    go_wp2_with fail
    refine (HLC.out _ HX1.out.bel).mono ?_
    rintro e w3 ⟨ea, n', ec, ps, rfl, hnp, hps, hown, hb3⟩
    have HX3 := hide (HX1.out.then hb3)
    have hx3 := HX3.out
    have s1 := hx3.size
    have HPS := hide hps
    obtain ⟨N, hN⟩ : ∃ N, w3.heap.size = N := ⟨_, rfl⟩
    rw [hN] at s1
    have hs1 := HX1.out.size
    have hln := congrArg List.length hps
    rw [List.length_map] at hln
    have hdm : R.dests.length = m := by rw [HD.out, List.length_map, HM.out]
    have hkn : k < ps.length := by omega
    have hn4 : n' ≤ 4 := by have := HF.out.many; omega
    obtain ⟨g, rfl, hnn, hBg, hgl⟩ := rown_some hown (by omega)
    clear hnn
    have hnec : n' ≤ ec := by
      obtain ⟨a', c', e, h1⟩ := lown_slice hown.row
      simp only [Value.slice.injEq] at e
      omega
    obtain ⟨wB, hwB⟩ : ∃ W, w3.alloc (.cells #[.int .u64 (R.first : Int), .int .u64 (R.next : Int), .slice (some ⟨g, 0, none⟩) n' ec] 31) = W := ⟨_, rfl⟩
    have o0 : wB.heap[N]? = some (.cells #[.int .u64 (R.first : Int), .int .u64 (R.next : Int), .slice (some ⟨g, 0, none⟩) n' ec] 31 (0, 0)) := by
      rw [← hwB, ← hN]; show (w3.heap.push _)[w3.heap.size]? = _; simp
    have kB : Below w3.heap.size w3 wB := by rw [← hwB]; exact (Below.refl _ _).alloc (Nat.le_refl _) _
    have sB : wB.heap.size = N + 1 := by rw [← hwB]; simp [hN]
    obtain ⟨k1, hk1⟩ : ∃ k1, k + 1 = k1 := ⟨_, rfl⟩
    have hk1i : (k : Int) + 1 = (k1 : Int) := by omega
    have HK1 := hide hk1
    obtain ⟨o, hs2, ho⟩ := rfrom_dests g n' ec k1 (by omega) hnec
    have hs3 := fun W => rupto_dests g n' ec k (by omega) W
    obtain ⟨q1, hq1⟩ : ∃ x, n' - k1 = x := ⟨_, rfl⟩
    obtain ⟨q2, hq2⟩ : ∃ x, ec - k1 = x := ⟨_, rfl⟩
    obtain ⟨nd, hnd⟩ : ∃ x, n' - 1 = x := ⟨_, rfl⟩
    have hd1 := fun (W Wa : World) (hW : Below wB.heap.size wB W) (hWa : W.alloc (.cells #[] 99) = Wa) => ((hown.below kB).below hW).drop1 (o := o) hkn (by omega) (by rw [hk1]; exact ho) hWa (by have := hb3.size; have := hW.size; omega)
    rw [hk1, hq1, hq2, hnd] at hd1
    rw [hq1, hq2] at hs2
    have HD1 := hide hd1
    have x0 := lcell_of o0 0 rfl
    have x1 := lcell_of o0 1 rfl
    have x2 := lcell_of o0 2 rfl
    have HO0 := hide o0
    have HXB := hide (hx3.then kB)
    have HSB := hide sB
    clear hx3 hown hps hb3 o0 kB sB hnp hln hd1 hq1 hq2 hnd ho hk1 hdm z0 z1 z2 y0 y1 y2 fy
    go_wp2_with fail
    refine wp_region_growK (fun x => x = N) [([1, 2, 3, 4, 6, 7, 8, 9, 10], 0), ([], 5), ([], 11)] [] [12, 13] (by kernel_rfl) (by kernel_rfl) (by kernel_rfl) (by kernel_rfl) ?_
    intro wq hbq
    simp only [stagesOfK, getLK, pickLK]
    obtain ⟨wa, hwa⟩ : ∃ W, wq.alloc (.cells #[] 99) = W := ⟨_, rfl⟩
    obtain ⟨e1, c1, wb, e2, c2, wc, hap1, hap2, hoc, kb, kc⟩ := HD1.out wq wa hbq hwa
    have sq : N + 1 ≤ wq.heap.size := by have := HSB.out; have := hbq.size; omega
    have oq := (hbq.block N (by have := HSB.out; omega)).trans HO0.out
    have xq := HXB.out.then hbq
    have ka : Below wq.heap.size wq wa := by rw [← hwa]; exact (Below.refl _ _).alloc (Nat.le_refl _) _
    have sa : wa.heap.size = wq.heap.size + 1 := by rw [← hwa]; simp
    have k1' : Kept (fun x => x = N) wq wa := Kept.of_below ka (fun x hx => by omega)
    have k2' : Kept (fun x => x = N) wa wb := Kept.of_below kb (fun x hx => by omega)
    have k3' : Kept (fun x => x = N) wb wc := Kept.of_below kc (fun x hx => by omega)
    have kall := ka.trans (kb.trans kc)
    have o3 := (kall.block N (by omega)).trans oq
    have b3 := (kall.block (w.heap.size + 1) (by omega)).trans xq.b1
    have l3 : Below w.heap.size w wc := xq.bel.trans (kall.mono xq.bel.size)
    obtain ⟨wE, hwE⟩ : ∃ W, wc.setCell ⟨N, 2, none⟩ (.slice e2 nd c2) = W := ⟨_, rfl⟩
    have o4 : wE.heap[N]? = some (.cells #[.int .u64 (R.first : Int), .int .u64 (R.next : Int), .slice e2 nd c2] 31 (0, 0)) := by
      rw [← hwE]; exact box_set o3 _
    have k34 : Kept (fun b => b ≠ N) wc wE := by rw [← hwE]; exact Kept.setCell (Kept.refl _ _) (fun _ h e => h e) _
    have b4 := (k34.block (w.heap.size + 1) (by omega)).trans b3
    have l4 := l3.trans (k34.bel (B := w.heap.size) (fun b hb => by omega))
    have ho4 := hoc.other o3 (by decide) (by decide) k34
    have e2c := lcell_of oq 2 rfl
    have w32 := lcell_of o3 2 rfl
    have w3f := lfrozen_of o3
    have p0 := lcell_of o4 0 rfl
    have p1 := lcell_of o4 1 rfl
    have p2 := lcell_of o4 2 rfl
    have d0 := lcell_of b4 0 rfl
    have d1 := lcell_of b4 1 rfl
    have d2 := lcell_of b4 2 rfl
    have fd := lfrozen_of b4
    have HO4 := hide ho4
    have HB4 := hide b4
    have HL4 := hide l4
    have HAP1 := hide hap1
    have HAP2 := hide hap2
    have inh : Nonempty (GrK (fun x => x = N) wq) := GrK.some _ wq
    have zz := fun z : GrK (fun x => x = N) wq => z.cell (a := ⟨N, 2, none⟩) rfl e2c
    clear oq xq ka sa kall o3 b3 l3 k34 o4 b4 l4 ho4 hoc hap1 hap2 kb kc hbq e2c x0 x1 x2
    refine wpG_stageK ?_
    repeat (go_big_quiet_step (fail))
    refine wpQuiet_nil ?_
    clear zz inh
    go_wp2_with fail
    refine OnToK.mk k1' (Sub.refl _) ?_
    refine wpG_stageK (wpQuiet_nil ?_)
    go_wp2_with (at_builtin; refine Ldg.wpList_app_run rfl _ _ _ _ rfl rfl rfl HAP1.out ?_)
    go_wp2_with fail
    refine OnToK.mk k2' (Sub.refl _) ?_
    refine wpG_stageK (wpQuiet_nil ?_)
    go_wp2_with (at_builtin; refine Ldg.wpList_app_run rfl _ _ _ _ rfl rfl rfl HAP2.out ?_)
    go_wp2_with fail
    refine OnToK.mk k3' (Sub.refl _) ?_
    refine wpG_lastK (wpQuiet_nil ?_)
    go_wp2_with fail
    refine bodyPost_ret (v := .tuple #[.agg #[.int .u64 (R.first : Int), .int .u64 (R.next : Int), .slice e2 nd c2], .int .i64 0]) (by simp [results, Try.results49, go_sem, d0, d1, d2]) rfl ?_
    have hfin := rled_told (w := w) (first := R.first) (next := R.next) HO4.out HB4.out HL4.out (.int .u64 (R.first : Int)) (.int .u64 (R.next : Int)) rfl rfl rfl
    rw [List.map_append, List.map_take, List.map_drop, HPS.out] at hfin
    rw [← HTT.out, HK1.out]
    exact ⟨_, rfl, hfin⟩
end Go.Proofs.Ytjbdofjheeljkaa
namespace Go.Proofs.Ytjbdofjheeljkaa
open Go.RowKit
open Ldg (De Le Rd Rl)

theorem evs_add : ∀ (l m : List Nat) (s t : Nat), Ldg.evs s t (l ++ m) = Ldg.evs s t l ++ Ldg.evs (s + l.length) t m
  | [], m, s, t => by simp [Ldg.evs]
  | y :: r, m, s, t => by
    have ih := evs_add r m (s + 1) t
    rw [List.length_cons, show s + (r.length + 1) = s + 1 + r.length by omega]
    simp only [List.cons_append, Ldg.evs]
    rw [ih]
/-- As far as it has come. -/
def evAt (s t i : Nat) (al : List Nat) : List Nat := Ldg.evs s t (al.take i) ++ al.drop i
theorem evAt_len (s t i : Nat) (al : List Nat) : (evAt s t i al).length = al.length := by
  unfold evAt
  rw [List.length_append, Ldg.evs_len, List.length_take, List.length_drop]; omega
theorem evAt_zero (s t : Nat) (al : List Nat) : evAt s t 0 al = al := by simp [evAt, Ldg.evs]
theorem evAt_all (s t : Nat) {i : Nat} {al : List Nat} (h : al.length ≤ i) : evAt s t i al = Ldg.evs s t al := by
  unfold evAt; rw [List.take_of_length_le h, List.drop_eq_nil_of_le h, List.append_nil]
theorem evAt_at (s t : Nat) {i : Nat} {al : List Nat} (h : i < al.length) : (evAt s t i al)[i]'(by rw [evAt_len]; exact h) = al[i] := by
  unfold evAt
  have hl : (Ldg.evs s t (al.take i)).length = i := by rw [Ldg.evs_len, List.length_take]; omega
  rw [List.getElem_append_right (by omega)]
  simp only [hl, Nat.sub_self]
  simp
theorem evAt_next (s t : Nat) {i x : Nat} {al : List Nat} (h : i < al.length) (hx : al[i] = x) : evAt s t (i + 1) al = if s + i < t ∧ x = 112 then (evAt s t i al).set i 101 else evAt s t i al := by
  have hl : (Ldg.evs s t (al.take i)).length = i := by rw [Ldg.evs_len, List.length_take]; omega
  have ht : (al.take i).length = i := by rw [List.length_take]; omega
  unfold evAt
  rw [List.take_succ_eq_append_getElem h, evs_add, ht, hx, List.drop_eq_getElem_cons h, hx]
  by_cases hc : s + i < t ∧ x = 112
  · rw [if_pos hc, List.set_append_right _ _ (by omega), hl, Nat.sub_self, List.set_cons_zero]
    simp [Ldg.evs, hc]
  · rw [if_neg hc]
    simp [Ldg.evs, hc]
set_option maxRecDepth 100000 in
set_option maxHeartbeats 3200000 in
theorem revict_any {w : World} {v : Value} {R : Rl} (h : RlAt w v R) (hf : R.Ok) (t : Nat) :
    Calls Try.prog 52 #[v, .int .u64 (t : Int)] w (RTwoE w (R.evict t)) := by
  have HRL := hide h
  obtain ⟨a, c, qs, rfl, hc, hd, hds⟩ := h
  have hmn := rmany_of hf hd
  have hnb := hf.nb
  have hall : ∀ d ∈ R.dests, d.all.length ≤ 10000000 := fun d hd => by have := (hf.each d hd).ends; omega
  obtain ⟨m, hm⟩ : ∃ m, qs.length = m := ⟨_, rfl⟩
  rw [hm] at hc hmn HRL ⊢
  have hlc := fun W (hW : Below w.heap.size w W) => rcopied_any (HRL.out.below hW) hf.many (fun d hd => by have := hall d hd; omega)
  have HLC := hide hlc
  have HALL := hide hall
  have HF := hide hf
  obtain ⟨wA, hwA⟩ : ∃ W, (w.alloc (.cells #[.int .u64 (R.first : Int), .int .u64 (R.next : Int), .slice a m c] 31)).alloc (.cells #[.int .u64 0, .int .u64 0, .slice none 0 0] 31) = W := ⟨_, rfl⟩
  have hbx := RBox2.made w (.int .u64 (R.first : Int)) (.int .u64 (R.next : Int)) a m c
  rw [hwA] at hbx
  have z0 := lcell_of hbx.b0 0 rfl
  have z1 := lcell_of hbx.b0 1 rfl
  have z2 := lcell_of hbx.b0 2 rfl
  have y0 := lcell_of hbx.b1 0 rfl
  have y1 := lcell_of hbx.b1 1 rfl
  have y2 := lcell_of hbx.b1 2 rfl
  have fy := lfrozen_of hbx.b1
  have HBX := hide hbx
  obtain ⟨T, hT⟩ : ∃ T, R.evict t = T := ⟨_, rfl⟩
  rw [hT]
  have HT := hide hT
  clear hlc hm hds hd hf hc hbx hall hT
  by_cases t1 : t < R.first
  · have hT := HT.out
    unfold Rl.evict at hT
    rw [if_pos (.inl t1)] at hT
    subst hT
    clear HT
    go_enter Try.func52, Try.ntmps52
    go_wp2_with fail
    refine bodyPost_ret (v := .tuple #[.agg #[.int .u64 0, .int .u64 0, .slice none 0 0], .int .i64 1]) (by simp [results, Try.results52, go_sem, y0, y1, y2]) rfl ?_
    exact RTwoE.err HBX.out 1 rfl
  · by_cases t2 : R.next < t
    · have hT := HT.out
      unfold Rl.evict at hT
      rw [if_pos (.inr t2)] at hT
      subst hT
      clear HT
      go_enter Try.func52, Try.ntmps52
      go_wp2_with fail
      refine bodyPost_ret (v := .tuple #[.agg #[.int .u64 0, .int .u64 0, .slice none 0 0], .int .i64 1]) (by simp [results, Try.results52, go_sem, y0, y1, y2]) rfl ?_
      exact RTwoE.err HBX.out 1 rfl
    · have hT := HT.out
      unfold Rl.evict at hT
      rw [if_neg (by omega)] at hT
      subst hT
      clear HT
      go_enter Try.func52, Try.ntmps52
      go_wp2_with fail
      refine (HLC.out _ HBX.out.bel).mono ?_
      rintro e w1 ⟨ea, n', ec, ps, rfl, hnp, hps, hown, hb1⟩
      have HX1 := hide (HBX.out.then hb1)
      have hx1 := HX1.out
      have s1 := hx1.size
      have sA := HBX.out.size
      obtain ⟨N, hN⟩ : ∃ N, w1.heap.size = N := ⟨_, rfl⟩
      obtain ⟨G, hG⟩ : ∃ G, wA.heap.size = G := ⟨_, rfl⟩
      rw [hG] at hown sA
      rw [hN] at s1
      have hGN : G ≤ N := by have := hb1.size; omega
      obtain ⟨wB, hwB⟩ : ∃ W, w1.alloc (.cells #[.int .u64 (R.first : Int), .int .u64 (R.next : Int), .slice ea n' ec] 31) = W := ⟨_, rfl⟩
      have o0 : wB.heap[N]? = some (.cells #[.int .u64 (R.first : Int), .int .u64 (R.next : Int), .slice ea n' ec] 31 (0, 0)) := by
        rw [← hwB, ← hN]; show (w1.heap.push _)[w1.heap.size]? = _; simp
      have kB : Below w1.heap.size w1 wB := by rw [← hwB]; exact (Below.refl _ _).alloc (Nat.le_refl _) _
      obtain ⟨wC, hwC⟩ : ∃ W, wB.setCell ⟨N, 0, none⟩ (.int .u64 (t : Int)) = W := ⟨_, rfl⟩
      have o1 : wC.heap[N]? = some (.cells #[.int .u64 (t : Int), .int .u64 (R.next : Int), .slice ea n' ec] 31 (0, 0)) := by
        rw [← hwC]; exact box_set o0 _
      have kC : Below w1.heap.size w1 wC := by rw [← hwC]; exact kB.setCell (p := ⟨N, 0, none⟩) (by show w1.heap.size ≤ N; omega) _
      have t1' := (hx1.then kC).b1
      have sC : wC.heap.size = N + 1 := by rw [← hwC, ← hwB]; simp [World.setCell, hN]
      have x0 := lcell_of o0 0 rfl
      have x1 := lcell_of o0 1 rfl
      have x2 := lcell_of o0 2 rfl
      have fx := lfrozen_of o0
      have HOWN := hide (hown.below kC)
      have HBC := hide (bl hx1.bel kC)
      have HO1 := hide o1
      have HT1 := hide t1'
      have HSC := hide sC
      have HPS := hide hps
      have hld : R.dests.length = n' := by
        have h2 := congrArg List.length hps
        rw [List.length_map] at h2
        omega
      have HLD := hide hld
      have hn4 : n' ≤ 4 := by have := HF.out.many; omega
      clear hx1 hown hps hnp hb1 o0 o1 t1' kB kC sC hG hld z0 z1 z2 y0 y1 y2 fy
      go_wp2_with fail
      clear x0 x1 x2 fx hwB hwC hwA
      go_loopw [7] (fun vi wr => ∃ (k : Nat) (rs : List RV), k ≤ n' ∧ vi = .int .i64 (k : Int) ∧ rs.map Prod.fst = Ldg.upTo (fun d : Rd => { d with all := Ldg.evs d.since t d.all }) k R.dests ∧ OwnR wr G (.slice ea n' ec) rs ∧ Below w.heap.size w wr ∧ N < wr.heap.size ∧
          wr.heap[N]? = some (.cells #[.int .u64 (t : Int), .int .u64 (R.next : Int), .slice ea n' ec] 31 (0, 0)) ∧ wr.heap[w.heap.size + 1]? = some (.cells #[.int .u64 0, .int .u64 0, .slice none 0 0] 31 (0, 0)))
        (fun vi _ => n' - (intOf vi).toNat)
      case atStart => exact ⟨0, ps, Nat.zero_le _, rfl, by rw [Ldg.upTo_zero]; exact HPS.out, HOWN.out, HBC.out, by have := HSC.out; omega, HO1.out, HT1.out⟩
      case round =>
        obtain ⟨k, rs, hk, rfl, hrs, hown, hnx, hNs, ho, ht⟩ := hrel
        have hlr : rs.length = n' := by
          have h1 := congrArg List.length hrs
          rw [List.length_map, Ldg.upTo_len] at h1
          have := HLD.out
          omega
        have c2 := lcell_of ho 2 rfl
        by_cases hlt : k < n'
        · have hkd : k < R.dests.length := by have := HLD.out; omega
          obtain ⟨⟨nm, s, al⟩, hd⟩ : ∃ d, R.dests[k] = d := ⟨_, rfl⟩
          have hok := HF.out.each _ (List.getElem_mem hkd)
          rw [hd] at hok
          have hen := hok.ends
          simp only at hen
          have hset0 : rs.map Prod.fst = (Ldg.upTo (fun d : Rd => { d with all := Ldg.evs d.since t d.all }) k R.dests).set k ⟨nm, s, evAt s t 0 al⟩ := by
            rw [hrs, evAt_zero]
            have h1 := Ldg.upTo_at (fun d : Rd => { d with all := Ldg.evs d.since t d.all }) hkd
            rw [hd] at h1
            rw [← h1, List.set_getElem_self]
          have HS0 := hide hset0
          have HO := hide hown
          have HNX := hide hnx
          have HOO := hide ho
          have HTT := hide ht
          have HNS := hide hNs
          have HDK := hide hd
          have HEN := hide hen
          have HKD := hide hkd
          have HLR := hide hlr
          obtain ⟨wo, hwo⟩ : ∃ wo, wo = wr := ⟨_, rfl⟩
          subst hwo
          obtain ⟨ln, hln⟩ : ∃ x, al.length = x := ⟨_, rfl⟩
          have HLN := hide hln
          clear hset0 hown hnx ho ht hNs hd hok hen hrs hlr hln
          go_wp2_with fail
          clear c2
          go_loopw [8] (fun vi wr => ∃ (i : Nat) (rs : List RV), i ≤ ln ∧ vi = .int .i64 (i : Int) ∧ rs.map Prod.fst = (Ldg.upTo (fun d : Rd => { d with all := Ldg.evs d.since t d.all }) k R.dests).set k ⟨nm, s, evAt s t i al⟩ ∧ OwnR wr G (.slice ea n' ec) rs ∧ Below w.heap.size w wr ∧ N < wr.heap.size ∧
              wr.heap[N]? = some (.cells #[.int .u64 (t : Int), .int .u64 (R.next : Int), .slice ea n' ec] 31 (0, 0)) ∧ wr.heap[w.heap.size + 1]? = some (.cells #[.int .u64 0, .int .u64 0, .slice none 0 0] 31 (0, 0)))
            (fun vi _ => ln - (intOf vi).toNat)
          case atStart => exact ⟨0, rs, Nat.zero_le _, rfl, HS0.out, HO.out, HNX.out, HNS.out, HOO.out, HTT.out⟩
          case round =>
            obtain ⟨i, qs2, hi, rfl, hqs, hown, hnx, hNs, ho, ht⟩ := hrel
            have hql : qs2.length = n' := by
              have h1 := congrArg List.length hqs
              rw [List.length_map, List.length_set, Ldg.upTo_len] at h1
              have := HLD.out
              omega
            have hkq : k < qs2.length := by omega
            obtain ⟨g, rfl, hnn, hBg, hgl⟩ := rown_some hown (by omega)
            clear hnn
            obtain ⟨nm', s', al', va, vc, hz, r0, r1, r2, fz⟩ := hown.get hkq
            have hmem : ((⟨nm', s', al'⟩, .slice va al'.length vc) : RV) ∈ qs2 := by rw [← hz]; exact List.getElem_mem hkq
            have hpd : (⟨nm', s', al'⟩ : Rd) = ⟨nm, s, evAt s t i al⟩ := by
              have h1 : (qs2.map Prod.fst)[k]'(by rw [List.length_map]; exact hkq) = qs2[k].1 := List.getElem_map _
              have h2 : qs2[k].1 = ⟨nm', s', al'⟩ := by rw [hz]
              rw [← h2, ← h1]
              simp only [hqs, List.getElem_set_self]
            simp only [Rd.mk.injEq] at hpd
            obtain ⟨rfl, rfl, rfl⟩ := hpd
            have hal' := evAt_len s' t i al
            have hln := HLN.out
            rw [hal', hln] at r2 hz
            have n2 := lcell_of ho 2 rfl
            have HQS := hide hqs
            have HO2 := hide hown
            have HNX2 := hide hnx
            have HOO2 := hide ho
            have HTT2 := hide ht
            have HNS2 := hide hNs
            have HZ := hide hz
            have HKQ := hide hkq
            by_cases hlti : i < ln
            · have hia : i < al.length := by omega
              have hab := hown.all _ hmem
              simp only at hab
              rw [hal', hln] at hab
              obtain ⟨b, rfl⟩ : ∃ b, va = some ⟨b, 0, none⟩ := by
                rcases hab.2 with ⟨h0, h1⟩ | ⟨gg, cap, cur, e, _⟩
                · omega
                · simp only [Value.slice.injEq] at e; exact ⟨gg, e.1⟩
              obtain ⟨x, hx⟩ : ∃ x, al[i] = x := ⟨_, rfl⟩
              have hil : i < (evAt s' t i al).length := by omega
              have cb : wr.cell? ⟨b, i, none⟩ = some (.int .u8 (x : Int)) := by
                rw [World.ownsRow.cellAt hab i (by omega)]
                have := evAt_at s' t hia
                rw [hx] at this
                simp [bV, hil, this]
              have fb : ∀ j, wr.frozen? ⟨b, j, none⟩ = false := fun j => hab.frozenAt _
              have hnext := evAt_next s' t hia hx
              have HNE := hide hnext
              obtain ⟨si, hsi⟩ : ∃ y, s' + i = y := ⟨_, rfl⟩
              have u1 : (s' : Int) + (i : Int) = (si : Int) := by omega
              have hsib : si ≤ 10000000 := by have := HEN.out; omega
              have u2 : IntKind.u64.wrap (i : Int) = (i : Int) := by rw [IntKind.wrap_u64]; omega
              have u3 : IntKind.u64.wrap (si : Int) = (si : Int) := by rw [IntKind.wrap_u64]; omega
              rw [hsi] at HNE
              have hbN : N ≠ b := fun e => by
                obtain ⟨cc, hcc⟩ := kind_of hab (g := b) rfl
                rw [← e, ho] at hcc
                simp only [Option.some.injEq, Obj.cells.injEq] at hcc
                exact absurd hcc.2.1 (by decide)
              have hbG : G ≤ b := (lown_lt hab (g := b) rfl).2
              clear hmem hqs hown hnx hNs ho ht hz hab hil hnext hal' hln hx hia hsi
              by_cases hc : si < t ∧ x = 112
              · obtain ⟨hc1, rfl⟩ := hc
                have hn3 := HNE.out
                rw [if_pos ⟨hc1, rfl⟩] at hn3
                have hse := HO2.out.setAll HKQ.out HZ.out i 101
                obtain ⟨wE, hwE⟩ : ∃ W, wr.setCell ⟨b, i, none⟩ (.int .u8 101) = W := ⟨_, rfl⟩
                have kE : Kept (fun x => x ≠ b) wr wE := by rw [← hwE]; exact Kept.setCell (Kept.refl _ _) (fun _ h e => h e) _
                have hse2 : OwnR wE G (.slice (some ⟨g, 0, none⟩) n' ec) (qs2.set k (⟨nm', s', (evAt s' t i al).set i 101⟩, .slice (some ⟨b, 0, none⟩) ln vc)) := by rw [← hwE]; exact hse
                have oE := (kE.block N hbN).trans HOO2.out
                have tE := (kE.block (w.heap.size + 1) (by omega)).trans HTT2.out
                have lE := HNX2.out.trans (kE.bel (B := w.heap.size) (fun x hx => by omega))
                have sE : N < wE.heap.size := Nat.lt_of_lt_of_le HNS2.out kE.size
                have mE : (qs2.set k (⟨nm', s', (evAt s' t i al).set i 101⟩, .slice (some ⟨b, 0, none⟩) ln vc)).map Prod.fst = (Ldg.upTo (fun d : Rd => { d with all := Ldg.evs d.since t d.all }) k R.dests).set k ⟨nm', s', evAt s' t (i + 1) al⟩ := by
                  rw [map_set2, HQS.out, List.set_set, hn3]
                have HSE := hide hse2
                have HOE := hide oE
                have HTE := hide tE
                have HLE := hide lE
                have HME := hide mE
                clear hse hse2 kE oE tE lE mE hn3
                go_wp2_with fail
                go_roundw
                case rel => exact ⟨i + 1, _, by omega, by go_num, HME.out, HSE.out, HLE.out, sE, HOE.out, HTE.out⟩
                case measure => simp [intOf]; omega
              · have hn3 := HNE.out
                rw [if_neg hc] at hn3
                have mE : qs2.map Prod.fst = (Ldg.upTo (fun d : Rd => { d with all := Ldg.evs d.since t d.all }) k R.dests).set k ⟨nm', s', evAt s' t (i + 1) al⟩ := by rw [hn3]; exact HQS.out
                have HME := hide mE
                clear mE hn3
                by_cases hc1 : si < t
                · have hx2 : ¬ x = 112 := fun e => hc ⟨hc1, e⟩
                  have hxe : ((x : Int) == 112) = false := beq_eq_false_iff_ne.2 (by omega)
                  go_wp2_with fail
                  go_roundw
                  case rel => exact ⟨i + 1, qs2, by omega, by go_num, HME.out, HO2.out, HNX2.out, HNS2.out, HOO2.out, HTT2.out⟩
                  case measure => simp [intOf]; omega
                · have hc2 : ¬ (si : Int) < (t : Int) := by omega
                  go_wp2_with fail
                  go_roundw
                  case rel => exact ⟨i + 1, qs2, by omega, by go_num, HME.out, HO2.out, HNX2.out, HNS2.out, HOO2.out, HTT2.out⟩
                  case measure => simp [intOf]; omega
            · have hin : i = ln := by omega
              subst hin
              have mE : qs2.map Prod.fst = Ldg.upTo (fun d : Rd => { d with all := Ldg.evs d.since t d.all }) (k + 1) R.dests := by
                rw [hqs, evAt_all _ _ (by omega)]
                have h1 := Ldg.upTo_next (fun d : Rd => { d with all := Ldg.evs d.since t d.all }) HKD.out
                rw [← h1, HDK.out]
              have HME := hide mE
              clear hmem hqs hown hnx hNs ho ht hz mE hal' hln
              go_wp2_with fail
              go_roundw
              case rel => exact ⟨k + 1, qs2, by omega, by go_num, HME.out, HO2.out, HNX2.out, HNS2.out, HOO2.out, HTT2.out⟩
              case measure => simp [intOf]; omega
        · have hkn : k = n' := by omega
          subst hkn
          have d0 := lcell_of ht 0 rfl
          have d1 := lcell_of ht 1 rfl
          have d2 := lcell_of ht 2 rfl
          have fd := lfrozen_of ht
          have c0 := lcell_of ho 0 rfl
          have c1 := lcell_of ho 1 rfl
          have HO := hide hown
          have HB := hide hnx
          have HTT := hide ht
          have hrs2 : rs.map Prod.fst = R.dests.map (fun d : Rd => { d with all := Ldg.evs d.since t d.all }) := by
            rw [hrs, Ldg.upTo_all _ _ (by have := HLD.out; omega)]
          have HRS := hide hrs2
          clear hrs hown hnx ho ht hrs2 hNs hlr
          go_wp2_with fail
          refine bodyPost_ret (v := .tuple #[.agg #[.int .u64 (t : Int), .int .u64 (R.next : Int), .slice ea k ec], .int .i64 0]) (by simp [results, Try.results52, go_sem, d0, d1, d2]) rfl ?_
          have hfin := rled_told (w := w) (first := t) (next := R.next) HO.out HTT.out HB.out (.int .u64 (t : Int)) (.int .u64 (R.next : Int)) rfl rfl rfl
          rw [HRS.out] at hfin
          exact ⟨_, rfl, hfin⟩
end Go.Proofs.Ytjbdofjheeljkaa
