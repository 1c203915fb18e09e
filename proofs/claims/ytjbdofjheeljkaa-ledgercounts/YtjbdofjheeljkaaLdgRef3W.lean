/-
  The document's destinations in memory; its place, Waits.
-/
import Derived.Test.YtjbdofjheeljkaaLdgRef2W
import Derived.Test.YtjbdofjheeljkaaLdgDW
namespace Go.Proofs.Ytjbdofjheeljkaa
open Go.RowKit
open Ldg (De Le Rd Rl)

abbrev RV := Rd × Value
def rrow (p : RV) : List Value := [.string p.1.name, .int .u64 (p.1.since : Int), p.2]
def rrows (l : List RV) : List Value := l.flatMap rrow
theorem rrow_len (p : RV) : (rrow p).length = 3 := rfl
theorem rrows_len : ∀ l : List RV, (rrows l).length = l.length * 3
  | [] => rfl
  | p :: r => by simp only [rrows, List.flatMap_cons, List.length_append, rrow_len, List.length_cons]; have := rrows_len r; simp only [rrows] at this; omega
theorem rrows_app (a b : List RV) : rrows (a ++ b) = rrows a ++ rrows b := by simp [rrows]
theorem rrows_at : ∀ (l : List RV) (j i : Nat) (hj : j < l.length), i < 3 → (rrows l)[j * 3 + i]? = (rrow l[j])[i]?
  | p :: r, 0, i, _, hi => by
    simp only [rrows, List.flatMap_cons, List.getElem_cons_zero, Nat.zero_mul, Nat.zero_add]
    rw [List.getElem?_append_left (by rw [rrow_len]; exact hi)]
  | p :: r, j + 1, i, hj, hi => by
    have ih := rrows_at r j i (by simpa using hj) hi
    simp only [rrows, List.flatMap_cons, List.getElem_cons_succ] at ih ⊢
    rw [List.getElem?_append_right (by rw [rrow_len]; omega), rrow_len, show (j + 1) * 3 + i - 3 = j * 3 + i by omega]
    exact ih
theorem rrows_set : ∀ (l : List RV) (k i : Nat) (u : Value) (q : RV) (hk : k < l.length), i < 3 → rrow q = (rrow l[k]).set i u → (rrows l).set (k * 3 + i) u = rrows (l.set k q)
  | p :: r, 0, i, u, q, _, hi, h => by
    simp only [rrows, List.flatMap_cons, List.getElem_cons_zero, Nat.zero_mul, Nat.zero_add, List.set_cons_zero] at h ⊢
    rw [List.set_append_left _ _ (by rw [rrow_len]; exact hi), h]
  | p :: r, k + 1, i, u, q, hk, hi, h => by
    have ih := rrows_set r k i u q (by simpa using hk) hi (by simpa using h)
    simp only [rrows, List.flatMap_cons, List.set_cons_succ] at ih ⊢
    rw [List.set_append_right _ _ (by rw [rrow_len]; omega), rrow_len, show (k + 1) * 3 + i - 3 = k * 3 + i by omega, ih]


/-- The document's destinations behind an address. -/
structure RsAt (w : World) (a : Option Addr) (ps : List RV) : Prop where
  cells : ∀ i, i < ps.length → ∃ b off, a = some ⟨b, off, none⟩ ∧ b < w.heap.size ∧ ∀ j (hj : j < ps.length) (k : Nat) (u : Value), (rrow ps[j])[k]? = some u → w.cell? ⟨b, off + j * 3 + k, none⟩ = some u
  sls : ∀ p ∈ ps, BlIn anyB w p.2 p.1.all
theorem RsAt.below {w w' : World} {a : Option Addr} {ps : List RV} (h : RsAt w a ps) (hb : Below w.heap.size w w') : RsAt w' a ps := by
  refine ⟨fun i hi => ?_, fun p hp => (h.sls p hp).below hb⟩
  obtain ⟨b, off, ha, hl, hc⟩ := h.cells i hi
  have := hb.size
  exact ⟨b, off, ha, by omega, fun j hj k u hu => (hb.cell (by exact hl)).trans (hc j hj k u hu)⟩
theorem RsAt.nil (w : World) (a : Option Addr) : RsAt w a [] := ⟨fun i h => by simp at h, fun p h => by simp at h⟩
theorem RsAt.get {w wr : World} {a : Option Addr} {ps : List RV} (h : RsAt w a ps) (hnx : Below w.heap.size w wr) {k : Nat} (hk : k < ps.length) :
    ∃ b off nm s al va vc, a = some ⟨b, off, none⟩ ∧ b < w.heap.size ∧ ps[k] = (⟨nm, s, al⟩, .slice va al.length vc) ∧ BlIn anyB wr (.slice va al.length vc) al ∧
      wr.cell? ⟨b, off + k * 3, none⟩ = some (.string nm) ∧ wr.cell? ⟨b, off + k * 3 + 1, none⟩ = some (.int .u64 (s : Int)) ∧ wr.cell? ⟨b, off + k * 3 + 2, none⟩ = some (.slice va al.length vc) := by
  obtain ⟨b, off, ha, hl, hc⟩ := (h.below hnx).cells k hk
  have hl' : b < w.heap.size := by
    obtain ⟨b', off', ha', hl', _⟩ := h.cells k hk
    rw [ha] at ha'
    cases ha'
    exact hl'
  have hs := (h.below hnx).sls ps[k] (List.getElem_mem hk)
  rcases hp : ps[k] with ⟨⟨nm, s, al⟩, v⟩
  rw [hp] at hs
  have hc' := hc k hk
  rw [hp] at hc'
  obtain ⟨va, vc, ev2, hr⟩ := hs
  have ev3 : v = .slice va al.length vc := ev2
  clear ev2
  subst ev3
  exact ⟨b, off, nm, s, al, va, vc, ha, hl', rfl, ⟨va, vc, rfl, hr⟩, hc' 0 _ rfl, hc' 1 _ rfl, hc' 2 _ rfl⟩
def RlAt (w : World) (v : Value) (R : Rl) : Prop := ∃ a c ps, v = .agg #[.int .u64 (R.first : Int), .int .u64 (R.next : Int), .slice a ps.length c] ∧ ps.length ≤ c ∧ R.dests = ps.map Prod.fst ∧ RsAt w a ps
theorem RlAt.below {w w' : World} {v : Value} {R : Rl} (h : RlAt w v R) (hb : Below w.heap.size w w') : RlAt w' v R := by
  obtain ⟨a, c, ps, e, hc, hd, hs⟩ := h
  exact ⟨a, c, ps, e, hc, hd, hs.below hb⟩
theorem rplc_next {ps : List RV} {k : Nat} {n : ByteArray} (hk : k < ps.length) (h : Ldg.plcN ((ps.drop k).map (fun p => p.1.name)) n k = Ldg.plc (ps.map (fun p => p.1.name)) n) (hn : (ps[k].1.name.toList == n.toList) = false) :
    Ldg.plcN ((ps.drop (k + 1)).map (fun p => p.1.name)) n (k + 1) = Ldg.plc (ps.map (fun p => p.1.name)) n := by
  rw [← h, List.drop_eq_getElem_cons hk, List.map_cons]
  conv => rhs; unfold Ldg.plcN
  rw [if_neg (Lab.eqB_false hn)]
theorem rplc_found {ps : List RV} {k : Nat} {n : ByteArray} (hk : k < ps.length) (h : Ldg.plcN ((ps.drop k).map (fun p => p.1.name)) n k = Ldg.plc (ps.map (fun p => p.1.name)) n) (hn : (ps[k].1.name.toList == n.toList) = true) :
    Ldg.plc (ps.map (fun p => p.1.name)) n = (k : Int) := by
  rw [← h, List.drop_eq_getElem_cons hk, List.map_cons]
  unfold Ldg.plcN
  rw [if_pos (Lab.eqB_true hn)]
theorem rplc_end {ps : List RV} {k : Nat} {n : ByteArray} (hk : ¬ k < ps.length) (h : Ldg.plcN ((ps.drop k).map (fun p => p.1.name)) n k = Ldg.plc (ps.map (fun p => p.1.name)) n) :
    Ldg.plc (ps.map (fun p => p.1.name)) n = -1 := by
  rw [← h, List.drop_eq_nil_of_le (by omega)]; rfl
set_option maxRecDepth 100000 in
set_option maxHeartbeats 800000 in
theorem rplace_any (f x : Int) (a : Option Addr) (cap : Nat) (ps : List RV) (n : ByteArray) (w : World) (hp : RsAt w a ps) (hl : ps.length ≤ 1000000000) :
    Calls Try.prog 58 #[.agg #[.int .u64 f, .int .u64 x, .slice a ps.length cap], .string n] w fun e w' => e = .returned (.int .i64 (Ldg.plc (ps.map (fun p => p.1.name)) n)) ∧ Below w.heap.size w w' := by
  have HP := hide hp
  obtain ⟨m, hm⟩ : ∃ m, ps.length = m := ⟨_, rfl⟩
  rw [hm] at hl ⊢
  have HM := hide hm
  obtain ⟨wA, hwA⟩ : ∃ W, w.alloc (.cells #[.int .u64 f, .int .u64 x, .slice a m cap] 31) = W := ⟨_, rfl⟩
  have hA0 : wA.heap[w.heap.size]? = some (.cells #[.int .u64 f, .int .u64 x, .slice a m cap] 31 (0, 0)) := by
    rw [← hwA]; show (w.heap.push _)[w.heap.size]? = _; simp
  have hAb : Below w.heap.size w wA := by rw [← hwA]; exact (Below.refl _ _).alloc (Nat.le_refl _) _
  have a2 := lcell_of hA0 2 rfl
  have HAB := hide hAb
  clear hp hm hA0 hAb
  go_enter Try.func58, Try.ntmps58
  go_wp2_with fail
  clear hwA
  go_loopw [5] (fun i wr => ∃ k : Nat, k ≤ m ∧ i = .int .i64 (k : Int) ∧ Ldg.plcN ((ps.drop k).map (fun p => p.1.name)) n k = Ldg.plc (ps.map (fun p => p.1.name)) n ∧ wr = wA)
    (fun i _ => m - (intOf i).toNat)
  case atStart => exact ⟨0, Nat.zero_le _, rfl, rfl, rfl⟩
  case round =>
    obtain ⟨k, hk, rfl, hno, rfl⟩ := hrel
    have HN := hide hno
    clear hno
    by_cases hlt : k < m
    · obtain ⟨b, off, nm, s, al, va, vc, rfl, hbl, hz, _, h0, h1, h2⟩ := HP.out.get HAB.out (k := k) (by have := HM.out; omega)
      have HZ := hide hz
      clear hz
      by_cases heq : (nm.toList == n.toList) = true
      · go_wp2
        go_ret
        exact ⟨lret_i (rplc_found (by have := HM.out; omega) HN.out (by rw [HZ.out]; exact heq)).symm, HAB.out⟩
      · have heq' : (nm.toList == n.toList) = false := by simpa using heq
        clear heq
        go_wp2
        go_roundw
        case rel => exact ⟨k + 1, by omega, by go_num, rplc_next (by have := HM.out; omega) HN.out (by rw [HZ.out]; exact heq'), trivial⟩
        case measure => simp [intOf]; omega
    · go_wp2
      go_ret
      exact ⟨lret_i (rplc_end (by have := HM.out; omega) HN.out).symm, HAB.out⟩
end Go.Proofs.Ytjbdofjheeljkaa
