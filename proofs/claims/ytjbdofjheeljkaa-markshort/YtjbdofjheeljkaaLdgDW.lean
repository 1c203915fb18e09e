/-
  Destinations in memory: read, copied, in a row of the call's own; placeOf.
-/
import Derived.Test.YtjbdofjheeljkaaLdgW
namespace Go.Proofs.Ytjbdofjheeljkaa
open Go.RowKit
open Ldg (De Le Rd Rl)

abbrev DV := De × Value
def drow (p : DV) : List Value := [.string p.1.name, .int .u64 (p.1.since : Int), .int .u64 (p.1.low : Int), p.2, .int .u64 (p.1.ak : Int), .int .u64 (p.1.ev : Int), .int .u64 (p.1.rj : Int)]
def drows (l : List DV) : List Value := l.flatMap drow
theorem drow_len (p : DV) : (drow p).length = 7 := rfl
theorem drows_len : ∀ l : List DV, (drows l).length = l.length * 7
  | [] => rfl
  | p :: r => by simp only [drows, List.flatMap_cons, List.length_append, drow_len, List.length_cons]; have := drows_len r; simp only [drows] at this; omega
theorem drows_app (a b : List DV) : drows (a ++ b) = drows a ++ drows b := by simp [drows]
theorem drows_at : ∀ (l : List DV) (j i : Nat) (hj : j < l.length), i < 7 → (drows l)[j * 7 + i]? = (drow l[j])[i]?
  | p :: r, 0, i, _, hi => by
    simp only [drows, List.flatMap_cons, List.getElem_cons_zero, Nat.zero_mul, Nat.zero_add]
    rw [List.getElem?_append_left (by rw [drow_len]; exact hi)]
  | p :: r, j + 1, i, hj, hi => by
    have ih := drows_at r j i (by simpa using hj) hi
    simp only [drows, List.flatMap_cons, List.getElem_cons_succ] at ih ⊢
    rw [List.getElem?_append_right (by rw [drow_len]; omega), drow_len, show (j + 1) * 7 + i - 7 = j * 7 + i by omega]
    exact ih
theorem drows_set : ∀ (l : List DV) (k i : Nat) (u : Value) (q : DV) (hk : k < l.length), i < 7 → drow q = (drow l[k]).set i u → (drows l).set (k * 7 + i) u = drows (l.set k q)
  | p :: r, 0, i, u, q, _, hi, h => by
    simp only [drows, List.flatMap_cons, List.getElem_cons_zero, Nat.zero_mul, Nat.zero_add, List.set_cons_zero] at h ⊢
    rw [List.set_append_left _ _ (by rw [drow_len]; exact hi), h]
  | p :: r, k + 1, i, u, q, hk, hi, h => by
    have ih := drows_set r k i u q (by simpa using hk) hi (by simpa using h)
    simp only [drows, List.flatMap_cons, List.set_cons_succ] at ih ⊢
    rw [List.set_append_right _ _ (by rw [drow_len]; omega), drow_len, show (k + 1) * 7 + i - 7 = k * 7 + i by omega, ih]

theorem two_old (w : World) (o o2 : Obj) : ((w.alloc o).alloc o2).heap[w.heap.size]? = some o := by
  show ((w.heap.push o).push o2)[w.heap.size]? = _
  rw [Array.getElem?_push, if_neg (by simp), Array.getElem?_push, if_pos rfl]
theorem two_new (w : World) (o o2 : Obj) : ((w.alloc o).alloc o2).heap[w.heap.size + 1]? = some o2 := by
  show ((w.heap.push o).push o2)[w.heap.size + 1]? = _
  rw [Array.getElem?_push, if_pos (by simp)]
theorem lfrozen_of {w : World} {b : Nat} {cs : Array Value} {t : TypeId} (h : w.heap[b]? = some (.cells cs t (0, 0))) (j : Nat) : w.frozen? ⟨b, j, none⟩ = false := by simp [World.frozen?, h]
def anyB : Nat → Prop := fun _ => True
/-- Destinations behind an address. -/
structure DsAt (w : World) (a : Option Addr) (ps : List DV) : Prop where
  cells : ∀ i, i < ps.length → ∃ b off, a = some ⟨b, off, none⟩ ∧ b < w.heap.size ∧ ∀ j (hj : j < ps.length) (k : Nat) (u : Value), (drow ps[j])[k]? = some u → w.cell? ⟨b, off + j * 7 + k, none⟩ = some u
  sls : ∀ p ∈ ps, SlIn anyB w p.2 p.1.above
theorem DsAt.below {w w' : World} {a : Option Addr} {ps : List DV} (h : DsAt w a ps) (hb : Below w.heap.size w w') : DsAt w' a ps := by
  refine ⟨fun i hi => ?_, fun p hp => (h.sls p hp).below hb⟩
  obtain ⟨b, off, ha, hl, hc⟩ := h.cells i hi
  have := hb.size
  exact ⟨b, off, ha, by omega, fun j hj k u hu => (hb.cell (by exact hl)).trans (hc j hj k u hu)⟩
theorem DsAt.nil (w : World) (a : Option Addr) : DsAt w a [] := ⟨fun i h => by simp at h, fun p h => by simp at h⟩
theorem DsAt.take {w : World} {a : Option Addr} {ps : List DV} (h : DsAt w a ps) (k : Nat) : DsAt w a (ps.take k) := by
  refine ⟨fun i hi => ?_, fun p hp => h.sls p (List.mem_of_mem_take hp)⟩
  obtain ⟨b, off, ha, hl, hc⟩ := h.cells i (by simp at hi; omega)
  refine ⟨b, off, ha, hl, fun j hj k u hu => hc j (by simp at hj; omega) k u ?_⟩
  simpa using hu
/-- Destination k, in a later world. -/
theorem DsAt.get {w wr : World} {a : Option Addr} {ps : List DV} (h : DsAt w a ps) (hnx : Below w.heap.size w wr) {k : Nat} (hk : k < ps.length) :
    ∃ b off nm s lo ab ak ev rj va vc, a = some ⟨b, off, none⟩ ∧ b < w.heap.size ∧ ps[k] = (⟨nm, s, lo, ab, ak, ev, rj⟩, .slice va ab.length vc) ∧ SlIn anyB wr (.slice va ab.length vc) ab ∧
      wr.cell? ⟨b, off + k * 7, none⟩ = some (.string nm) ∧ wr.cell? ⟨b, off + k * 7 + 1, none⟩ = some (.int .u64 (s : Int)) ∧ wr.cell? ⟨b, off + k * 7 + 2, none⟩ = some (.int .u64 (lo : Int)) ∧ wr.cell? ⟨b, off + k * 7 + 3, none⟩ = some (.slice va ab.length vc) ∧
      wr.cell? ⟨b, off + k * 7 + 4, none⟩ = some (.int .u64 (ak : Int)) ∧ wr.cell? ⟨b, off + k * 7 + 5, none⟩ = some (.int .u64 (ev : Int)) ∧ wr.cell? ⟨b, off + k * 7 + 6, none⟩ = some (.int .u64 (rj : Int)) := by
  obtain ⟨b, off, ha, hl, hc⟩ := (h.below hnx).cells k hk
  have hl' : b < w.heap.size := by
    obtain ⟨b', off', ha', hl', _⟩ := h.cells k hk
    rw [ha] at ha'
    cases ha'
    exact hl'
  have hs := (h.below hnx).sls ps[k] (List.getElem_mem hk)
  rcases hp : ps[k] with ⟨⟨nm, s, lo, ab, ak, ev, rj⟩, v⟩
  rw [hp] at hs
  have hc' := hc k hk
  rw [hp] at hc'
  obtain ⟨va, vc, ev2, hr⟩ := hs
  have ev3 : v = .slice va ab.length vc := ev2
  clear ev2
  subst ev3
  exact ⟨b, off, nm, s, lo, ab, ak, ev, rj, va, vc, ha, hl', rfl, ⟨va, vc, rfl, hr⟩, hc' 0 _ rfl, hc' 1 _ rfl, hc' 2 _ rfl, hc' 3 _ rfl, hc' 4 _ rfl, hc' 5 _ rfl, hc' 6 _ rfl⟩
/-- A ledger's value. -/
def LedAt (w : World) (v : Value) (L : Le) : Prop := ∃ a c ps, v = .agg #[.int .u64 (L.first : Int), .int .u64 (L.next : Int), .slice a ps.length c] ∧ ps.length ≤ c ∧ L.dests = ps.map Prod.fst ∧ DsAt w a ps
theorem LedAt.below {w w' : World} {v : Value} {L : Le} (h : LedAt w v L) (hb : Below w.heap.size w w') : LedAt w' v L := by
  obtain ⟨a, c, ps, e, hc, hd, hs⟩ := h
  exact ⟨a, c, ps, e, hc, hd, hs.below hb⟩

theorem plc_next {ps : List DV} {k : Nat} {n : ByteArray} (hk : k < ps.length) (h : Ldg.plcN ((ps.drop k).map (fun p => p.1.name)) n k = Ldg.plc (ps.map (fun p => p.1.name)) n) (hn : (ps[k].1.name.toList == n.toList) = false) :
    Ldg.plcN ((ps.drop (k + 1)).map (fun p => p.1.name)) n (k + 1) = Ldg.plc (ps.map (fun p => p.1.name)) n := by
  rw [← h, List.drop_eq_getElem_cons hk, List.map_cons]
  conv => rhs; unfold Ldg.plcN
  rw [if_neg (Lab.eqB_false hn)]
theorem plc_found {ps : List DV} {k : Nat} {n : ByteArray} (hk : k < ps.length) (h : Ldg.plcN ((ps.drop k).map (fun p => p.1.name)) n k = Ldg.plc (ps.map (fun p => p.1.name)) n) (hn : (ps[k].1.name.toList == n.toList) = true) :
    Ldg.plc (ps.map (fun p => p.1.name)) n = (k : Int) := by
  rw [← h, List.drop_eq_getElem_cons hk, List.map_cons]
  unfold Ldg.plcN
  rw [if_pos (Lab.eqB_true hn)]
theorem plc_end {ps : List DV} {k : Nat} {n : ByteArray} (hk : ¬ k < ps.length) (h : Ldg.plcN ((ps.drop k).map (fun p => p.1.name)) n k = Ldg.plc (ps.map (fun p => p.1.name)) n) :
    Ldg.plc (ps.map (fun p => p.1.name)) n = -1 := by
  rw [← h, List.drop_eq_nil_of_le (by omega)]; rfl
theorem lret_b {a b : Bool} (h : a = b) : Ending.returned (.bool a) = .returned (.bool b) := by rw [h]
theorem lret_i {a b : Int} (h : a = b) : Ending.returned (.int .i64 a) = .returned (.int .i64 b) := by rw [h]

set_option maxRecDepth 100000 in
set_option maxHeartbeats 800000 in
theorem placeOf_any (a : Option Addr) (cap : Nat) (ps : List DV) (n : ByteArray) (w : World) (hp : DsAt w a ps) (hl : ps.length ≤ 1000000000) :
    Calls Try.prog 54 #[.slice a ps.length cap, .string n] w fun e w' => e = .returned (.int .i64 (Ldg.plc (ps.map (fun p => p.1.name)) n)) ∧ Below w.heap.size w w' := by
  have HP := hide hp
  clear hp
  go_enter Try.func54, Try.ntmps54
  go_wp2
  go_loopw [9] (fun i wr => ∃ k : Nat, k ≤ ps.length ∧ i = .int .i64 (k : Int) ∧ Ldg.plcN ((ps.drop k).map (fun p => p.1.name)) n k = Ldg.plc (ps.map (fun p => p.1.name)) n ∧ Below w.heap.size w wr)
    (fun i _ => ps.length - (intOf i).toNat)
  case atStart => exact ⟨0, Nat.zero_le _, rfl, rfl, Below.refl _ _⟩
  case round =>
    obtain ⟨k, hk, rfl, hno, hnx⟩ := hrel
    have HN := hide hno
    clear hno
    have hsz := hnx.size
    by_cases hlt : k < ps.length
    · obtain ⟨b, off, nm, s, lo, ab, ak, ev, rj, va, vc, rfl, hbl, hz, _, h0, h1, h2, h3, h4, h5, h6⟩ := HP.out.get hnx hlt
      obtain ⟨an, han⟩ : ∃ n, ab.length = n := ⟨_, rfl⟩
      rw [han] at h3 hz
      have HZ := hide hz
      clear hz
      have hal := hnx.alloc hsz (Obj.cells #[.string nm, .int .u64 (s : Int), .int .u64 (lo : Int), .slice va an vc, .int .u64 (ak : Int), .int .u64 (ev : Int), .int .u64 (rj : Int)] 41)
      by_cases heq : (nm.toList == n.toList) = true
      · go_wp2
        go_ret
        exact ⟨lret_i (plc_found hlt HN.out (by rw [HZ.out]; exact heq)).symm, hal⟩
      · have heq' : (nm.toList == n.toList) = false := by simpa using heq
        clear heq
        go_wp2
        go_roundw
        case rel => exact ⟨k + 1, by omega, by go_num, plc_next hlt HN.out (by rw [HZ.out]; exact heq'), hal⟩
        case measure => simp [intOf]; omega
    · go_wp2
      go_ret
      exact ⟨lret_i (plc_end hlt HN.out).symm, hnx⟩

set_option maxRecDepth 100000 in
set_option maxHeartbeats 800000 in
theorem dcopied_any {X : Nat → Prop} {w : World} (nm : ByteArray) (s lo ak ev rj : Nat) {ab : List Nat} {v : Value} (h : SlIn X w v ab) (hl : ab.length ≤ 1000000000) :
    Calls Try.prog 56 #[.agg #[.string nm, .int .u64 (s : Int), .int .u64 (lo : Int), v, .int .u64 (ak : Int), .int .u64 (ev : Int), .int .u64 (rj : Int)]] w fun e w' =>
      ∃ v', e = .returned (.agg #[.string nm, .int .u64 (s : Int), .int .u64 (lo : Int), v', .int .u64 (ak : Int), .int .u64 (ev : Int), .int .u64 (rj : Int)]) ∧ SlIn (fun b => w.heap.size ≤ b) w' v' ab ∧ Below w.heap.size w w' := by
  have HH := hide h
  obtain ⟨va, vc, evv, _⟩ := h
  obtain ⟨an, han⟩ : ∃ n, ab.length = n := ⟨_, rfl⟩
  rw [han] at evv
  subst evv
  have HN := hide han
  clear han
  have hB := Below.refl w.heap.size w
  have hA := hB.alloc (Nat.le_refl _) (Obj.cells #[.string nm, .int .u64 (s : Int), .int .u64 (lo : Int), .slice va an vc, .int .u64 (ak : Int), .int .u64 (ev : Int), .int .u64 (rj : Int)] 41)
  have hA2 := hA.alloc (by simp) (Obj.cells #[.string ⟨#[]⟩, .int .u64 0, .int .u64 0, .slice none 0 0, .int .u64 0, .int .u64 0, .int .u64 0] 41)
  have HA := hide hA2
  clear hB hA hA2
  go_enter Try.func56, Try.ntmps56
  go_wp2_with fail
  obtain ⟨B, hB⟩ : ∃ B, w.heap.size = B := ⟨_, rfl⟩
  obtain ⟨wA, hwA⟩ : ∃ W, (w.alloc (.cells #[.string nm, .int .u64 (s : Int), .int .u64 (lo : Int), .slice va an vc, .int .u64 (ak : Int), .int .u64 (ev : Int), .int .u64 (rj : Int)] 41)).alloc (.cells #[.string ⟨#[]⟩, .int .u64 0, .int .u64 0, .slice none 0 0, .int .u64 0, .int .u64 0, .int .u64 0] 41) = W := ⟨_, rfl⟩
  have hA0 : wA.heap[B]? = some (.cells #[.string nm, .int .u64 (s : Int), .int .u64 (lo : Int), .slice va an vc, .int .u64 (ak : Int), .int .u64 (ev : Int), .int .u64 (rj : Int)] 41 (0, 0)) := by
    rw [← hwA, ← hB]; exact two_old w _ _
  have hA1 : wA.heap[B + 1]? = some (.cells #[.string ⟨#[]⟩, .int .u64 0, .int .u64 0, .slice none 0 0, .int .u64 0, .int .u64 0, .int .u64 0] 41 (0, 0)) := by
    rw [← hwA, ← hB]; exact two_new w _ _
  have hAs : wA.heap.size = B + 2 := by rw [← hwA, ← hB]; simp
  have hAb : Below w.heap.size w wA := by rw [← hwA]; exact HA.out
  rw [hwA, hB]
  clear hwA HA
  have H0 := hide hA0
  have H1 := hide hA1
  have HS := hide hAs
  have HAB := hide hAb
  have HBB := hide hB
  clear hA0 hA1 hAs hAb hB
  refine (numbers_any (HH.out.below HAB.out) hl).mono ?_
  rintro e w1 ⟨v', rfl, hs', hb1⟩
  have HSL := hide hs'
  obtain ⟨vb, vd, evv, _⟩ := hs'
  rw [HN.out] at evv
  subst evv
  have hs1 := HS.out
  have h0 := (hb1.block B (by omega)).trans H0.out
  have h1 := (hb1.block (B + 1) (by omega)).trans H1.out
  have HB1 := hide hb1
  have c0 := lcell_of h0 0 rfl
  have c1 := lcell_of h0 1 rfl
  have c2 := lcell_of h0 2 rfl
  have c3 := lcell_of h0 3 rfl
  have c4 := lcell_of h0 4 rfl
  have c5 := lcell_of h0 5 rfl
  have c6 := lcell_of h0 6 rfl
  have d0 := lcell_of h1 0 rfl
  have d1 := lcell_of h1 1 rfl
  have d2 := lcell_of h1 2 rfl
  have d3 := lcell_of h1 3 rfl
  have d4 := lcell_of h1 4 rfl
  have d5 := lcell_of h1 5 rfl
  have d6 := lcell_of h1 6 rfl
  have f0 := lfrozen_of h0
  have f1 := lfrozen_of h1
  clear h0 h1 hb1 hs1
  go_wp2_with fail
  have hfr : ∀ b, b ≠ B → b ≠ B + 1 → ((((((((w1.setCell ⟨B, 3, none⟩ (.slice vb an vd)).setCell ⟨B + 1, 0, none⟩ (.string nm)).setCell ⟨B + 1, 1, none⟩ (.int .u64 (s : Int))).setCell ⟨B + 1, 2, none⟩ (.int .u64 (lo : Int))).setCell ⟨B + 1, 3, none⟩ (.slice vb an vd)).setCell ⟨B + 1, 4, none⟩ (.int .u64 (ak : Int))).setCell ⟨B + 1, 5, none⟩ (.int .u64 (ev : Int))).setCell ⟨B + 1, 6, none⟩ (.int .u64 (rj : Int))).heap[b]? = w1.heap[b]? := fun b k0 k1 => by
    repeat rw [Below.heap_setCell _ _ _ _ (by first | exact k0 | exact k1)]
  refine bodyPost_ret (v := .agg #[.string nm, .int .u64 (s : Int), .int .u64 (lo : Int), .slice vb an vd, .int .u64 (ak : Int), .int .u64 (ev : Int), .int .u64 (rj : Int)]) (by simp [results, Try.results56, go_sem, d0, d1, d2, d3, d4, d5, d6]) rfl ?_
  have hsz1 : w1.heap.size = ((((((((w1.setCell ⟨B, 3, none⟩ (.slice vb an vd)).setCell ⟨B + 1, 0, none⟩ (.string nm)).setCell ⟨B + 1, 1, none⟩ (.int .u64 (s : Int))).setCell ⟨B + 1, 2, none⟩ (.int .u64 (lo : Int))).setCell ⟨B + 1, 3, none⟩ (.slice vb an vd)).setCell ⟨B + 1, 4, none⟩ (.int .u64 (ak : Int))).setCell ⟨B + 1, 5, none⟩ (.int .u64 (ev : Int))).setCell ⟨B + 1, 6, none⟩ (.int .u64 (rj : Int))).heap.size := by simp [World.setCell]
  have hB := HBB.out
  have hS := HS.out
  refine ⟨_, rfl, ?_, ?_⟩
  · refine (HSL.out.keep (Nat.le_of_eq hsz1) (fun b _ hx => hfr b (by omega) (by omega))).mono (fun b _ hx => ?_)
    show w.heap.size ≤ b
    have : wA.heap.size ≤ b := hx
    omega
  · refine (bl HAB.out HB1.out).trans ?_
    have hp : w.heap.size ≤ B := by omega
    have hq : w.heap.size ≤ B + 1 := by omega
    exact ((((((((Below.refl _ w1).setCell (p := ⟨B, 3, none⟩) hp _).setCell (p := ⟨B + 1, 0, none⟩) hq _).setCell (p := ⟨B + 1, 1, none⟩) hq _).setCell (p := ⟨B + 1, 2, none⟩) hq _).setCell (p := ⟨B + 1, 3, none⟩) hq _).setCell (p := ⟨B + 1, 4, none⟩) hq _).setCell (p := ⟨B + 1, 5, none⟩) hq _).setCell (p := ⟨B + 1, 6, none⟩) hq _
end Go.Proofs.Ytjbdofjheeljkaa
