/-
  Evict.
-/
import Derived.Test.YtjbdofjheeljkaaLdgAddW
namespace Go.Proofs.Ytjbdofjheeljkaa
open Go.RowKit
open Ldg (De Le Rd Rl)

theorem own_g {w : World} {B g n c : Nat} {ps : List DV} (h : OwnD w B (.slice (some ⟨g, 0, none⟩) n c) ps) : g < w.heap.size ∧ B ≤ g := by
  rcases h.row.2 with ⟨h0, _⟩ | ⟨g', cap, cur, e1, hB, hh, _⟩
  · cases h0
  · simp only [Value.slice.injEq, Option.some.injEq, Addr.mk.injEq] at e1
    rw [e1.1.1]
    exact ⟨(Array.getElem?_eq_some_iff.1 hh).1, hB⟩
theorem led_none (w : World) : LedAt w (.agg #[.int .u64 0, .int .u64 0, .slice none 0 0]) Le.none := ⟨none, 0, [], rfl, Nat.le_refl _, rfl, DsAt.nil _ _⟩
theorem map_set {ps : List DV} {k : Nat} {d : De} {v : Value} : (ps.set k (d, v)).map Prod.fst = (ps.map Prod.fst).set k d := by rw [List.map_set]
/-- A ledger that is told, and an error. -/
def TwoE (w : World) (r : Le × Nat) (e : Ending) (w' : World) : Prop := ∃ rv, e = .returned (.tuple #[rv, .int .i64 (r.2 : Int)]) ∧ LedAt w' rv r.1 ∧ Below w.heap.size w w'
theorem TwoE.err {w w1 wA : World} {v0 v1 : Value} {a : Option Addr} {m c : Nat} (h : Box2 w w1 v0 v1 a m c) (x : Nat) (hA : wA = ((w1.setCell ⟨w.heap.size + 1, 0, none⟩ (.int .u64 0)).setCell ⟨w.heap.size + 1, 1, none⟩ (.int .u64 0)).setCell ⟨w.heap.size + 1, 2, none⟩ (.slice none 0 0)) :
    TwoE w (Le.none, x) (.returned (.tuple #[.agg #[.int .u64 0, .int .u64 0, .slice none 0 0], .int .i64 (x : Int)])) wA :=
  ⟨_, rfl, led_none _, by rw [hA]; exact h.bel.trans ((kept3 w1 (w.heap.size + 1) _ _ _).bel (fun b hb => by omega))⟩
set_option maxRecDepth 100000 in
set_option maxHeartbeats 1600000 in
theorem levict_any {w : World} {v : Value} {L : Le} (h : LedAt w v L) (hf : L.Fit) (t : Nat) :
    Calls Try.prog 32 #[v, .int .u64 (t : Int)] w (TwoE w (L.evict t)) := by
  have HLED := hide h
  obtain ⟨a, c, ps, rfl, hc, hd, hds⟩ := h
  have hmn := many_of hf hd
  obtain ⟨m, hm⟩ : ∃ m, ps.length = m := ⟨_, rfl⟩
  rw [hm] at hc hmn HLED ⊢
  have hbx := Box2.made w (.int .u64 (L.first : Int)) (.int .u64 (L.next : Int)) a m c
  have hlc := fun W (hW : Below w.heap.size w W) => lcopied_any (HLED.out.below hW) (by have := hf.many; omega) (fun d hd => by have := (hf.each d hd).len; omega)
  obtain ⟨wA, hwA⟩ : ∃ W, (w.alloc (.cells #[.int .u64 (L.first : Int), .int .u64 (L.next : Int), .slice a m c] 27)).alloc (.cells #[.int .u64 0, .int .u64 0, .slice none 0 0] 27) = W := ⟨_, rfl⟩
  rw [hwA] at hbx
  have z0 := lcell_of hbx.b0 0 rfl
  have z1 := lcell_of hbx.b0 1 rfl
  have z2 := lcell_of hbx.b0 2 rfl
  have y0 := lcell_of hbx.b1 0 rfl
  have y1 := lcell_of hbx.b1 1 rfl
  have y2 := lcell_of hbx.b1 2 rfl
  have fy := lfrozen_of hbx.b1
  have HLC := hide hlc
  have HBX := hide hbx
  have HF := hide hf
  have hnx := hf.next
  obtain ⟨R, hR⟩ : ∃ R, L.evict t = R := ⟨_, rfl⟩
  rw [hR]
  have HR := hide hR
  clear hlc hm hds hd hf hc hmn hbx hR
  by_cases t1 : t < L.first
  · have hR := HR.out
    unfold Le.evict at hR
    rw [if_pos (.inl t1)] at hR
    subst hR
    clear HR
    go_enter Try.func32, Try.ntmps32
    go_wp2_with fail
    refine bodyPost_ret (v := .tuple #[.agg #[.int .u64 0, .int .u64 0, .slice none 0 0], .int .i64 1]) (by simp [results, Try.results32, go_sem, y0, y1, y2]) rfl ?_
    exact TwoE.err HBX.out 1 rfl
  · by_cases t2 : L.next < t
    · have hR := HR.out
      unfold Le.evict at hR
      rw [if_pos (.inr t2)] at hR
      subst hR
      clear HR
      go_enter Try.func32, Try.ntmps32
      go_wp2_with fail
      refine bodyPost_ret (v := .tuple #[.agg #[.int .u64 0, .int .u64 0, .slice none 0 0], .int .i64 1]) (by simp [results, Try.results32, go_sem, y0, y1, y2]) rfl ?_
      exact TwoE.err HBX.out 1 rfl
    · have hR := HR.out
      unfold Le.evict at hR
      rw [if_neg (by omega)] at hR
      subst hR
      clear HR
      go_enter Try.func32, Try.ntmps32
      go_wp2_with fail
      refine (HLC.out _ HBX.out.bel).mono ?_
      rintro e w1 ⟨g, c', qs, rfl, hqs, hown, hb1⟩
      have HX1 := hide (HBX.out.then hb1)
      have HOW := hide hown
      have HQS := hide hqs
      obtain ⟨N, hN⟩ : ∃ N, w1.heap.size = N := ⟨_, rfl⟩
      have hx1 := HX1.out
      have s1 := hx1.size
      have hgg := own_g hown
      rw [hN] at s1 hgg
      obtain ⟨n', hn'⟩ : ∃ n', qs.length = n' := ⟨_, rfl⟩
      rw [hn'] at HOW ⊢
      obtain ⟨wB, hwB⟩ : ∃ W, w1.alloc (.cells #[.int .u64 (L.first : Int), .int .u64 (L.next : Int), .slice (some ⟨g, 0, none⟩) n' c'] 27) = W := ⟨_, rfl⟩
      have o0 : wB.heap[N]? = some (.cells #[.int .u64 (L.first : Int), .int .u64 (L.next : Int), .slice (some ⟨g, 0, none⟩) n' c'] 27 (0, 0)) := by
        rw [← hwB, ← hN]; show (w1.heap.push _)[w1.heap.size]? = _; simp
      have t0 : wB.heap[w.heap.size + 1]? = some (.cells #[.int .u64 0, .int .u64 0, .slice none 0 0] 27 (0, 0)) := by
        rw [← hwB]; exact (Below.heap_alloc _ _ _ (by omega)).trans hx1.b1
      have kB : Below w1.heap.size w1 wB := by rw [← hwB]; exact (Below.refl _ _).alloc (Nat.le_refl _) _
      obtain ⟨wC, hwC⟩ : ∃ W, wB.setCell ⟨N, 0, none⟩ (.int .u64 (t : Int)) = W := ⟨_, rfl⟩
      have o1 : wC.heap[N]? = some (.cells #[.int .u64 (t : Int), .int .u64 (L.next : Int), .slice (some ⟨g, 0, none⟩) n' c'] 27 (0, 0)) := by
        rw [← hwC]; simp [World.setCell, o0, Array.getElem?_modify]
      have t1' : wC.heap[w.heap.size + 1]? = some (.cells #[.int .u64 0, .int .u64 0, .slice none 0 0] 27 (0, 0)) := by
        rw [← hwC]; exact (Below.heap_setCell _ _ _ _ (by show w.heap.size + 1 ≠ N; omega)).trans t0
      have kC : Below w1.heap.size w1 wC := by rw [← hwC]; exact kB.setCell (p := ⟨N, 0, none⟩) (by show w1.heap.size ≤ N; omega) _
      have x0 := lcell_of o0 0 rfl
      have x1 := lcell_of o0 1 rfl
      have x2 := lcell_of o0 2 rfl
      have fx := lfrozen_of o0
      have x2' := lcell_of o1 2 rfl
      have HKC := hide kC
      have HO1 := hide o1
      have HT1 := hide t1'
      have HN' := hide hn'
      have HGG := hide hgg
      have HBA := hide HBX.out.size
      clear hx1 hown hqs hb1 o0 o1 t0 t1' kB kC hn' hgg z0 z1 z2 y0 y1 y2 fy hwA
      go_wp2_with fail
      clear x0 x1 x2 fx hwB hwC x2'
      go_loopw [26] (fun vi wr => ∃ (k : Nat) (rs : List DV), k ≤ n' ∧ vi = .int .i64 (k : Int) ∧ rs.map Prod.fst = Ldg.upTo (De.evict t) k L.dests ∧ OwnD wr wA.heap.size (.slice (some ⟨g, 0, none⟩) n' c') rs ∧ Below w.heap.size w wr ∧
          wr.heap[N]? = some (.cells #[.int .u64 (t : Int), .int .u64 (L.next : Int), .slice (some ⟨g, 0, none⟩) n' c'] 27 (0, 0)) ∧ wr.heap[w.heap.size + 1]? = some (.cells #[.int .u64 0, .int .u64 0, .slice none 0 0] 27 (0, 0)))
        (fun vi _ => n' - (intOf vi).toNat)
      case atStart => exact ⟨0, qs, Nat.zero_le _, rfl, by rw [Ldg.upTo_zero]; exact HQS.out, HOW.out.below HKC.out, bl HX1.out.bel HKC.out, HO1.out, HT1.out⟩
      case round =>
        obtain ⟨k, rs, hk, rfl, hrs, hown, hnx2, ho, ht⟩ := hrel
        have HB := hide hnx2
        have HRS := hide hrs
        have HOR := hide hown
        have HOO := hide ho
        have HTT := hide ht
        have c0 := lcell_of ho 0 rfl
        have c1 := lcell_of ho 1 rfl
        have c2 := lcell_of ho 2 rfl
        have d0 := lcell_of ht 0 rfl
        have d1 := lcell_of ht 1 rfl
        have d2 := lcell_of ht 2 rfl
        have fz := lfrozen_of ht
        have hln := own_len hown
        have hld : L.dests.length = n' := by
          have := congrArg List.length hrs
          rw [List.length_map, Ldg.upTo_len] at this
          omega
        have HLN := hide hln
        have HLD := hide hld
        clear hnx2 hrs hown ho ht hln hld
        by_cases hlt : k < n'
        · have hn4 : n' ≤ 4 := by have := HLD.out; have := HF.out.many; omega
          have hkr : k < rs.length := by have := HLN.out; omega
          have hkd : k < L.dests.length := by have := HLD.out; omega
          have hrk : rs[k].1 = L.dests[k] := by
            have h1 : (rs.map Prod.fst)[k]'(by rw [List.length_map]; exact hkr) = rs[k].1 := List.getElem_map _
            rw [← h1]
            simp only [HRS.out]
            exact Ldg.upTo_at _ hkd
          have hfk := HF.out.each _ (List.getElem_mem hkd)
          have hev := evict_any HOR.out hkr (by rw [hrk]; exact hfk.small.low) (by rw [hrk]; exact hfk.len) (by rw [hrk]; exact hfk.small.ev) (by rw [hrk]; exact hfk.rise) t (by omega) (fun hh => by rw [hrk] at hh ⊢; exact hfk.cut t hh)
          rw [hrk] at hev
          have HEV := hide hev
          have HKD := hide hkd
          clear hkr hrk hfk hev
          go_wp2_with fail
          refine HEV.out.mono ?_
          rintro e w2 ⟨sv, rfl, ho2, hk2⟩
          have hgN : g ≠ N := by have := HGG.out; omega
          have hgB : g ≠ w.heap.size + 1 := by have := HGG.out; have := HBA.out; omega
          have hNl : N < wr.heap.size := (Array.getElem?_eq_some_iff.1 HOO.out).1
          have hBl : w.heap.size + 1 < wr.heap.size := (Array.getElem?_eq_some_iff.1 HTT.out).1
          have hn2 := (hk2.block N ⟨hNl, fun e => hgN e.symm⟩).trans HOO.out
          have hb2 := (hk2.block (w.heap.size + 1) ⟨hBl, fun e => hgB e.symm⟩).trans HTT.out
          have hbel := HB.out.trans (hk2.bel (B := w.heap.size) (fun b hb => ⟨by omega, by have := HGG.out; have := HBA.out; omega⟩))
          have HO2 := hide ho2
          have HN2 := hide hn2
          have HB2 := hide hb2
          have HBEL := hide hbel
          clear ho2 hk2 hn2 hb2 hbel HEV c0 c1 c2 d0 d1 d2 fz
          go_wp2_with fail
          go_roundw
          case rel =>
            refine ⟨k + 1, _, by omega, by go_num, ?_, HO2.out, HBEL.out, HN2.out, HB2.out⟩
            rw [map_set, HRS.out]
            exact Ldg.upTo_next _ HKD.out
          case measure => simp [intOf]; omega
        · have hkn : k = n' := by omega
          subst hkn
          go_wp2_with fail
          refine bodyPost_ret (v := .tuple #[.agg #[.int .u64 (t : Int), .int .u64 (L.next : Int), .slice (some ⟨g, 0, none⟩) k c'], .int .i64 0]) (by simp [results, Try.results32, go_sem, d0, d1, d2]) rfl ?_
          have hfin := led_told (w := w) (first := t) (next := L.next) HBX.out.size HOR.out HB.out (.int .u64 (t : Int)) (.int .u64 (L.next : Int)) rfl rfl rfl
          rw [HRS.out, Ldg.upTo_all _ _ (by have := HLD.out; omega)] at hfin
          exact ⟨_, rfl, hfin⟩
end Go.Proofs.Ytjbdofjheeljkaa
