/-
  The document's Add.
-/
import Derived.Test.YtjbdofjheeljkaaLdgRCopyW
namespace Go.Proofs.Ytjbdofjheeljkaa
open Go.RowKit
open Ldg (De Le Rd Rl)

theorem rown_some {w : World} {B n c : Nat} {ea : Option Addr} {ps : List RV} (h : OwnR w B (.slice ea n c) ps) (hn : 0 < ps.length) : ∃ g, ea = some ⟨g, 0, none⟩ ∧ n = ps.length ∧ B ≤ g ∧ g < w.heap.size := by
  rcases h.row.2 with ⟨_, h0⟩ | ⟨g, cap, cur, e, hB, hg, _⟩
  · omega
  · simp only [Value.slice.injEq] at e
    exact ⟨g, e.1, e.2.1, hB, (Array.getElem?_eq_some_iff.1 hg).1⟩
theorem OwnR.get {w : World} {B g n c : Nat} {ps : List RV} (h : OwnR w B (.slice (some ⟨g, 0, none⟩) n c) ps) {k : Nat} (hk : k < ps.length) :
    ∃ nm s al va vc, ps[k] = (⟨nm, s, al⟩, .slice va al.length vc) ∧ w.cell? ⟨g, k * 3, none⟩ = some (.string nm) ∧ w.cell? ⟨g, k * 3 + 1, none⟩ = some (.int .u64 (s : Int)) ∧ w.cell? ⟨g, k * 3 + 2, none⟩ = some (.slice va al.length vc) ∧ (∀ j, w.frozen? ⟨g, j, none⟩ = false) := by
  have hn : n = ps.length := by
    rcases h.row.2 with ⟨h0, _⟩ | ⟨g', cap, cur, e1, _⟩
    · cases h0
    · simp only [Value.slice.injEq] at e1; exact e1.2.1
  subst hn
  rcases hp : ps[k] with ⟨⟨nm, s, al⟩, v⟩
  have ha := h.all ps[k] (List.getElem_mem hk)
  rw [hp] at ha
  obtain ⟨va, vc, hv, _⟩ := lown_slice ha
  have hv2 : v = .slice va al.length vc := hv
  clear hv
  subst hv2
  have hc : ∀ i u, i < 3 → (rrow ps[k])[i]? = some u → w.cell? ⟨g, k * 3 + i, none⟩ = some u := fun i u hi hu => by
    rw [World.ownsRow.cellAt h.row _ (by omega), rrows_at ps k i hk hi]; exact hu
  rw [hp] at hc
  exact ⟨nm, s, al, va, vc, rfl, hc 0 _ (by omega) rfl, hc 1 _ (by omega) rfl, hc 2 _ (by omega) rfl, fun j => h.row.frozenAt _⟩
theorem rrows_put : ∀ (ps : List RV) (k : Nat), k < ps.length → ∀ (nm : ByteArray) (s : Nat) (al : List Nat) (sv : Value),
    (((rrows ps).set (k * 3) (.string nm)).set (k * 3 + 1) (.int .u64 (s : Int))).set (k * 3 + 2) sv = rrows (ps.set k (⟨nm, s, al⟩, sv))
  | p :: r, 0, _, nm, s, al, sv => by simp [rrows, rrow, List.set]
  | p :: r, k + 1, h, nm, s, al, sv => by
    have ih := rrows_put r k (by simpa using h) nm s al sv
    simp only [rrows] at ih
    rw [Nat.succ_mul]
    simp only [rrows, rrow, List.flatMap_cons, List.cons_append, List.nil_append, List.set_cons_succ]
    rw [← ih]
/-- One destination has other bytes: their row has grown, and the destination is written back. -/
theorem OwnR.regrow {w w' : World} {B g n c : Nat} {ps : List RV} (h : OwnR w B (.slice (some ⟨g, 0, none⟩) n c) ps) {k : Nat} (hk : k < ps.length) (nm : ByteArray) (s : Nat) (al : List Nat) (v' : Value)
    (hkp : ∀ b, b < w.heap.size → ps[k].2.ownBlock ≠ some b → w'.heap[b]? = w.heap[b]?) (hv : w'.ownsRow B 5 1 v' al.length (bV al)) (hob : v'.ownBlock = ps[k].2.ownBlock ∨ ∀ x, v'.ownBlock = some x → w.heap.size ≤ x) :
    OwnR (((w'.setCell ⟨g, k * 3, none⟩ (.string nm)).setCell ⟨g, k * 3 + 1, none⟩ (.int .u64 (s : Int))).setCell ⟨g, k * 3 + 2, none⟩ v') B (.slice (some ⟨g, 0, none⟩) n c) (ps.set k (⟨nm, s, al⟩, v')) := by
  have hn : n = ps.length := by
    rcases h.row.2 with ⟨h0, _⟩ | ⟨g', cap, cur, e1, _⟩
    · cases h0
    · simp only [Value.slice.injEq] at e1; exact e1.2.1
  subst hn
  have hkg : ps[k].2.ownBlock ≠ some g := fun e => h.kind (List.getElem_mem hk) e rfl
  have hrow := lown_keep h.row (w' := w') (fun x e => hkp x (lown_lt h.row e).1 (fun e2 => by
    have : g = x := Option.some.inj e
    subst this
    exact hkg e2))
  have hgv : ∀ x, v'.ownBlock = some x → x ≠ g := fun x hx e => by
    subst e
    obtain ⟨c1, h1⟩ := kind_of hrow (g := x) rfl
    obtain ⟨c2, h2⟩ := kind_of hv hx
    rw [h1] at h2
    simp only [Option.some.injEq, Obj.cells.injEq] at h2
    exact absurd h2.2.1 (by decide)
  have h3 : ∀ b, b ≠ g → (((w'.setCell ⟨g, k * 3, none⟩ (.string nm)).setCell ⟨g, k * 3 + 1, none⟩ (.int .u64 (s : Int))).setCell ⟨g, k * 3 + 2, none⟩ v').heap[b]? = w'.heap[b]? := fun b hb => by
    repeat rw [Below.heap_setCell _ _ _ _ hb]
  refine ⟨?_, fun p hp => ?_, fun i j hi hj hij x hx => ?_⟩
  · rw [List.length_set, ← rrows_put ps k hk nm s al v']
    exact lown_set (lown_set (lown_set hrow _ _) _ _) _ _
  · obtain ⟨i, hi, rfl⟩ := List.mem_iff_getElem.1 hp
    have hi' : i < ps.length := by simpa using hi
    by_cases e : k = i
    · subst e
      rw [List.getElem_set_self]
      exact lown_keep hv (fun x hx => h3 x (hgv x hx))
    · rw [List.getElem_set_ne e]
      have ha := h.all ps[i] (List.getElem_mem hi')
      refine lown_keep ha (fun x hx => ?_)
      have hxg : x ≠ g := fun e2 => h.kind (List.getElem_mem hi') hx (by rw [e2]; rfl)
      exact (h3 x hxg).trans (hkp x (lown_lt ha hx).1 (fun e2 => h.apart k i hk hi' e x e2 hx))
  · have hi' : i < ps.length := by simpa using hi
    have hj' : j < ps.length := by simpa using hj
    by_cases ei : k = i
    · subst ei
      rw [List.getElem_set_self] at hx
      rw [List.getElem_set_ne hij]
      rcases hob with e | e
      · rw [e] at hx
        exact h.apart k j hk hj' hij x hx
      · have h1 := e x hx
        exact fun e2 => by have := (lown_lt (h.all ps[j] (List.getElem_mem hj')) e2).1; omega
    · rw [List.getElem_set_ne ei] at hx
      by_cases ej : k = j
      · subst ej
        rw [List.getElem_set_self]
        rcases hob with e | e
        · rw [e]; exact h.apart i k hi' hk hij x hx
        · exact fun e2 => by have h1 := e x e2; have := (lown_lt (h.all ps[i] (List.getElem_mem hi')) hx).1; omega
      · rw [List.getElem_set_ne ej]
        exact h.apart i j hi' hj' hij x hx
theorem rkept3 (w : World) (g k : Nat) (u0 u1 u2 : Value) : Kept (fun b => b ≠ g) w (((w.setCell ⟨g, k * 3, none⟩ u0).setCell ⟨g, k * 3 + 1, none⟩ u1).setCell ⟨g, k * 3 + 2, none⟩ u2) := by
  iterate 3 (refine Kept.setCell ?_ (fun _ h e => h e) _)
  exact Kept.refl _ _
structure RBox2 (w wA : World) (v0 v1 : Value) (a : Option Addr) (m c : Nat) : Prop where
  b0 : wA.heap[w.heap.size]? = some (.cells #[v0, v1, .slice a m c] 31 (0, 0))
  b1 : wA.heap[w.heap.size + 1]? = some (.cells #[.int .u64 0, .int .u64 0, .slice none 0 0] 31 (0, 0))
  bel : Below w.heap.size w wA
  size : w.heap.size + 1 < wA.heap.size
theorem RBox2.made (w : World) (v0 v1 : Value) (a : Option Addr) (m c : Nat) : RBox2 w ((w.alloc (.cells #[v0, v1, .slice a m c] 31)).alloc (.cells #[.int .u64 0, .int .u64 0, .slice none 0 0] 31)) v0 v1 a m c :=
  ⟨two_old w _ _, two_new w _ _, ((Below.refl w.heap.size w).alloc (Nat.le_refl _) _).alloc (by simp) _, by simp⟩
theorem RBox2.then {w wA w1 : World} {v0 v1 : Value} {a : Option Addr} {m c : Nat} (h : RBox2 w wA v0 v1 a m c) (hb : Below wA.heap.size wA w1) : RBox2 w w1 v0 v1 a m c :=
  ⟨(hb.block _ (by have := h.size; omega)).trans h.b0, (hb.block _ (by have := h.size; omega)).trans h.b1, bl h.bel hb, by have := h.size; have := hb.size; omega⟩
/-- What is told lies in a box of another kind than the rows. -/
theorem rled_told {w w1 wC : World} {BA first next : Nat} {v : Value} {ps : List RV} {cs : Array Value} (h : OwnR wC BA v ps) (ht : wC.heap[w.heap.size + 1]? = some (.cells cs 31 (0, 0))) (hb : Below w.heap.size w wC) (u0 u1 : Value) (e0 : u0 = .int .u64 (first : Int)) (e1 : u1 = .int .u64 (next : Int)) (hw1 : w1 = ((wC.setCell ⟨w.heap.size + 1, 0, none⟩ u0).setCell ⟨w.heap.size + 1, 1, none⟩ u1).setCell ⟨w.heap.size + 1, 2, none⟩ v) :
    RlAt w1 (.agg #[u0, u1, v]) ⟨first, next, ps.map Prod.fst⟩ ∧ Below w.heap.size w w1 := by
  subst e0 e1 hw1
  have hk := kept3 wC (w.heap.size + 1) (.int .u64 (first : Int)) (.int .u64 (next : Int)) v
  exact ⟨(h.other ht (by decide) (by decide) hk).led first next, hb.trans (hk.bel (fun b hb => by omega))⟩
theorem one_b8 (w : World) (x : Nat) : BlIn anyB (w.alloc (.cells #[.int .u8 (x : Int)] 5)) (.slice (some ⟨w.heap.size, 0, none⟩) 1 1) [x] :=
  ⟨_, 1, rfl, Nat.le_refl _, fun e => (by cases e), fun i hi => ⟨w.heap.size, 0, rfl, by simp, trivial, fun j hj => by
    have : j = 0 := by simpa using hj
    subst this
    simp⟩⟩
theorem map_set2 {ps : List RV} {k : Nat} {d : Rd} {v : Value} : (ps.set k (d, v)).map Prod.fst = (ps.map Prod.fst).set k d := by rw [List.map_set]
set_option maxRecDepth 100000 in
set_option maxHeartbeats 1600000 in
theorem radd_any {w : World} {v : Value} {R : Rl} (h : RlAt w v R) (hf : R.Ok) :
    Calls Try.prog 47 #[v] w fun e w' => ∃ rv, e = .returned rv ∧ RlAt w' rv R.add ∧ Below w.heap.size w w' := by
  have HRL := hide h
  obtain ⟨a, c, qs, rfl, hc, hd, hds⟩ := h
  have hmn := rmany_of hf hd
  have hnb := hf.nb
  have hall : ∀ d ∈ R.dests, d.all.length ≤ 10000000 := fun d hd => by have := (hf.each d hd).ends; omega
  obtain ⟨m, hm⟩ : ∃ m, qs.length = m := ⟨_, rfl⟩
  rw [hm] at hc hmn HRL ⊢
  have hlc := fun W (hW : Below w.heap.size w W) => rcopied_any (HRL.out.below hW) hf.many (fun d hd => by have := hall d hd; omega)
  have HLC := hide hlc
  have HALL := hide hall
  have HF := hide hf
  have hbx := RBox2.made w (.int .u64 (R.first : Int)) (.int .u64 (R.next : Int)) a m c
  have HBX := hide hbx
  clear hlc hm hds hd hf hc hbx hall
  go_enter Try.func47, Try.ntmps47
  go_wp2_with fail
  refine (HLC.out _ HBX.out.bel).mono ?_
  rintro e w1 ⟨ea, n', ec, ps, rfl, hnp, hps, hown, hb1⟩
  have HX1 := hide (HBX.out.then hb1)
  have hx1 := HX1.out
  have s1 := hx1.size
  obtain ⟨N, hN⟩ : ∃ N, w1.heap.size = N := ⟨_, rfl⟩
  obtain ⟨G, hG⟩ : ∃ G, ((w.alloc (.cells #[.int .u64 (R.first : Int), .int .u64 (R.next : Int), .slice a m c] 31)).alloc (.cells #[.int .u64 0, .int .u64 0, .slice none 0 0] 31)).heap.size = G := ⟨_, rfl⟩
  have hGw : G = w.heap.size + 2 := by rw [← hG]; simp
  rw [hG] at hown
  rw [hN] at s1
  obtain ⟨wB, hwB⟩ : ∃ W, w1.alloc (.cells #[.int .u64 (R.first : Int), .int .u64 (R.next : Int), .slice ea n' ec] 31) = W := ⟨_, rfl⟩
  have o0 : wB.heap[N]? = some (.cells #[.int .u64 (R.first : Int), .int .u64 (R.next : Int), .slice ea n' ec] 31 (0, 0)) := by
    rw [← hwB, ← hN]; show (w1.heap.push _)[w1.heap.size]? = _; simp
  have kB : Below w1.heap.size w1 wB := by rw [← hwB]; exact (Below.refl _ _).alloc (Nat.le_refl _) _
  obtain ⟨wC, hwC⟩ : ∃ W, wB.setCell ⟨N, 1, none⟩ (.int .u64 ((R.next : Int) + 1)) = W := ⟨_, rfl⟩
  have o1 : wC.heap[N]? = some (.cells #[.int .u64 (R.first : Int), .int .u64 ((R.next : Int) + 1), .slice ea n' ec] 31 (0, 0)) := by
    rw [← hwC]; exact box_set o0 _
  have kC : Below w1.heap.size w1 wC := by rw [← hwC]; exact kB.setCell (p := ⟨N, 1, none⟩) (by show w1.heap.size ≤ N; omega) _
  have t1 := (hx1.then kC).b1
  have sC : wC.heap.size = N + 1 := by rw [← hwC, ← hwB]; simp [World.setCell, hN]
  have x0 := lcell_of o0 0 rfl
  have x1 := lcell_of o0 1 rfl
  have x2 := lcell_of o0 2 rfl
  have fx := lfrozen_of o0
  have HOWN := hide (hown.below kC)
  have HBC := hide (bl hx1.bel kC)
  have HO1 := hide o1
  have HT1 := hide t1
  have HSC := hide sC
  have HPS := hide hps
  have HNP := hide hnp
  have HGW := hide hGw
  have hn4 : n' ≤ 4 := by
    have h2 := congrArg List.length hps
    rw [List.length_map] at h2
    have := HF.out.many
    omega
  clear hx1 hown hps hnp hb1 o0 o1 t1 kB kC sC hG hGw
  go_wp2_with fail
  clear x0 x1 x2 fx hwB hwC
  go_loopw [4] (fun vi wr => ∃ (k : Nat) (rs : List RV), k ≤ n' ∧ vi = .int .i64 (k : Int) ∧ rs.map Prod.fst = Ldg.upTo (fun d : Rd => { d with all := d.all ++ [112] }) k R.dests ∧ OwnR wr G (.slice ea n' ec) rs ∧ Below w.heap.size w wr ∧ N < wr.heap.size ∧
      wr.heap[N]? = some (.cells #[.int .u64 (R.first : Int), .int .u64 ((R.next : Int) + 1), .slice ea n' ec] 31 (0, 0)) ∧ wr.heap[w.heap.size + 1]? = some (.cells #[.int .u64 0, .int .u64 0, .slice none 0 0] 31 (0, 0)))
    (fun vi _ => n' - (intOf vi).toNat)
  case atStart => exact ⟨0, ps, Nat.zero_le _, rfl, by rw [Ldg.upTo_zero]; exact HPS.out, HOWN.out, HBC.out, by have := HSC.out; omega, HO1.out, HT1.out⟩
  case round =>
    obtain ⟨k, rs, hk, rfl, hrs, hown, hnx, hNs, ho, ht⟩ := hrel
    have hlr : rs.length = n' := by
      have h1 := congrArg List.length hrs
      have h2 := congrArg List.length HPS.out
      rw [List.length_map, Ldg.upTo_len] at h1
      rw [List.length_map] at h2
      have := HNP.out
      omega
    by_cases hlt : k < n'
    · obtain ⟨g, rfl, hnn, hBg, hgl⟩ := rown_some hown (by omega)
      clear hnn
      obtain ⟨nm, s, al, va, vc, hz, c0, c1, c2, fz⟩ := hown.get (k := k) (by omega)
      have hkd : k < R.dests.length := by
        have h1 := congrArg List.length hrs
        rw [List.length_map, Ldg.upTo_len] at h1
        omega
      have hrk : rs[k].1 = R.dests[k] := by
        have h1 : (rs.map Prod.fst)[k]'(by rw [List.length_map]; omega) = rs[k].1 := List.getElem_map _
        rw [← h1]
        simp only [hrs]
        exact Ldg.upTo_at _ hkd
      have hall := HALL.out _ (List.getElem_mem hkd)
      rw [← hrk, hz] at hall
      simp only at hall
      obtain ⟨ln, hln⟩ : ∃ x, al.length = x := ⟨_, rfl⟩
      obtain ⟨S, hS⟩ : ∃ S, wr.heap.size = S := ⟨_, rfl⟩
      have hab := hown.all rs[k] (List.getElem_mem (by omega))
      rw [hz] at hab
      simp only at hab
      obtain ⟨wD, hwD⟩ : ∃ W, wr.alloc (.cells #[.string nm, .int .u64 (s : Int), .slice va ln vc] 99) = W := ⟨_, rfl⟩
      have kD : Below wr.heap.size wr wD := by rw [← hwD]; exact (Below.refl _ _).alloc (Nat.le_refl _) _
      have sD : wD.heap.size = S + 1 := by rw [← hwD]; simp [hS]
      have bD : wD.heap[S]? = some (.cells #[.string nm, .int .u64 (s : Int), .slice va ln vc] 99 (0, 0)) := by
        rw [← hwD, ← hS]; show (wr.heap.push _)[wr.heap.size]? = _; simp
      obtain ⟨wO, hwO⟩ : ∃ W, wD.alloc (.cells #[.int .u8 112] 5) = W := ⟨_, rfl⟩
      have kO0 : Below wD.heap.size wD wO := by rw [← hwO]; exact (Below.refl _ _).alloc (Nat.le_refl _) _
      have kO : Below wr.heap.size wr wO := kD.trans (kO0.mono kD.size)
      have sO : wO.heap.size = S + 2 := by rw [← hwO]; simp [sD]
      have hone := one_b8 wD 112
      rw [show ((112 : Nat) : Int) = 112 from rfl, hwO, sD] at hone
      have habO : wO.ownsRow G 5 1 (.slice va al.length vc) al.length (bV al) := lown_keep hab (fun x e => kO.block x (lown_lt hab e).1)
      obtain ⟨v', wP, hap, hov, hgv, hobv⟩ := app_b8 habO (by omega) hone rfl (by simp; omega) 78
      obtain ⟨va2, vc2, hv2, hvc2⟩ := lown_slice hov
      clear hvc2
      subst hv2
      obtain ⟨ln2, hln2⟩ : ∃ x, (al ++ [112]).length = x := ⟨_, rfl⟩
      rw [hln] at hap c2
      rw [hln2] at hap
      have hob0 : ∀ x, (Value.slice va al.length vc).ownBlock = some x → x < S := fun x e => by have := (lown_lt hab e).1; omega
      have hkP : ∀ b, b < wr.heap.size → rs[k].2.ownBlock ≠ some b → wP.heap[b]? = wr.heap[b]? := fun b hb hne => (hgv.block b (by omega) (fun e => hne (by rw [hz]; exact e.symm))).trans (kO.block b hb)
      have bP : wP.heap[S]? = some (.cells #[.string nm, .int .u64 (s : Int), .slice va ln vc] 99 (0, 0)) := (hgv.block S (by omega) (fun e => by have := hob0 S e.symm; omega)).trans ((kO0.block S (by omega)).trans bD)
      obtain ⟨wQ, hwQ⟩ : ∃ W, wP.setCell ⟨S, 2, none⟩ (.slice va2 ln2 vc2) = W := ⟨_, rfl⟩
      have bQ : wQ.heap[S]? = some (.cells #[.string nm, .int .u64 (s : Int), .slice va2 ln2 vc2] 99 (0, 0)) := by rw [← hwQ]; exact box_set bP _
      have kQ : Kept (fun x => x ≠ S) wP wQ := by rw [← hwQ]; exact Kept.setCell (Kept.refl _ _) (fun _ h e => h e) _
      have hkQ : ∀ b, b < wr.heap.size → rs[k].2.ownBlock ≠ some b → wQ.heap[b]? = wr.heap[b]? := fun b hb hne => (kQ.block b (by omega)).trans (hkP b hb hne)
      have hovQ : wQ.ownsRow G 5 1 (.slice va2 (al ++ [112]).length vc2) (al ++ [112]).length (bV (al ++ [112])) := lown_keep hov (fun x e => kQ.block x (fun e2 => by
        subst e2
        obtain ⟨cc, hcc⟩ := kind_of hov e
        rw [bP] at hcc
        simp only [Option.some.injEq, Obj.cells.injEq] at hcc
        exact absurd hcc.2.1 (by decide)))
      have hre := hown.regrow (k := k) (by omega) nm s (al ++ [112]) _ hkQ hovQ (by
        rw [hz]
        rcases hobv with e | e
        · exact .inl e
        · refine .inr (fun x hx => ?_)
          rw [e] at hx
          have := Option.some.inj hx
          omega)
      rw [hln2] at hre
      have hrk3 := rkept3 wQ g k (.string nm) (.int .u64 (s : Int)) (.slice va2 ln2 vc2)
      have hgN : N ≠ g := fun e => by
        subst e
        obtain ⟨cc, hcc⟩ := kind_of hown.row (g := N) rfl
        rw [ho] at hcc
        simp only [Option.some.injEq, Obj.cells.injEq] at hcc
        exact absurd hcc.2.1 (by decide)
      have hbx : ∀ X cs, X < wr.heap.size → wr.heap[X]? = some (.cells cs 31 (0, 0)) → X ≠ g → (((wQ.setCell ⟨g, k * 3, none⟩ (.string nm)).setCell ⟨g, k * 3 + 1, none⟩ (.int .u64 (s : Int))).setCell ⟨g, k * 3 + 2, none⟩ (.slice va2 ln2 vc2)).heap[X]? = some (.cells cs 31 (0, 0)) ∧ wQ.heap[X]? = some (.cells cs 31 (0, 0)) := fun X cs hX hXc hXg => by
        have h1 := (hkQ X hX (fun e => by
          rw [hz] at e
          obtain ⟨cc, hcc⟩ := kind_of hab e
          rw [hXc] at hcc
          simp only [Option.some.injEq, Obj.cells.injEq] at hcc
          exact absurd hcc.2.1 (by decide))).trans hXc
        exact ⟨(hrk3.block X hXg).trans h1, h1⟩
      have hgB := HGW.out
      have hN2 := hbx N _ hNs ho hgN
      have hT2 := hbx (w.heap.size + 1) _ (by omega) ht (by omega)
      have hbel : Below w.heap.size w (((wQ.setCell ⟨g, k * 3, none⟩ (.string nm)).setCell ⟨g, k * 3 + 1, none⟩ (.int .u64 (s : Int))).setCell ⟨g, k * 3 + 2, none⟩ (.slice va2 ln2 vc2)) := by
        have b1 : Below w.heap.size wr wQ := ⟨kQ.os.trans (hgv.os.trans kO.os), kQ.tape.trans (hgv.tape.trans kO.tape), kQ.output.trans (hgv.output.trans kO.output), Nat.le_trans kO.size (Nat.le_trans hgv.size kQ.size), fun b hb => hkQ b (by omega) (fun e => by rw [hz] at e; have := (lown_lt hab e).2; omega)⟩
        exact (hnx.trans b1).trans (hrk3.bel (fun b hb => by omega))
      have hsz : N < (((wQ.setCell ⟨g, k * 3, none⟩ (.string nm)).setCell ⟨g, k * 3 + 1, none⟩ (.int .u64 (s : Int))).setCell ⟨g, k * 3 + 2, none⟩ (.slice va2 ln2 vc2)).heap.size := by have := hrk3.size; have := kQ.size; have := hgv.size; omega
      have hmap : (rs.set k (⟨nm, s, al ++ [112]⟩, .slice va2 ln2 vc2)).map Prod.fst = Ldg.upTo (fun d : Rd => { d with all := d.all ++ [112] }) (k + 1) R.dests := by
        rw [map_set2, hrs]
        have := Ldg.upTo_next (fun d : Rd => { d with all := d.all ++ [112] }) hkd
        rw [← hrk, hz] at this
        exact this
      have hgQ := hkQ g hgl (fun e => hown.kind (List.getElem_mem (by omega)) e rfl)
      have r0 := (World.cell?_of_block (w := wr) (a := ⟨g, k * 3, none⟩) hgQ).trans c0
      have r1 := (World.cell?_of_block (w := wr) (a := ⟨g, k * 3 + 1, none⟩) hgQ).trans c1
      have r2 := (World.cell?_of_block (w := wr) (a := ⟨g, k * 3 + 2, none⟩) hgQ).trans c2
      have rf : ∀ j, wQ.frozen? ⟨g, j, none⟩ = false := fun j => (World.frozen?_of_block (w := wr) (a := ⟨g, j, none⟩) hgQ).trans (fz j)
      have n2 := lcell_of ho 2 rfl
      have n2q := lcell_of hN2.2 2 rfl
      have D2 := lcell_of bD 2 rfl
      have P2 := lcell_of bP 2 rfl
      have Pf := lfrozen_of bP
      have Q0 := lcell_of bQ 0 rfl
      have Q1 := lcell_of bQ 1 rfl
      have Q2 := lcell_of bQ 2 rfl
      have HRE := hide hre
      have HMAP := hide hmap
      have HBEL := hide hbel
      have HSZ := hide hsz
      have HN2 := hide hN2.1
      have HT2 := hide hT2.1
      have HAP := hide hap
      clear hre hmap hbel hsz hN2 hT2 hap hrk hkd hall hab kD bD kO0 kO hone habO hov hgv hobv hob0 hkP bP bQ kQ hkQ hovQ hrk3 hgN hbx hgQ hown ho ht hrs hnx hln hln2 hz hlr
      go_wp2_with (at_builtin; refine Ldg.wpList_app_run rfl _ _ _ _ rfl rfl rfl HAP.out ?_)
      go_wp2_with fail
      go_roundw
      case rel => exact ⟨k + 1, _, by omega, by go_num, HMAP.out, HRE.out, HBEL.out, HSZ.out, HN2.out, HT2.out⟩
      case measure => simp [intOf]; omega
    · have hkn : k = n' := by omega
      subst hkn
      have c0 := lcell_of ho 0 rfl
      have c1 := lcell_of ho 1 rfl
      have c2 := lcell_of ho 2 rfl
      have d0 := lcell_of ht 0 rfl
      have d1 := lcell_of ht 1 rfl
      have d2 := lcell_of ht 2 rfl
      have fd := lfrozen_of ht
      have HO := hide hown
      have HB := hide hnx
      have HT := hide ht
      have hrs2 : rs.map Prod.fst = R.add.dests := by
        rw [hrs, Ldg.upTo_all]
        · rfl
        · have h2 := congrArg List.length hrs
          rw [List.length_map, Ldg.upTo_len] at h2
          omega
      have HRS := hide hrs2
      clear hrs hown hnx ho ht hrs2 hNs
      go_wp2_with fail
      refine bodyPost_ret (v := .agg #[.int .u64 (R.first : Int), .int .u64 ((R.next : Int) + 1), .slice ea k ec]) (by simp [results, Try.results47, go_sem, d0, d1, d2]) rfl ?_
      have hfin := rled_told (w := w) (first := R.first) (next := R.next + 1) HO.out HT.out HB.out (.int .u64 (R.first : Int)) (.int .u64 ((R.next : Int) + 1)) rfl (by simp) rfl
      rw [HRS.out] at hfin
      exact ⟨_, rfl, hfin⟩
end Go.Proofs.Ytjbdofjheeljkaa
