/-
  Join.
-/
import Derived.Test.YtjbdofjheeljkaaLdgDoneW
import Derived.Lib.AppendStr
namespace Go.Proofs.Ytjbdofjheeljkaa
open Go.RowKit
open Ldg (De Le Rd Rl)

section
variable {P : Program} (w : World)
/-- 'append': where the row lies then. -/
theorem Ldg.app_own (base : Nat) (t ty e : TypeId) (i : TypeInfo) (z : Value) (size bytes : Nat) (ht : P.underlying t = some (.slice e)) (hi : P.info? e = some i) (hz : i.zero = some z)
    (hsize : i.size = size) (hby : i.bytes = bytes) (hzs : z.cells.size = size) (hsz : 0 < size)
    (v : Value) (n : Nat) (xs : List Value) (hown : w.ownsRow base e size v n xs)
    (a : Addr) (m c : Nat) (news : List Value) (hl : news.length = m * size) (hnews : ∀ j u, news[j]? = some u → w.cell? (a.add j) = some u) (h1 : ∀ u ∈ news, u.oneCell' = true)
    (h63 : n + m ≤ maxLen) (hbytes : (n + m) * bytes ≤ 140737488355328) (hbase : base ≤ w.heap.size) :
    ∃ v' w', (Builtin.append_ #[t, t] ty #[v, .slice (some a) m c]).run P w = .ok v' w' ∧ w'.ownsRow base e size v' (n + m) (xs ++ news) ∧ w.grownBy w' v.ownBlock ∧
      (v'.ownBlock = v.ownBlock ∨ v'.ownBlock = some w.heap.size) := by
  obtain ⟨v', w', hr, ho, hg, hn⟩ := run_append_own w base t ty e i z size bytes ht hi hz hsize hby hzs hsz v n xs hown a m c news hl hnews h1 h63 hbytes hbase
  refine ⟨v', w', hr, ho, hg, ?_⟩
  subst hsize
  subst hby
  have hsmall : n + m ≤ 9223372036854775807 := by simp only [maxLen] at h63; omega
  have det : ∀ v1 w1, (Builtin.append_ #[t, t] ty #[v, .slice (some a) m c]).run P w = .ok v1 w1 → v' = v1 := fun v1 w1 h => by
    rw [hr] at h
    simp only [Result.ok.injEq] at h
    exact h.1
  rcases hown.2 with ⟨rfl, rfl⟩ | ⟨g, cap, cur, rfl, hbg, hgg, hnc, hcm, hcs, htake⟩
  · by_cases hm : m = 0
    · rw [(hn.2 ⟨rfl, hm⟩)]; exact .inl rfl
    · have hr2 := run_append_nil (P := P) w t ty e i z ht hi hz a m c news hl hnews (by omega) (by omega) (by have hb := hbytes; simp only [Nat.zero_add] at hb; omega)
      rw [det _ _ hr2]; exact .inr rfl
  · by_cases hroom : n + m ≤ cap
    · have hfit : n * i.size + news.length ≤ cur.size := by rw [hl, hcs, ← Nat.add_mul]; exact Nat.mul_le_mul_right _ hroom
      rw [det _ _ (run_append_room (P := P) w t ty e i ht hi g n cap cur hgg a m c news hl hnews h1 hroom hfit)]; exact .inl rfl
    · have holds : ∀ j u, xs[j]? = some u → w.cell? ((⟨g, 0, none⟩ : Addr).add j) = some u := hown.cells (g := g) rfl
      rw [det _ _ (run_append_grow (P := P) w t ty e i z ht hi hz ⟨g, 0, none⟩ n cap xs hown.1 holds a m c news hl hnews (by omega) (by omega) (growslice_fits (by omega) hbytes))]; exact .inr rfl
end

/-- An 'append' whose run is known. -/
theorem Ldg.wpList_app_run {P : Program} {w w' : World} {ops : Array Oper} {rest : List Oper} {o : Oper} {a : Act} {Q : Exit → Act → World → Prop} (hgd : o.guard = none) (s x : Operand) (t u : TypeId)
    (ho : o.op = .call { callee := .builtin .append, args := #[s, x], argTypes := #[t, u] }) {v y v' : Value} (hs : a.eval s = v) (hx : a.eval x = y) (hr : (Builtin.append_ #[t, u] o.type #[v, y]).run P w = .ok v' w')
    (h : wpList P ops Q rest (a.put o.dst v') w') : wpList P ops Q (o :: rest) a w := by
  refine wpList_plain hgd fun _ hK => ?_
  unfold Oper.wp execOp
  simp only [ho, resolve, invoke, builtin, Sem.run_bind, Sem.run_pure, Result.andThen_ok, List.map_toArray, List.map_cons, List.map_nil, hs, hx, hr]
  exact hK _ _ h

/-- 'append(out.Dests, d)', d without numbers. -/
theorem OwnD.app {w : World} {B g n c : Nat} {ps : List DV} (h : OwnD w B (.slice (some ⟨g, 0, none⟩) n c) ps) (hB : B ≤ w.heap.size) (hn : n ≤ 1000000) (ty : TypeId) (b : Nat) (nm : ByteArray) (s lo ak ev rj : Nat)
    (hq : ∀ (j : Nat) (u : Value), (drow (⟨nm, s, lo, [], ak, ev, rj⟩, .slice none 0 0))[j]? = some u → w.cell? ⟨b, j, none⟩ = some u) :
    ∃ (ea : Option Addr) (ec : Nat) (w' : World), (Builtin.append_ #[25, 25] ty #[.slice (some ⟨g, 0, none⟩) n c, .slice (some ⟨b, 0, none⟩) 1 1]).run Try.prog w = .ok (.slice ea (n + 1) ec) w' ∧
      OwnD w' B (.slice ea (n + 1) ec) (ps ++ [(⟨nm, s, lo, [], ak, ev, rj⟩, .slice none 0 0)]) ∧ Kept (But w g) w w' ∧
      ∀ Y : Nat → Prop, (∀ p ∈ ps, SlIn (fun x => B ≤ x ∧ (Value.slice (some ⟨g, 0, none⟩) n c).ownBlock ≠ some x ∧ Y x) w p.2 p.1.above) → ∀ p ∈ ps ++ [(⟨nm, s, lo, [], ak, ev, rj⟩, .slice none 0 0)], SlIn (fun x => B ≤ x ∧ (Value.slice ea (n + 1) ec).ownBlock ≠ some x ∧ Y x) w' p.2 p.1.above := by
  have hnl := own_len h
  subst hnl
  obtain ⟨i0, hi, hz0, hz1, hz2⟩ := info_parts info_dest
  obtain ⟨v', w', hr, ho, hg, hob⟩ := Ldg.app_own w B 25 ty 41 i0 _ 7 80 dests_under hi hz0 hz1 hz2 rfl (by decide) (.slice (some ⟨g, 0, none⟩) ps.length c) ps.length (drows ps) h.row ⟨b, 0, none⟩ 1 1 (drow (⟨nm, s, lo, [], ak, ev, rj⟩, .slice none 0 0)) rfl
    (fun j u hu => by rw [Addr.add_lit, Nat.zero_add]; exact hq j u hu) (fun u hu => by
      simp only [drow, List.mem_cons, List.not_mem_nil, or_false] at hu
      rcases hu with rfl | rfl | rfl | rfl | rfl | rfl | rfl <;> rfl) (by unfold maxLen; omega) (by omega) hB
  have hsl : ∃ ea ec, v' = .slice ea (ps.length + 1) ec := by
    rcases ho.2 with ⟨h0, h1⟩ | ⟨g', cap, cur, h0, _⟩
    · omega
    · exact ⟨_, _, h0⟩
  obtain ⟨ea, ec, rfl⟩ := hsl
  have key : ∀ Y : Nat → Prop, (∀ p ∈ ps, SlIn (fun x => B ≤ x ∧ (Value.slice (some ⟨g, 0, none⟩) ps.length c).ownBlock ≠ some x ∧ Y x) w p.2 p.1.above) → ∀ p ∈ ps ++ [(⟨nm, s, lo, [], ak, ev, rj⟩, .slice none 0 0)], SlIn (fun x => B ≤ x ∧ (Value.slice ea (ps.length + 1) ec).ownBlock ≠ some x ∧ Y x) w' p.2 p.1.above := by
    intro Y hY p hp
    rcases List.mem_append.1 hp with hp | hp
    · have h0 := (hY p hp).mono (Y := fun x => (B ≤ x ∧ (Value.slice ea (ps.length + 1) ec).ownBlock ≠ some x ∧ Y x) ∧ g ≠ x) (fun x hx hy => ⟨⟨hy.1, fun e => by
        rcases hob with k | k
        · rw [k] at e; exact hy.2.1 e
        · rw [k] at e; simp only [Option.some.injEq] at e; omega, hy.2.2⟩, fun e => hy.2.1 (by rw [← e]; rfl)⟩)
      exact (h0.keep hg.size (fun x hx hy => hg.block x hx (fun e => hy.2 (Option.some.inj e.symm)))).mono (fun x _ hy => hy.1)
    · rw [List.mem_singleton.1 hp]
      exact SlIn.nil _ _
  refine ⟨ea, ec, w', hr, ⟨?_, fun p hp => ?_⟩, ⟨hg.os, hg.tape, hg.output, hg.size, fun x hx => hg.block x hx.1 (fun e => hx.2 (Option.some.inj e))⟩, key⟩
  · rw [List.length_append, drows_app]
    have : drows [((⟨nm, s, lo, [], ak, ev, rj⟩, .slice none 0 0) : DV)] = drow (⟨nm, s, lo, [], ak, ev, rj⟩, .slice none 0 0) := by simp [drows]
    rw [this]
    exact ho
  · exact (key (fun _ => True) (fun p hp => (h.sls p hp).mono (fun x _ hx => ⟨hx.1, hx.2, trivial⟩)) p hp).mono (fun x _ hx => ⟨hx.1, hx.2.1⟩)
theorem kind_of {w : World} {base e size n : Nat} {v : Value} {xs : List Value} (h : w.ownsRow base e size v n xs) {g : Nat} (k : v.ownBlock = some g) : ∃ cur, w.heap[g]? = some (.cells cur e (0, 0)) := by
  rcases h.2 with ⟨rfl, _⟩ | ⟨g', cap, cur, rfl, hb, hh, _⟩
  · cases k
  · simp only [Value.ownBlock, Option.some.injEq] at k
    subst k
    exact ⟨cur, hh⟩
/-- A store into a box that no part of the row is. -/
theorem OwnD.keepK {w w' : World} {B N : Nat} {v : Value} {ps : List DV} (h : OwnD w B v ps) (k : Kept (fun b => b ≠ N) w w') (hv : ∀ b, v.ownBlock = some b → b ≠ N) (hp : ∀ p ∈ ps, SlIn (fun b => B ≤ b ∧ v.ownBlock ≠ some b ∧ b ≠ N) w p.2 p.1.above) : OwnD w' B v ps := by
  refine ⟨⟨h.row.1, ?_⟩, fun p hq => ((hp p hq).keep k.size (fun b _ hx => k.block b hx.2.2)).mono (fun b _ hx => ⟨hx.1, hx.2.1⟩)⟩
  rcases h.row.2 with h0 | ⟨g, cap, cur, hvv, hB, hg, hnc, hcm, hcs, htake⟩
  · exact .inl h0
  · exact .inr ⟨g, cap, cur, hvv, hB, (k.block g (hv g (by rw [hvv]; rfl))).trans hg, hnc, hcm, hcs, htake⟩
set_option maxRecDepth 100000 in
set_option maxHeartbeats 1600000 in
theorem ljoin_any {w : World} {v : Value} {L : Le} (h : LedAt w v L) (hf : L.Fit) (n : ByteArray) (hns : n.size ≤ 1000000000) :
    Calls Try.prog 34 #[v, .string n] w (TwoE w (L.join n)) := by
  have HLED := hide h
  obtain ⟨a, c, ps, rfl, hc, hd, hds⟩ := h
  have hmn := many_of hf hd
  have hnm := names_eq hd
  obtain ⟨m, hm⟩ : ∃ m, ps.length = m := ⟨_, rfl⟩
  rw [hm] at hc hmn HLED ⊢
  have hbx := Box2.made w (.int .u64 (L.first : Int)) (.int .u64 (L.next : Int)) a m c
  have hlc := fun W (hW : Below w.heap.size w W) => lcopied_any (HLED.out.below hW) (by have := hf.many; omega) (fun d hd => by have := (hf.each d hd).len; omega)
  have hpl := fun W (hW : Below w.heap.size w W) => placeOf_any a c ps n W (hds.below hW) (by omega)
  rw [hm] at hpl
  have HPL := hide hpl
  have HDS := hide hds
  have HD := hide hd
  have HM := hide hm
  have HNM := hide hnm
  obtain ⟨wA, hwA⟩ : ∃ W, (w.alloc (.cells #[.int .u64 (L.first : Int), .int .u64 (L.next : Int), .slice a m c] 27)).alloc (.cells #[.int .u64 0, .int .u64 0, .slice none 0 0] 27) = W := ⟨_, rfl⟩
  rw [hwA] at hbx
  have z0 := lcell_of hbx.b0 0 rfl
  have z1 := lcell_of hbx.b0 1 rfl
  have z2 := lcell_of hbx.b0 2 rfl
  have y0 := lcell_of hbx.b1 0 rfl
  have y1 := lcell_of hbx.b1 1 rfl
  have y2 := lcell_of hbx.b1 2 rfl
  have fy := lfrozen_of hbx.b1
  have HLC := hide hlc
  have HBX := hide hbx
  have HF := hide hf
  have hnx := hf.next
  obtain ⟨R, hR⟩ : ∃ R, L.join n = R := ⟨_, rfl⟩
  rw [hR]
  unfold Le.join Le.names at hR
  rw [hnm] at hR
  have hdl : L.dests.length = m := by rw [hd, List.length_map, hm]
  rw [hdl] at hR
  have HDL := hide hdl
  obtain ⟨ib, hib⟩ : ∃ b, Lab.isName n = b := ⟨_, rfl⟩
  have hna := fun W => Ldg.name_any n W (by omega)
  rw [hib] at hR hna
  have HNA := hide hna
  clear hlc hpl hm hds hd hf hc hbx hnm hib hna hdl
  cases ib with
  | false =>
    rw [if_pos rfl] at hR
    subst hR
    go_enter Try.func34, Try.ntmps34
    go_wp2_with fail
    refine (HNA.out _).mono ?_
    rintro e w1 ⟨rfl, rfl⟩
    go_wp2_with fail
    refine bodyPost_ret (v := .tuple #[.agg #[.int .u64 0, .int .u64 0, .slice none 0 0], .int .i64 3]) (by simp [results, Try.results34, go_sem, y0, y1, y2]) rfl ?_
    exact TwoE.err HBX.out 3 rfl
  | true =>
    rw [if_neg (by decide)] at hR
    have HR := hide hR
    clear hR
    go_enter Try.func34, Try.ntmps34
    go_wp2_with fail
    refine (HNA.out _).mono ?_
    rintro e w1 ⟨rfl, rfl⟩
    go_wp2_with fail
    refine (HPL.out _ HBX.out.bel).mono ?_
    rintro e w1 ⟨rfl, hb1⟩
    have HX1 := hide (HBX.out.then hb1)
    clear z0 z1 z2 y0 y1 y2 fy hwA hb1
    have z0 := lcell_of HX1.out.b0 0 rfl
    have z1 := lcell_of HX1.out.b0 1 rfl
    have z2 := lcell_of HX1.out.b0 2 rfl
    have y0 := lcell_of HX1.out.b1 0 rfl
    have y1 := lcell_of HX1.out.b1 1 rfl
    have y2 := lcell_of HX1.out.b1 2 rfl
    have fy := lfrozen_of HX1.out.b1
    rcases Ldg.plc_cases (ps.map (fun p => p.1.name)) n with ⟨hp, _⟩ | ⟨k, hk, hp, _⟩
    · rw [hp] at HR ⊢
      have hR := HR.out
      rw [if_neg (fun x => x rfl)] at hR
      clear HR hp
      by_cases h4 : 4 ≤ m
      · rw [if_pos h4] at hR
        subst hR
        go_wp2_with fail
        refine bodyPost_ret (v := .tuple #[.agg #[.int .u64 0, .int .u64 0, .slice none 0 0], .int .i64 6]) (by simp [results, Try.results34, go_sem, y0, y1, y2]) rfl ?_
        exact TwoE.err HX1.out 6 rfl
      · rw [if_neg h4] at hR
        have HRR := hide hR
        clear hR
        go_wp2_with fail
        refine (HLC.out _ HX1.out.bel).mono ?_
        rintro e w2 ⟨g, c', qs, rfl, hqs, hown, hb2⟩
        have HX2 := hide (HX1.out.then hb2)
        have HOW := hide hown
        have HQS := hide hqs
        obtain ⟨N, hN⟩ : ∃ N, w2.heap.size = N := ⟨_, rfl⟩
        have hx2 := HX2.out
        have s1 := hx2.size
        have hgg := own_g hown
        rw [hN] at s1 hgg
        obtain ⟨n', hn'⟩ : ∃ n', qs.length = n' := ⟨_, rfl⟩
        rw [hn'] at HOW ⊢
        obtain ⟨wB, hwB⟩ : ∃ W, w2.alloc (.cells #[.int .u64 (L.first : Int), .int .u64 (L.next : Int), .slice (some ⟨g, 0, none⟩) n' c'] 27) = W := ⟨_, rfl⟩
        have o0 : wB.heap[N]? = some (.cells #[.int .u64 (L.first : Int), .int .u64 (L.next : Int), .slice (some ⟨g, 0, none⟩) n' c'] 27 (0, 0)) := by
          rw [← hwB, ← hN]; show (w2.heap.push _)[w2.heap.size]? = _; simp
        have kB : Below w2.heap.size w2 wB := by rw [← hwB]; exact (Below.refl _ _).alloc (Nat.le_refl _) _
        have xB := hx2.then kB
        have sB : wB.heap.size = N + 1 := by rw [← hwB]; simp [hN]
        obtain ⟨wC, hwC⟩ : ∃ W, wB.alloc (.cells #[.string n, .int .u64 (L.next : Int), .int .u64 (L.next : Int), .slice none 0 0, .int .u64 0, .int .u64 0, .int .u64 0] 41) = W := ⟨_, rfl⟩
        have kC : Below wB.heap.size wB wC := by rw [← hwC]; exact (Below.refl _ _).alloc (Nat.le_refl _) _
        have xC := xB.then kC
        have oC := (kC.block N (by omega)).trans o0
        have sC : wC.heap.size = N + 2 := by rw [← hwC]; simp [sB]
        have qC : wC.heap[N + 1]? = some (.cells #[.string n, .int .u64 (L.next : Int), .int .u64 (L.next : Int), .slice none 0 0, .int .u64 0, .int .u64 0, .int .u64 0] 41 (0, 0)) := by
          rw [← hwC, ← sB]; show (wB.heap.push _)[wB.heap.size]? = _; simp
        have hn4 : n' ≤ 4 := by rw [← hn', ← List.length_map (f := Prod.fst), hqs, HDL.out]; omega
        obtain ⟨ea, ec, w3, hap, ho3, hk3, hY3⟩ := ((HOW.out.below kB).below kC).app (by have := HX1.out.size; have := hb2.size; omega) (by omega) 25 (N + 1) n L.next L.next 0 0 0 (fun j u hu => lcell_of qC j (by simpa [drow] using hu))
        have o3 := (hk3.block N ⟨by omega, by omega⟩).trans oC
        have b3 := (hk3.block (w.heap.size + 1) ⟨by omega, by have := HX1.out.size; omega⟩).trans xC.b1
        have l3 := xC.bel.trans (hk3.bel (B := w.heap.size) (fun b hb => ⟨by omega, by have := HX1.out.size; omega⟩))
        obtain ⟨w4, hw4⟩ : ∃ W, w3.setCell ⟨N, 2, none⟩ (.slice ea (n' + 1) ec) = W := ⟨_, rfl⟩
        have o4 : w4.heap[N]? = some (.cells #[.int .u64 (L.first : Int), .int .u64 (L.next : Int), .slice ea (n' + 1) ec] 27 (0, 0)) := by
          rw [← hw4]; exact box_set o3 _
        have k34 : Kept (fun b => b ≠ N) w3 w4 := by rw [← hw4]; exact Kept.setCell (Kept.refl _ _) (fun _ h e => h e) _
        have b4 := (k34.block (w.heap.size + 1) (by omega)).trans b3
        have l4 := l3.trans (k34.bel (B := w.heap.size) (fun b hb => by omega))
        have ho4 : OwnD w4 w1.heap.size (.slice ea (n' + 1) ec) (qs ++ [(⟨n, L.next, L.next, [], 0, 0, 0⟩, .slice none 0 0)]) := by
          have hob : ∀ b, (Value.slice ea (n' + 1) ec).ownBlock = some b → b ≠ N := fun b hb e => by
            have := kind_of ho3.row hb
            obtain ⟨cs, hcs⟩ := this
            rw [e, o3] at hcs
            simp only [Option.some.injEq, Obj.cells.injEq] at hcs
            exact absurd hcs.2.1 (by decide)
          refine ho3.keepK k34 hob (hY3 (fun b => b ≠ N) (fun p hp => ?_))
          exact (((HOW.out.sls p hp).mono (Y := fun x => w1.heap.size ≤ x ∧ (Value.slice (some ⟨g, 0, none⟩) n' c').ownBlock ≠ some x ∧ x ≠ N) (fun x hx hy => ⟨hy.1, hy.2, by omega⟩)).below kB).below kC
        have x0 := lcell_of o0 0 rfl
        have x1 := lcell_of o0 1 rfl
        have x2 := lcell_of o0 2 rfl
        have xC0 := lcell_of oC 0 rfl
        have xC1 := lcell_of oC 1 rfl
        have xC2 := lcell_of oC 2 rfl
        have w32 := lcell_of o3 2 rfl
        have w3f := lfrozen_of o3
        have p0 := lcell_of o4 0 rfl
        have p1 := lcell_of o4 1 rfl
        have p2 := lcell_of o4 2 rfl
        have d0 := lcell_of b4 0 rfl
        have d1 := lcell_of b4 1 rfl
        have d2 := lcell_of b4 2 rfl
        have fd := lfrozen_of b4
        have vB := lcell_of xB.b0 1 rfl
        have HO4 := hide ho4
        have HL4 := hide l4
        have hmi : (m : Int) < 4 := by omega
        clear hx2 hown hqs hb2 o0 kB xB kC xC oC qC o3 b3 l3 k34 b4 l4 ho4 ho3 hk3 hY3 hgg z0 z1 z2 y0 y1 y2 fy hn'
        have HAP := hide hap
        clear hap
        go_wp2_with (at_builtin; refine Ldg.wpList_app_run rfl _ _ _ _ rfl rfl rfl HAP.out ?_)
        go_wp2_with fail
        refine bodyPost_ret (v := .tuple #[.agg #[.int .u64 (L.first : Int), .int .u64 (L.next : Int), .slice ea (n' + 1) ec], .int .i64 0]) (by simp [results, Try.results34, go_sem, d0, d1, d2]) rfl ?_
        have hfin := led_told (w := w) (first := L.first) (next := L.next) HX1.out.size HO4.out HL4.out (.int .u64 (L.first : Int)) (.int .u64 (L.next : Int)) rfl rfl rfl
        rw [List.map_append, HQS.out] at hfin
        rw [← HRR.out]
        exact ⟨_, rfl, hfin⟩
    · rw [hp] at HR ⊢
      have hR := HR.out
      rw [if_pos (by omega)] at hR
      subst hR
      clear HR hp
      have hk0 : ((k : Int) != -1) = true := by simp
      go_wp2_with fail
      refine bodyPost_ret (v := .tuple #[.agg #[.int .u64 0, .int .u64 0, .slice none 0 0], .int .i64 4]) (by simp [results, Try.results34, go_sem, y0, y1, y2]) rfl ?_
      exact TwoE.err HX1.out 4 rfl
end Go.Proofs.Ytjbdofjheeljkaa
