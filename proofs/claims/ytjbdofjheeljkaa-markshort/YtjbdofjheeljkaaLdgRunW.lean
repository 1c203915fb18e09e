/-
  The statements' own run: a ledger behind acts.
-/
import Derived.Test.YtjbdofjheeljkaaLdgRunM
import Derived.Test.YtjbdofjheeljkaaLdgDoesW
import Derived.Test.YtjbdofjheeljkaaGrowT
namespace Go.Proofs.Ytjbdofjheeljkaa
open Go.RowKit
open Ldg (De Le Rd Rl actL runL)

/-! ## A box is written: what lies in rows is none of it -/
theorem box_cell {w : World} {X : Nat} {t : TypeId} {F N : Nat} {a : Option Addr} {m c : Nat} (h : w.heap[X]? = some (.cells #[.int .u64 (F : Int), .int .u64 (N : Int), .slice a m c] t (0, 0))) {j : Nat} {u : Value} (hu : w.cell? ⟨X, j, none⟩ = some u) : u = .int .u64 (F : Int) ∨ u = .int .u64 (N : Int) ∨ u = .slice a m c := by
  match j with
  | 0 => rw [lcell_of h 0 rfl] at hu; exact .inl (Option.some.inj hu).symm
  | 1 => rw [lcell_of h 1 rfl] at hu; exact .inr (.inl (Option.some.inj hu).symm)
  | 2 => rw [lcell_of h 2 rfl] at hu; exact .inr (.inr (Option.some.inj hu).symm)
  | j + 3 => simp [World.cell?, h] at hu
theorem LedAt.over {w w' : World} {v : Value} {L : Le} {X F N : Nat} {t : TypeId} {a0 : Option Addr} {m0 c0 : Nat} (h : LedAt w v L) (hz : ∀ d ∈ L.dests, ∀ x ∈ d.above, x ≠ F ∧ x ≠ N) (hx : w.heap[X]? = some (.cells #[.int .u64 (F : Int), .int .u64 (N : Int), .slice a0 m0 c0] t (0, 0))) (hk : Kept (fun b => b ≠ X) w w') : LedAt w' v L := by
  obtain ⟨a, c, ps, e, hc, hd, hs⟩ := h
  refine ⟨a, c, ps, e, hc, hd, ⟨fun i hi => ?_, fun p hp => ?_⟩⟩
  · obtain ⟨b, off, ha, hl, hcs⟩ := hs.cells i hi
    have hne : b ≠ X := by
      rintro rfl
      have h1 := hcs i hi 0 _ (show (drow ps[i])[0]? = some (.string ps[i].1.name) from rfl)
      rcases box_cell hx h1 with h2 | h2 | h2 <;> cases h2
    have := hk.size
    exact ⟨b, off, ha, by omega, fun j hj k u hu => (hk.cell (by exact hne)).trans (hcs j hj k u hu)⟩
  · obtain ⟨a', c', e', h1, h2, h3⟩ := hs.sls p hp
    refine ⟨a', c', e', h1, h2, fun i hi => ?_⟩
    obtain ⟨b, off, ha, hb, hX, hcs⟩ := h3 i hi
    have hne : b ≠ X := by
      rintro rfl
      have h4 := hz p.1 (by rw [hd]; exact List.mem_map_of_mem hp) _ (List.getElem_mem hi)
      rcases box_cell hx (hcs i hi) with h5 | h5 | h5
      · simp only [Value.int.injEq, true_and] at h5; omega
      · simp only [Value.int.injEq, true_and] at h5; omega
      · cases h5
    have := hk.size
    exact ⟨b, off, ha, by omega, hX, fun j hj => (hk.cell (by exact hne)).trans (hcs j hj)⟩
theorem RlAt.over {w w' : World} {v : Value} {R : Rl} {X F N : Nat} {t : TypeId} {a0 : Option Addr} {m0 c0 : Nat} (h : RlAt w v R) (hx : w.heap[X]? = some (.cells #[.int .u64 (F : Int), .int .u64 (N : Int), .slice a0 m0 c0] t (0, 0))) (hk : Kept (fun b => b ≠ X) w w') : RlAt w' v R := by
  obtain ⟨a, c, ps, e, hc, hd, hs⟩ := h
  refine ⟨a, c, ps, e, hc, hd, ⟨fun i hi => ?_, fun p hp => ?_⟩⟩
  · obtain ⟨b, off, ha, hl, hcs⟩ := hs.cells i hi
    have hne : b ≠ X := by
      rintro rfl
      have h1 := hcs i hi 0 _ (show (rrow ps[i])[0]? = some (.string ps[i].1.name) from rfl)
      rcases box_cell hx h1 with h2 | h2 | h2 <;> cases h2
    have := hk.size
    exact ⟨b, off, ha, by omega, fun j hj k u hu => (hk.cell (by exact hne)).trans (hcs j hj k u hu)⟩
  · obtain ⟨a', c', e', h1, h2, h3⟩ := hs.sls p hp
    refine ⟨a', c', e', h1, h2, fun i hi => ?_⟩
    obtain ⟨b, off, ha, hb, hX, hcs⟩ := h3 i hi
    have hne : b ≠ X := by
      rintro rfl
      rcases box_cell hx (hcs i hi) with h5 | h5 | h5 <;> cases h5
    have := hk.size
    exact ⟨b, off, ha, by omega, hX, fun j hj => (hk.cell (by exact hne)).trans (hcs j hj)⟩

/-- The boxes of a loop over acts: the program's ledger at X, the document's at Y. -/
structure RunI (w W : World) (X Y : Nat) (R : Rl) (a1 : Option Addr) (m1 c1 : Nat) (a2 : Option Addr) (m2 c2 : Nat) : Prop where
  x : W.heap[X]? = some (.cells #[.int .u64 (R.first : Int), .int .u64 (R.next : Int), .slice a1 m1 c1] 27 (0, 0))
  y : W.heap[Y]? = some (.cells #[.int .u64 (R.first : Int), .int .u64 (R.next : Int), .slice a2 m2 c2] 31 (0, 0))
  led : LedAt W (.agg #[.int .u64 (R.first : Int), .int .u64 (R.next : Int), .slice a1 m1 c1]) R.abs
  rl : RlAt W (.agg #[.int .u64 (R.first : Int), .int .u64 (R.next : Int), .slice a2 m2 c2]) R
  ok : R.Ok
  lo : w.heap.size ≤ X
  xy : X < Y
  sz : Y < W.heap.size
  bel : Below w.heap.size w W
theorem RunI.then {w W W' : World} {X Y : Nat} {R : Rl} {a1 a2 : Option Addr} {m1 c1 m2 c2 : Nat} (h : RunI w W X Y R a1 m1 c1 a2 m2 c2) (hb : Below W.heap.size W W') : RunI w W' X Y R a1 m1 c1 a2 m2 c2 := by
  have h1 := h.xy
  have h2 := h.sz
  have h3 := hb.size
  exact ⟨(hb.block _ (by omega)).trans h.x, (hb.block _ (by omega)).trans h.y, h.led.below hb, h.rl.below hb, h.ok, h.lo, h1, by omega, bl h.bel hb⟩
/-- The world behind both stores. -/
def wrote (W : World) (X Y F N : Nat) (s1 s2 : Value) : World :=
  (((((W.setCell ⟨X, 0, none⟩ (.int .u64 (F : Int))).setCell ⟨X, 1, none⟩ (.int .u64 (N : Int))).setCell ⟨X, 2, none⟩ s1).setCell ⟨Y, 0, none⟩ (.int .u64 (F : Int))).setCell ⟨Y, 1, none⟩ (.int .u64 (N : Int))).setCell ⟨Y, 2, none⟩ s2
/-- What was told goes into the boxes. -/
theorem RunI.write {w W : World} {X Y : Nat} {R R' : Rl} {a1 a2 : Option Addr} {m1 c1 m2 c2 : Nat} (h : RunI w W X Y R a1 m1 c1 a2 m2 c2) {b1 b2 : Option Addr} {n1 d1 n2 d2 : Nat}
    (hl : LedAt W (.agg #[.int .u64 (R'.first : Int), .int .u64 (R'.next : Int), .slice b1 n1 d1]) R'.abs) (hr : RlAt W (.agg #[.int .u64 (R'.first : Int), .int .u64 (R'.next : Int), .slice b2 n2 d2]) R') (ho : R'.Ok)
    (hz : ∀ d ∈ R'.abs.dests, ∀ x ∈ d.above, x ≠ R.first ∧ x ≠ R.next) :
    RunI w (wrote W X Y R'.first R'.next (.slice b1 n1 d1) (.slice b2 n2 d2)) X Y R' b1 n1 d1 b2 n2 d2 := by
  have hlo := h.lo
  have hxy := h.xy
  have hsz := h.sz
  have hl1 := hl.over hz h.x (kept3 W X (.int .u64 (R'.first : Int)) (.int .u64 (R'.next : Int)) (.slice b1 n1 d1))
  have hr1 := hr.over h.x (kept3 W X (.int .u64 (R'.first : Int)) (.int .u64 (R'.next : Int)) (.slice b1 n1 d1))
  have hx1 := set3 h.x (.int .u64 (R'.first : Int)) (.int .u64 (R'.next : Int)) (.slice b1 n1 d1)
  have k1 := kept3 W X (.int .u64 (R'.first : Int)) (.int .u64 (R'.next : Int)) (.slice b1 n1 d1)
  have hy1 := (k1.block Y (by omega)).trans h.y
  have s1 := k1.size
  have b1' := h.bel.trans (k1.bel (fun b hb => by omega))
  unfold wrote
  generalize ((W.setCell ⟨X, 0, none⟩ (.int .u64 (R'.first : Int))).setCell ⟨X, 1, none⟩ (.int .u64 (R'.next : Int))).setCell ⟨X, 2, none⟩ (.slice b1 n1 d1) = W1 at *
  have k2 := kept3 W1 Y (.int .u64 (R'.first : Int)) (.int .u64 (R'.next : Int)) (.slice b2 n2 d2)
  have hs2 := k2.size
  exact ⟨(k2.block X (by omega)).trans hx1, set3 hy1 _ _ _, hl1.over hz hy1 k2, hr1.over hy1 k2, ho, hlo, hxy, by omega, b1'.trans (k2.bel (fun b hb => by omega))⟩

theorem alloc_new (w : World) (o : Obj) : (w.alloc o).heap[w.heap.size]? = some o := by
  show (w.heap.push o)[w.heap.size]? = some o
  rw [Array.getElem?_push, if_pos rfl]
def RunE (w : World) (R : Rl) (e : Ending) (w' : World) : Prop := ∃ a m c, e = .returned (.agg #[.int .u64 (R.first : Int), .int .u64 (R.next : Int), .slice a m c]) ∧ LedAt w' (.agg #[.int .u64 (R.first : Int), .int .u64 (R.next : Int), .slice a m c]) R.abs ∧ Below w.heap.size w w'
theorem kept_le {P : Nat → Prop} {w w' : World} (h : Below w.heap.size w w') (hP : ∀ x, P x → x < w.heap.size) : Kept P w w' := Kept.of_below h (fun x hx => hP x hx)
set_option maxRecDepth 100000 in
set_option maxHeartbeats 1600000 in
theorem run_any {w : World} {a : Option Addr} (cap : Nat) {l : List La} (ha : LasAt w a l) (hok : ∀ p ∈ l, LaOk p) (hl : l.length ≤ 1000000) :
    Calls Try.prog 29 #[.slice a l.length cap] w (RunE w (runL l)) := by
  have HA := hide ha
  have HOK := hide hok
  clear ha hok
  go_enter Try.func29, Try.ntmps29
  go_wp2_with fail
  refine (new_any _).mono ?_
  rintro e w1 ⟨rv, rfl, hl1, hb1⟩
  obtain ⟨a1, c1, ps1, rfl, hc1, hd1, hs1⟩ := hl1
  obtain ⟨m1, hm1⟩ : ∃ x, ps1.length = x := ⟨_, rfl⟩
  have hl1 : LedAt w1 (.agg #[.int .u64 ((1 : Nat) : Int), .int .u64 ((1 : Nat) : Int), .slice a1 m1 c1]) ⟨1, 1, []⟩ := ⟨a1, c1, ps1, by rw [hm1], hc1, hd1, hs1⟩
  rw [hm1]
  have HL1 := hide hl1
  have hB1 : Below w.heap.size w w1 := bl ((Below.refl _ w).alloc (Nat.le_refl _) _) hb1
  have hs0 : w.heap.size < w1.heap.size := by have := hb1.size; simp at this; omega
  have HB1 := hide hB1
  have HZ1 := hide ((hb1.block w.heap.size (by simp)).trans (alloc_new w (.cells #[.int .u64 0, .int .u64 0, .slice none 0 0] 27)))
  clear hl1 hc1 hd1 hs1 hm1 hb1 hB1
  go_wp2_with fail
  refine (rnew_any _).mono ?_
  rintro e w2 ⟨rv, rfl, hr2, hb2⟩
  obtain ⟨a2, c2, ps2, rfl, hc2, hd2, hs2⟩ := hr2
  obtain ⟨m2, hm2⟩ : ∃ x, ps2.length = x := ⟨_, rfl⟩
  have hr2 : RlAt w2 (.agg #[.int .u64 ((1 : Nat) : Int), .int .u64 ((1 : Nat) : Int), .slice a2 m2 c2]) ⟨1, 1, []⟩ := ⟨a2, c2, ps2, by rw [hm2], hc2, hd2, hs2⟩
  rw [hm2]
  obtain ⟨X, hX⟩ : ∃ X, w1.heap.size = X := ⟨_, rfl⟩
  obtain ⟨Y, hY⟩ : ∃ Y, w2.heap.size = Y := ⟨_, rfl⟩
  have hri : RunI w (w2.alloc (.cells #[.int .u64 ((1 : Nat) : Int), .int .u64 ((1 : Nat) : Int), .slice a2 m2 c2] 31)) X Y ⟨1, 1, []⟩ a1 m1 c1 a2 m2 c2 := by
    have hs1' := hb2.size
    have ha2 : Below w2.heap.size w2 (w2.alloc (.cells #[.int .u64 ((1 : Nat) : Int), .int .u64 ((1 : Nat) : Int), .slice a2 m2 c2] 31)) := (Below.refl _ w2).alloc (Nat.le_refl _) _
    have hb2' : Below w1.heap.size w1 w2 := bl ((Below.refl _ w1).alloc (Nat.le_refl _) _) hb2
    have hxx : X < w2.heap.size := by simp at hs1'; omega
    refine ⟨?_, ?_, (HL1.out.below hb2').below ha2, hr2.below ha2, Ldg.new_ok, by omega, by omega, by simp; omega, bl (bl HB1.out hb2') ha2⟩
    · refine (ha2.block _ hxx).trans ((hb2.block _ (by simp; omega)).trans ?_)
      rw [← hX]; exact alloc_new _ _
    · rw [← hY]; exact alloc_new _ _
  have HRI := hide hri
  have HZ2 := hide (((Below.refl _ w2).alloc (Nat.le_refl _) (.cells #[.int .u64 ((1 : Nat) : Int), .int .u64 ((1 : Nat) : Int), .slice a2 m2 c2] 31)).block w.heap.size (by have := hb2.size; simp at this; omega) |>.trans ((hb2.block w.heap.size (by simp; omega)).trans (((Below.refl _ w1).alloc (Nat.le_refl _) _).block w.heap.size (by omega) |>.trans HZ1.out)))
  have H0 := hide (show w.heap.size < X by omega)
  clear hr2 hc2 hd2 hs2 hm2 hb2 hri hs0
  go_wp2
  try rw [hX]
  try rw [hY]
  clear hX hY
  go_loopw [5] (fun v5 wr => ∃ (j : Nat) (a1 : Option Addr) (m1 c1 : Nat) (a2 : Option Addr) (m2 c2 : Nat), j ≤ l.length ∧ v5 = .int .i64 (j : Int) ∧ Hid (RunI w wr X Y (runL (l.take j)) a1 m1 c1 a2 m2 c2) ∧ Hid (wr.heap[w.heap.size]? = some (.cells #[.int .u64 0, .int .u64 0, .slice none 0 0] 27 (0, 0)))) (fun v5 _ => l.length - (intOf v5).toNat)
  case atStart => exact ⟨0, _, _, _, _, _, _, Nat.zero_le _, rfl, HRI, HZ2⟩
  case round =>
    clear HRI HL1 HB1 HZ1 HZ2
    obtain ⟨j, a3, m3, c3, a4, m4, c4, hj, rfl, HR, HZ⟩ := hrel
    by_cases hlt : j < l.length
    · have hro := Ldg.run_ok (l := l.take j) (by rw [List.length_take]; omega)
      have e1 := Ldg.runL_take hlt
      obtain ⟨g, o, rfl, hg, hcell⟩ := HA.out j hlt
      have hcy := (hcell j hlt).below HR.out.bel hg
      have hx := HOK.out _ (List.getElem_mem hlt)
      obtain ⟨⟨op, nm, sq, kd⟩, hy⟩ : ∃ y, l[j] = y := ⟨_, rfl⟩
      rw [hy] at hcy e1 hx
      have hnx : (runL (l.take j)).next < 10000000 := by have := hro.2; rw [List.length_take] at this; omega
      obtain ⟨R, hR⟩ : ∃ R, runL (l.take j) = R := ⟨_, rfl⟩
      rw [hR] at HR e1 hnx
      have HNX := hide hnx
      have E1 := hide e1
      have HX := hide hx
      have HD := hide hcy
      obtain ⟨d0, d1, d2, d3⟩ := hcy
      have x0 := lcell_of HR.out.x 0 rfl
      have x1 := lcell_of HR.out.x 1 rfl
      have x2 := lcell_of HR.out.x 2 rfl
      have y0 := lcell_of HR.out.y 0 rfl
      have y1 := lcell_of HR.out.y 1 rfl
      have y2 := lcell_of HR.out.y 2 rfl
      clear hy hcell hro hR e1 hnx hx
      go_wp2_with fail
      clear x0 x1 x2 y0 y1 y2 d0 d1 d2 d3
      refine wp_region_growT (fun x => x < wr.heap.size) [([0, 1, 2, 3, 4, 5], 6)] [7, 8, 9, 10, 11, 12] [([7, 8, 9, 10], 11), ([], 12)] [] [] (by kernel_rfl) (by kernel_rfl) (by kernel_rfl) (by kernel_rfl) (by kernel_rfl) ?_
      intro wq hbq
      simp only [stagesOfK, getLK, pickLK]
      have HQ := hide (HR.out.then hbq)
      have HZQ := hide ((hbq.block _ (by have := H0.out; have := HR.out.xy; have := HR.out.sz; omega)).trans HZ.out)
      have hX : X < wr.heap.size := by have := HR.out.xy; have := HR.out.sz; omega
      have hY : Y < wr.heap.size := HR.out.sz
      have hg' : g < wr.heap.size := Nat.lt_of_lt_of_le hg HR.out.bel.size
      have inh : Nonempty (GrK (fun x => x < wr.heap.size) wq) := GrK.some _ wq
      have x0 := fun z : GrK (fun x => x < wr.heap.size) wq => z.cell (a := ⟨X, 0, none⟩) hX (lcell_of HQ.out.x 0 rfl)
      have x1 := fun z : GrK (fun x => x < wr.heap.size) wq => z.cell (a := ⟨X, 1, none⟩) hX (lcell_of HQ.out.x 1 rfl)
      have x2 := fun z : GrK (fun x => x < wr.heap.size) wq => z.cell (a := ⟨X, 2, none⟩) hX (lcell_of HQ.out.x 2 rfl)
      have y0 := fun z : GrK (fun x => x < wr.heap.size) wq => z.cell (a := ⟨Y, 0, none⟩) hY (lcell_of HQ.out.y 0 rfl)
      have y1 := fun z : GrK (fun x => x < wr.heap.size) wq => z.cell (a := ⟨Y, 1, none⟩) hY (lcell_of HQ.out.y 1 rfl)
      have y2 := fun z : GrK (fun x => x < wr.heap.size) wq => z.cell (a := ⟨Y, 2, none⟩) hY (lcell_of HQ.out.y 2 rfl)
      have d0 := fun z : GrK (fun x => x < wr.heap.size) wq => z.cell (a := ⟨g, o + j * 4, none⟩) hg' ((hbq.cell (by exact hg')).trans HD.out.c0)
      have d1 := fun z : GrK (fun x => x < wr.heap.size) wq => z.cell (a := ⟨g, o + j * 4 + 1, none⟩) hg' ((hbq.cell (by exact hg')).trans HD.out.c1)
      have d2 := fun z : GrK (fun x => x < wr.heap.size) wq => z.cell (a := ⟨g, o + j * 4 + 2, none⟩) hg' ((hbq.cell (by exact hg')).trans HD.out.c2)
      have d3 := fun z : GrK (fun x => x < wr.heap.size) wq => z.cell (a := ⟨g, o + j * 4 + 3, none⟩) hg' ((hbq.cell (by exact hg')).trans HD.out.c3)
      have HSZ := hide hbq.size
      clear hbq
      refine wpT_stage ?_
      repeat (go_big_quiet_step (fail))
      refine wpQuiet_nil ?_
      clear x0 x1 x2 y0 y1 y2 d0 d1 d2 d3 inh
      go_wp2_with fail
      refine (does_any HQ.out.led HQ.out.rl HQ.out.ok HNX.out op nm sq kd HX.out.op0 HX.out.op1 HX.out.nm0 HX.out.nm1 HX.out.kd0 HX.out.kd1).mono ?_
      rintro e w3 ⟨x, y, rfl, hlx, hry, hb3⟩
      have hao := Ldg.act_ok HQ.out.ok HNX.out (k := pk op 11) (n := nameAt (pk nm 6)) (s := (IntKind.u64.wrap sq).toNat) (kd := kindOf (pk kd 8))
      have hab := fun d hd x hx => Ldg.act_above HQ.out.ok HNX.out (k := pk op 11) (n := nameAt (pk nm 6)) (s := (IntKind.u64.wrap sq).toNat) (kd := kindOf (pk kd 8)) (d := d) hd (x := x) hx
      obtain ⟨A, hA⟩ : ∃ A, R.act (pk op 11) (nameAt (pk nm 6)) (IntKind.u64.wrap sq).toNat (kindOf (pk kd 8)) = A := ⟨_, rfl⟩
      rw [hA] at hlx hry hao hab
      have HA' := hide (E1.out.trans (show actL R ⟨op, nm, sq, kd⟩ = A from hA))
      obtain ⟨a5, c5, ps5, rfl, hc5, hd5, hds5⟩ := hlx
      obtain ⟨a6, c6, ps6, rfl, hc6, hd6, hds6⟩ := hry
      have eF : A.abs.first = A.first := rfl
      have eN : A.abs.next = A.next := rfl
      rw [eF, eN]
      obtain ⟨m5, hm5⟩ : ∃ x, ps5.length = x := ⟨_, rfl⟩
      obtain ⟨m6, hm6⟩ : ∃ x, ps6.length = x := ⟨_, rfl⟩
      have hl3 : LedAt w3 (.agg #[.int .u64 (A.first : Int), .int .u64 (A.next : Int), .slice a5 m5 c5]) A.abs := ⟨a5, c5, ps5, by rw [hm5, eF, eN], hc5, hd5, hds5⟩
      have hr3 : RlAt w3 (.agg #[.int .u64 (A.first : Int), .int .u64 (A.next : Int), .slice a6 m6 c6]) A := ⟨a6, c6, ps6, by rw [hm6], hc6, hd6, hds6⟩
      rw [hm5, hm6]
      have HB3 := hide (HQ.out.then hb3)
      have HZ3 := hide ((hb3.block _ (by have := H0.out; have := HQ.out.xy; have := HQ.out.sz; omega)).trans HZQ.out)
      have hk3 : Kept (fun x => x < wr.heap.size) wq w3 := Kept.of_below hb3 (fun x hx => by have := HSZ.out; omega)
      have hwr := HB3.out.write hl3 hr3 hao.1 hab
      obtain ⟨F, hF⟩ : ∃ F, A.first = F := ⟨_, rfl⟩
      obtain ⟨N, hN⟩ : ∃ N, A.next = N := ⟨_, rfl⟩
      rw [hF, hN] at hwr ⊢
      unfold wrote at hwr
      have x0 := lcell_of HB3.out.x 0 rfl
      have x1 := lcell_of HB3.out.x 1 rfl
      have x2 := lcell_of HB3.out.x 2 rfl
      have xf := lfrozen_of HB3.out.x
      have hs4 := kept3 w3 X (.int .u64 (F : Int)) (.int .u64 (N : Int)) (.slice a5 m5 c5)
      have hy4 := (hs4.block Y (by have := HB3.out.xy; omega)).trans HB3.out.y
      have hz4 := (hs4.block w.heap.size (by have := H0.out; omega)).trans HZ3.out
      obtain ⟨w4, hw4⟩ : ∃ W, ((w3.setCell ⟨X, 0, none⟩ (.int .u64 (F : Int))).setCell ⟨X, 1, none⟩ (.int .u64 (N : Int))).setCell ⟨X, 2, none⟩ (.slice a5 m5 c5) = W := ⟨_, rfl⟩
      rw [hw4] at hs4 hy4 hz4 hwr
      have y0 := lcell_of hy4 0 rfl
      have y1 := lcell_of hy4 1 rfl
      have y2 := lcell_of hy4 2 rfl
      have yf := lfrozen_of hy4
      have hs5 := kept3 w4 Y (.int .u64 (F : Int)) (.int .u64 (N : Int)) (.slice a6 m6 c6)
      have hz5 := (hs5.block w.heap.size (by have := H0.out; have := HB3.out.xy; omega)).trans hz4
      obtain ⟨w5, hw5⟩ : ∃ W, ((w4.setCell ⟨Y, 0, none⟩ (.int .u64 (F : Int))).setCell ⟨Y, 1, none⟩ (.int .u64 (N : Int))).setCell ⟨Y, 2, none⟩ (.slice a6 m6 c6) = W := ⟨_, rfl⟩
      rw [hw5] at hs5 hz5 hwr
      have HWR := hide hwr
      have HZ5 := hide hz5
      clear hc5 hd5 hds5 hc6 hd6 hds6 hm5 hm6 eF eN hao hab hA hb3 hl3 hr3 hwr hz5 hz4 hy4 hF hN
      go_wp2
      refine OnToT.mk hk3 (Sub.refl _) ?_
      clear hk3
      refine wpT_end (fun b => b ≠ X ∧ b ≠ Y) ?_
      have inh : Nonempty (GrK (fun b => b ≠ X ∧ b ≠ Y) w3) := GrK.some _ w3
      refine wpG_stageK ?_
      repeat (go_big_quiet_step (fail))
      refine wpQuiet_nil ?_
      clear inh
      go_wp2_with fail
      refine OnToK.mk (hs4.mono (fun x hx => hx.1)) (Sub.refl _) ?_
      refine wpG_stageK (wpQuiet_nil ?_)
      go_wp2_with fail
      refine OnToK.mk (hs5.mono (fun x hx => hx.2)) (Sub.refl _) ?_
      refine wpG_lastK (wpQuiet_nil ?_)
      clear x0 x1 x2 xf y0 y1 y2 yf hw4 hw5 hs4 hs5
      go_wp2
      go_roundw
      case rel => exact ⟨j + 1, a5, m5, c5, a6, m6, c6, by omega, by go_num, by rw [HA'.out]; exact HWR, HZ5⟩
      case measure => simp [intOf]; omega
    · obtain rfl : j = l.length := by omega
      have hri := HR.out
      rw [List.take_length] at hri
      have HRF := hide hri
      have r0 := lcell_of HRF.out.x 0 rfl
      have r1 := lcell_of HRF.out.x 1 rfl
      have r2 := lcell_of HRF.out.x 2 rfl
      have z0 := lcell_of HZ.out 0 rfl
      have z1 := lcell_of HZ.out 1 rfl
      have z2 := lcell_of HZ.out 2 rfl
      have zf := lfrozen_of HZ.out
      obtain ⟨R, hR⟩ : ∃ R, runL l = R := ⟨_, rfl⟩
      rw [hR] at HRF r0 r1 r2
      have HRR := hide hR
      obtain ⟨F, hF⟩ : ∃ F, R.first = F := ⟨_, rfl⟩
      obtain ⟨N, hN⟩ : ∃ N, R.next = N := ⟨_, rfl⟩
      have hu := set3 HZ.out (.int .u64 (R.first : Int)) (.int .u64 (R.next : Int)) (.slice a3 m3 c3)
      have hl := HRF.out.led.put (above_pos HRF.out.ok) HZ.out (kept3 wr w.heap.size (.int .u64 (R.first : Int)) (.int .u64 (R.next : Int)) (.slice a3 m3 c3))
      have hbz := HRF.out.bel.trans ((kept3 wr w.heap.size (.int .u64 (R.first : Int)) (.int .u64 (R.next : Int)) (.slice a3 m3 c3)).bel (fun b hb => by omega))
      rw [hF, hN] at hl hbz hu r0 r1
      obtain ⟨wz, hwz⟩ : ∃ W, ((wr.setCell ⟨w.heap.size, 0, none⟩ (.int .u64 (F : Int))).setCell ⟨w.heap.size, 1, none⟩ (.int .u64 (N : Int))).setCell ⟨w.heap.size, 2, none⟩ (.slice a3 m3 c3) = W := ⟨_, rfl⟩
      rw [hwz] at hl hbz hu
      have HL := hide hl
      have HBZ := hide hbz
      have q0 := lcell_of hu 0 rfl
      have q1 := lcell_of hu 1 rfl
      have q2 := lcell_of hu 2 rfl
      have HF := hide hF
      have HN := hide hN
      clear hri hR hl hbz hu hF hN
      go_wp2_with fail
      refine bodyPost_ret (v := .agg #[.int .u64 (F : Int), .int .u64 (N : Int), .slice a3 m3 c3]) (by simp [results, Try.results29, go_sem, q0, q1, q2]) rfl ?_
      rw [HRR.out]
      exact ⟨a3, m3, c3, by rw [HF.out, HN.out], by rw [HF.out, HN.out]; exact HL.out, HBZ.out⟩
end Go.Proofs.Ytjbdofjheeljkaa
