/-
  The walk of LabelNot.
-/
import Derived.Test.YtlhajjplkblllaaLabelsOfW
import Derived.Test.YtlhajjplkblllaaLabShownW
import Derived.Test.YtlhajjplkblllaaLabKinds
import Derived.Deep.DeepCutAuto
import Derived.Test.YtlhajjplkblllaaMatOwnW
namespace Go.Proofs.Ytlhajjplkblllaa
open Go.RowKit
open Lab (Pr)

theorem mats_one {w : World} {q : Nat} {n x : ByteArray} {b : Bool} (h0 : w.cell? ⟨q, 0, none⟩ = some (.string n)) (h1 : w.cell? ⟨q, 1, none⟩ = some (.string x)) (h2 : w.cell? ⟨q, 2, none⟩ = some (.bool b)) : MatsAt w (some ⟨q, 0, none⟩) [(n, x, b)] := by
  intro i hi
  refine ⟨q, 0, rfl, World.block_lt_of_cell? w ⟨q, 0, none⟩ h0, fun j hj => ?_⟩
  obtain rfl : j = 0 := by simpa using hj
  exact ⟨h0, h1, h2⟩
theorem match_len (ma : Option Addr) (mcap k : Nat) (ms : List Mt) (a : Option Addr) (cap : Nat) (l : List Pr) (w : World) (hk : k = ms.length) (hm : MatsAt w ma ms) (hp : PairsAt w a l) (hml : ms.length ≤ 9223372036854775807) (hl : l.length ≤ 9223372036854775807) :
    Calls Try.prog 25 #[.slice ma k mcap, .slice a l.length cap] w fun e w' => e = .returned (.bool (mat ms l)) ∧ Below w.heap.size w w' := by
  subst hk; exact match_any ma mcap ms a cap l w hm hp hml hl
theorem lat {w w' : World} {a : Addr} {v : Value} (hb : Below w.heap.size w w') (h : w.cell? a = some v) : w'.cell? a = some v := (hb.cell (World.block_lt_of_cell? w a h)).trans h
theorem three_later {w w1 : World} {x y z : Value} {t : TypeId} (hb : Below (w.alloc (.cells #[x, y, z] t)).heap.size (w.alloc (.cells #[x, y, z] t)) w1) :
    w1.cell? ⟨w.heap.size, 0, none⟩ = some x ∧ w1.cell? ⟨w.heap.size, 1, none⟩ = some y ∧ w1.cell? ⟨w.heap.size, 2, none⟩ = some z := by
  refine ⟨?_, ?_, ?_⟩
  · rw [hb.cell (p := ⟨w.heap.size, 0, none⟩) (by simp)]; simp
  · rw [hb.cell (p := ⟨w.heap.size, 1, none⟩) (by simp)]; simp
  · rw [hb.cell (p := ⟨w.heap.size, 2, none⟩) (by simp)]; simp

theorem le_alloc {w : World} {B : Nat} (h : B ≤ w.heap.size) (o : Obj) : B ≤ (w.alloc o).heap.size := by simp; omega
theorem mats_new (w : World) (n x : ByteArray) (b : Bool) (t : TypeId) : MatsAt (w.alloc (.cells #[.string n, .string x, .bool b] t)) (some ⟨w.heap.size, 0, none⟩) [(n, x, b)] := mats_one (by simp) (by simp) (by simp)
theorem app_below {w wr w1 : World} {B : Nat} {v : Value} {ms : List Mt} (hb : Below B w wr) (ho : OwnM wr B v ms) (hg : wr.grownBy w1 v.ownBlock) (hB : B ≤ wr.heap.size) : Below B w w1 :=
  hb.grown hg hB (fun k hk => (World.ownsRow.lt ho k hk).1)
theorem some_no {a : Addr} {p : Prop} (e : some a = none) : p := by cases e
theorem own_ge {g n c k B : Nat} (h : (Value.slice (some ⟨g, 0, none⟩) n c).ownBlock = some k) (hB : B ≤ g) : B ≤ k := by
  simp only [Value.ownBlock, Option.some.injEq] at h
  omega
theorem heap_new2 (w : World) (o p : Obj) : ((w.alloc o).alloc p).drew.heap[w.heap.size]? = some o := by
  show ((w.alloc o).alloc p).heap[w.heap.size]? = some o
  rw [Below.heap_alloc _ _ _ (by simp)]; exact heap_new w o
theorem heap_new3 (w : World) (o p : Obj) : ((w.alloc p).alloc o).drew.heap[w.heap.size + 1]? = some o := by
  have := heap_new (w.alloc p) o
  rw [show (w.alloc p).heap.size = w.heap.size + 1 by simp] at this
  exact this
theorem kept_EX {w w' : World} {t : TypeId} {n x : ByteArray} {b : Bool} {k c : Nat} (hg : ((w.alloc (.cells #[] t)).alloc (.cells #[.string n, .string x, .bool b] t)).drew.grownBy w' (Value.slice (some ⟨w.heap.size, 0, none⟩) k c).ownBlock) :
    w'.cell? ⟨w.heap.size + 1, 0, none⟩ = some (.string n) ∧ w'.cell? ⟨w.heap.size + 1, 1, none⟩ = some (.string x) ∧ w'.cell? ⟨w.heap.size + 1, 2, none⟩ = some (.bool b) := by
  refine ⟨hg.cell ?_ ?_, hg.cell ?_ ?_, hg.cell ?_ ?_⟩
  all_goals first | (show ((w.alloc (.cells #[] t)).alloc _).cell? _ = _; simp) | simp [Value.ownBlock]
theorem kept_XE {w w' : World} {t : TypeId} {n x : ByteArray} {b : Bool} {k c : Nat} (hg : ((w.alloc (.cells #[.string n, .string x, .bool b] t)).alloc (.cells #[] t)).drew.grownBy w' (Value.slice (some ⟨w.heap.size + 1, 0, none⟩) k c).ownBlock) :
    w'.cell? ⟨w.heap.size, 0, none⟩ = some (.string n) ∧ w'.cell? ⟨w.heap.size, 1, none⟩ = some (.string x) ∧ w'.cell? ⟨w.heap.size, 2, none⟩ = some (.bool b) := by
  have h0 : (w.alloc (.cells #[.string n, .string x, .bool b] t)).cell? ⟨w.heap.size, 0, none⟩ = some (.string n) := by simp
  have h1 : (w.alloc (.cells #[.string n, .string x, .bool b] t)).cell? ⟨w.heap.size, 1, none⟩ = some (.string x) := by simp
  have h2 : (w.alloc (.cells #[.string n, .string x, .bool b] t)).cell? ⟨w.heap.size, 2, none⟩ = some (.bool b) := by simp
  have hb : Below (w.alloc (.cells #[.string n, .string x, .bool b] t)).heap.size (w.alloc (.cells #[.string n, .string x, .bool b] t)) ((w.alloc (.cells #[.string n, .string x, .bool b] t)).alloc (.cells #[] t)).drew := ((Below.refl _ _).alloc (Nat.le_refl _) _).drew
  refine ⟨hg.cell (lat hb h0) ?_, hg.cell (lat hb h1) ?_, hg.cell (lat hb h2) ?_⟩
  all_goals simp [Value.ownBlock]

set_option maxRecDepth 100000 in
set_option maxHeartbeats 3200000 in
theorem walkLabelNot (a0 : Option Addr) (len0 cap0 : Nat) (z0 : List Int) (a1 : Option Addr) (cap1 : Nat) (ms : List Mt) (xn xv : ByteArray) (xb : Bool) (w : World) (h0 : IsRow .i64 w a0 len0 cap0 z0)
    (hm : MatsAt w a1 ms) (hml : ms.length ≤ 9223372036854775807) (hmc : ms.length ≤ cap1 ∧ (a1 = none → cap1 = 0)) (_ : ∀ p ∈ ms, p.1.size ≤ 9223372036854775807 ∧ p.2.1.size ≤ 9223372036854775807) (_ : xn.size ≤ 9223372036854775807) (_ : xv.size ≤ 9223372036854775807) :
    Calls Try.prog 8 #[.slice a0 len0 cap0, .slice a1 ms.length cap1, .agg #[.string xn, .string xv, .bool xb]] w fun e w' => e = .returned (.bool true) ∧ Below w.heap.size w w' := by
  obtain ⟨zs, rfl, hzm, hz, hzb⟩ := isRow_ints h0
  have hR := labs_right zs
  have HL := hide (fun wx (hb : Below w.heap.size w wx) => labelsOf_any a0 cap0 zs wx (hz.below hb) hzb)
  generalize labs zs = l at *
  have h8 := hR.1
  have HM := hide hm
  clear h0 hz hzb hR hm
  by_cases h20 : 20 < ms.length
  · go_enter Try.func8, Try.ntmps8
    go_wp2_with fail
    refine (lshown_any _).mono ?_
    rintro e w1 ⟨rfl, hb1⟩
    have hbz := bl ((Below.refl _ _).alloc (Nat.le_refl _) _) hb1
    clear hb1
    go_wp2
    go_ret
    exact ⟨rfl, hbz⟩
  go_enter Try.func8, Try.ntmps8
  go_wp2_with fail
  refine (lshown_any _).mono ?_
  rintro e w1 ⟨rfl, hb1⟩
  obtain ⟨x1, x2, x3⟩ := three_later hb1
  have HB1 := hide (bl ((Below.refl _ _).alloc (Nat.le_refl _) _) hb1)
  clear hb1
  go_wp2_with fail
  refine (HL.out _ HB1.out).mono ?_
  rintro e w2 ⟨v, rfl, hown, hb2⟩
  obtain ⟨oa, ocap, rfl, hocap, hop, _⟩ := hown.view
  have y1 := lat hb2 x1
  have y2 := lat hb2 x2
  have y3 := lat hb2 x3
  have HB2 := hide (bl HB1.out hb2)
  have HOP := hide hop
  clear hown hop hb2 HB1 HL x1 x2 x3
  have z1 : ∀ o, (w2.alloc o).cell? ⟨w.heap.size, 0, none⟩ = some (.string xn) := fun o => lat ((Below.refl _ _).alloc (Nat.le_refl _) o) y1
  have z2 : ∀ o, (w2.alloc o).cell? ⟨w.heap.size, 1, none⟩ = some (.string xv) := fun o => lat ((Below.refl _ _).alloc (Nat.le_refl _) o) y2
  have z3 : ∀ o, (w2.alloc o).cell? ⟨w.heap.size, 2, none⟩ = some (.bool xb) := fun o => lat ((Below.refl _ _).alloc (Nat.le_refl _) o) y3
  go_wp2_with fail
  refine (match_len _ _ _ [(xn, xv, xb)] oa ocap l _ rfl (mats_one (by simp) (by simp) (by simp)) (HOP.out.below (((Below.refl _ _).alloc (Nat.le_refl _) _).alloc (by simp) _)) (by simp) (by omega)).mono ?_
  rintro e w3 ⟨rfl, hb3⟩
  have hbY := bl ((Below.refl _ _).alloc (Nat.le_refl _) _) hb3
  have hbA := bl ((Below.refl _ _).alloc (Nat.le_refl _) _) hbY
  obtain ⟨u1, u2, u3⟩ := three_later hbY
  have x1 := lat hbA y1
  have x2 := lat hbA y2
  have x3 := lat hbA y3
  have HB3 := hide (bl HB2.out hbA)
  have HO3 := hide (HOP.out.below hbA)
  clear hb3 hbY hbA z1 z2 z3 y1 y2 y3 HB2 HOP
  go_wp2_with fail
  refine (match_len _ _ _ [(xn, xv, !xb)] oa ocap l _ rfl (mats_one (by simp) (by simp) (by simp)) (HO3.out.below ((Below.refl _ _).alloc (Nat.le_refl _) _)) (by simp) (by omega)).mono ?_
  rintro e w4 ⟨rfl, hb4⟩
  have hbA := bl ((Below.refl _ _).alloc (Nat.le_refl _) _) hb4
  have y1 := lat hbA x1
  have y2 := lat hbA x2
  have y3 := lat hbA x3
  have HB4 := hide (bl HB3.out hbA)
  have HO4 := hide (HO3.out.below hbA)
  clear hb4 hbA x1 x2 x3 u1 u2 u3 HB3 HO3
  go_wp2_with fail
  refine (match_len a1 cap1 _ ms oa ocap l _ rfl (HM.out.below HB4.out) HO4.out hml (by omega)).mono ?_
  rintro e w5 ⟨rfl, hb5⟩
  have x1 := lat hb5 y1
  have x2 := lat hb5 y2
  have x3 := lat hb5 y3
  have HB5 := hide (bl HB4.out hb5)
  have HO5 := hide (HO4.out.below hb5)
  clear hb5 y1 y2 y3 HB4 HO4
  generalize hA : mat [(xn, xv, xb)] l = A at *
  generalize hB : mat [(xn, xv, !xb)] l = B at *
  generalize hC : mat ms l = C at *
  have hAB : (B = !A) := by
    rw [← hA, ← hB]
    simp only [mat, holds1, List.all_cons, List.all_nil, Bool.and_true]
    cases ((Lab.value l xn).toList == xv.toList) <;> cases xb <;> rfl
  have hD : mat (ms ++ [(xn, xv, xb)]) l = (C && A) := by
    rw [← hA, ← hC]
    simp [mat]
  have HD := hide hD
  have HAB := hide hAB
  clear hA hB hC hAB hD
  go_wp2_with fail
  go_cut [13] (fun v wc => v = .bool (C && A) ∧ Below w5.heap.size w5 wc)
  case first =>
    have bE : Below w5.heap.size w5 (w5.alloc (.cells #[] 39)).drew := ((Below.refl _ _).alloc (Nat.le_refl _) _).drew
    have bEX : Below w5.heap.size w5 ((w5.alloc (.cells #[] 39)).alloc (.cells #[.string xn, .string xv, .bool xb] 39)).drew := (((Below.refl _ _).alloc (Nat.le_refl _) _).alloc (by simp) _).drew
    have bXE : Below w5.heap.size w5 ((w5.alloc (.cells #[.string xn, .string xv, .bool xb] 39)).alloc (.cells #[] 39)).drew := (((Below.refl _ _).alloc (Nat.le_refl _) _).alloc (by simp) _).drew
    have HbE := hide bE
    have HbEX := hide bEX
    have HbXE := hide bXE
    have HM5 := hide (HM.out.below HB5.out)
    have HMc := hide hmc
    clear bE bEX bXE hmc
    have HNIL := hide HMc.out.2
    have HLEN : Hid (ms.length + [(xn, xv, xb)].length ≤ 1000) := by
      have : ms.length + 1 ≤ 1000 := by omega
      exact this
    have HLEN0 : Hid (([] : List Mt).length + ms.length ≤ 1000) := by
      have : 0 + ms.length ≤ 1000 := by omega
      exact this
    have z1 : ∀ o, (w5.alloc o).cell? ⟨w.heap.size, 0, none⟩ = some (.string xn) := fun o => lat ((Below.refl _ _).alloc (Nat.le_refl _) o) x1
    have z2 : ∀ o, (w5.alloc o).cell? ⟨w.heap.size, 1, none⟩ = some (.string xv) := fun o => lat ((Below.refl _ _).alloc (Nat.le_refl _) o) x2
    have z3 : ∀ o, (w5.alloc o).cell? ⟨w.heap.size, 2, none⟩ = some (.bool xb) := fun o => lat ((Below.refl _ _).alloc (Nat.le_refl _) o) x3
    go_region_law (first
      | (refine step_app (w := (w5.alloc (.cells #[] 39)).drew) rfl (.tmp 41) (.tmp 42) rfl w5.heap.size (.slice (some ⟨w5.heap.size, 0, none⟩) 0 0) [] rfl a1 cap1 ms.length ms rfl rfl (own_empty (heap_new _ _) (Nat.le_refl _)) (HM5.out.below HbE.out) HNIL.out HLEN0.out (le_alloc (Nat.le_refl _) _) ?_; intro v' w' ho hgr; have bw := HbE.out.grown hgr (le_alloc (Nat.le_refl _) _) (fun k hk => own_ge hk (Nat.le_refl _)); have p1 := lat bw x1; have p2 := lat bw x2; have p3 := lat bw x3; clear hgr)
      | (refine step_app (w := ((w5.alloc (.cells #[] 39)).alloc (.cells #[.string xn, .string xv, .bool xb] 39)).drew) rfl (.tmp 41) (.tmp 42) rfl w5.heap.size (.slice (some ⟨w5.heap.size, 0, none⟩) 0 0) [] rfl a1 cap1 ms.length ms rfl rfl (own_empty (heap_new2 _ _ _) (Nat.le_refl _)) (HM5.out.below HbEX.out) HNIL.out HLEN0.out (le_alloc (le_alloc (Nat.le_refl _) _) _) ?_; intro v' w' ho hgr; have bw := HbEX.out.grown hgr (le_alloc (le_alloc (Nat.le_refl _) _) _) (fun k hk => own_ge hk (Nat.le_refl _)); have p1 := lat bw x1; have p2 := lat bw x2; have p3 := lat bw x3; obtain ⟨c0, c1, c2⟩ := kept_EX hgr; clear hgr)
      | (refine step_app (w := ((w5.alloc (.cells #[.string xn, .string xv, .bool xb] 39)).alloc (.cells #[] 39)).drew) rfl (.tmp 41) (.tmp 42) rfl w5.heap.size (.slice (some ⟨w5.heap.size + 1, 0, none⟩) 0 0) [] rfl a1 cap1 ms.length ms rfl rfl (own_empty (heap_new3 _ _ _) (by simp)) (HM5.out.below HbXE.out) HNIL.out HLEN0.out (le_alloc (le_alloc (Nat.le_refl _) _) _) ?_; intro v' w' ho hgr; have bw := HbXE.out.grown hgr (le_alloc (le_alloc (Nat.le_refl _) _) _) (fun k hk => own_ge hk (Nat.le_succ _)); have p1 := lat bw x1; have p2 := lat bw x2; have p3 := lat bw x3; obtain ⟨c0, c1, c2⟩ := kept_XE hgr; clear hgr)
      | (refine step_app rfl (.tmp 43) (.tmp 45) rfl w5.heap.size v' ms rfl (some ⟨w'.heap.size, 0, none⟩) 1 1 [(xn, xv, xb)] rfl rfl (ho.alloc _) (mats_new _ _ _ _ _) some_no HLEN.out (le_alloc bw.size _) ?_; intro v2 w8 ho2 hgr2; have bz := app_below (bw.alloc bw.size _) (ho.alloc _) hgr2 (le_alloc bw.size _); obtain ⟨ma, mcap, rfl, hmp⟩ := ho2.view; clear hgr2 ho2)
      | (refine step_app (w := w') rfl (.tmp 43) (.tmp 45) rfl w5.heap.size v' ms rfl (some ⟨w5.heap.size + 1, 0, none⟩) 1 1 [(xn, xv, xb)] rfl rfl ho (mats_one c0 c1 c2) some_no HLEN.out bw.size ?_; intro v2 w8 ho2 hgr2; have bz := app_below bw ho hgr2 bw.size; obtain ⟨ma, mcap, rfl, hmp⟩ := ho2.view; clear hgr2 ho2)
      | (refine step_app (w := w') rfl (.tmp 43) (.tmp 45) rfl w5.heap.size v' ms rfl (some ⟨w5.heap.size, 0, none⟩) 1 1 [(xn, xv, xb)] rfl rfl ho (mats_one c0 c1 c2) some_no HLEN.out bw.size ?_; intro v2 w8 ho2 hgr2; have bz := app_below bw ho hgr2 bw.size; obtain ⟨ma, mcap, rfl, hmp⟩ := ho2.view; clear hgr2 ho2)
      | (go_simp; go_at_call 25; refine (match_len ma mcap _ (ms ++ [(xn, xv, xb)]) oa ocap l _ (by simp) hmp (HO5.out.below bz) (by simp; omega) (by omega)).mono ?_; rw [HD.out]; rintro e w9 ⟨rfl, hb9⟩))
    all_goals
      have hbz := bl bz hb9
      go_wp2_with fail
      go_meet
      case rel => exact ⟨rfl, hbz⟩
  case rest =>
    obtain ⟨rfl, hbc⟩ := hcut
    have HB6 := hide (bl HB5.out hbc)
    have HO6 := hide (HO5.out.below hbc)
    rw [HAB.out]
    cases A <;> cases C
    all_goals
      go_wp2_with fail
      refine (match_len none 0 0 [] oa ocap l _ rfl (MatsAt.nil _ _) HO6.out (by simp) (by omega)).mono ?_
      rintro e w7 ⟨rfl, hb7⟩
      have hbz := bl HB6.out hb7
      go_wp2
      go_ret
      exact ⟨rfl, hbz⟩

end Go.Proofs.Ytlhajjplkblllaa
