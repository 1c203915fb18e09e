/-
  label.inOrder: pairs in the order of their names, in a row of its own.
-/
import Derived.Test.YtbjcphefaciihaaRowW
import Derived.Test.YtbjcphefaciihaaCalm
import Derived.Deep.DeepCutAuto
import Derived.Deep.RegionWith
import Derived.Deep.QuietTactic
import Derived.BigQuiet
namespace Go.Proofs.Ytbjcphefaciihaa
open Go.RowKit
open Lab (Pr)

set_option maxRecDepth 100000 in
set_option maxHeartbeats 400000 in
theorem nameOf_any (n v : ByteArray) (w : World) : Calls Try.prog 72 #[.agg #[.string n, .string v]] w fun e w' => e = .returned (.string n) ∧ w' = w.alloc (.cells #[.string n, .string v] 53) := by
  go_enter Try.func72, Try.ntmps72
  go_wp2
  go_ret
  exact ⟨rfl, rfl⟩

theorem nameOf_bel (n v : ByteArray) (w : World) : Calls Try.prog 72 #[.agg #[.string n, .string v]] w fun e w' => e = .returned (.string n) ∧ Below w.heap.size w w' :=
  (nameOf_any n v w).mono fun _ _ ⟨he, hb⟩ => ⟨he, by rw [hb]; exact (Below.refl _ _).alloc (Nat.le_refl _) _⟩

/-- The row while a pair moves up: S in order, a hole at m, zeros behind. -/
def hole (S : List Pr) (m : Nat) (junk : Pr) (Z : List Pr) : List Pr := S.take m ++ junk :: (S.drop m ++ Z)
theorem hole_len (S : List Pr) (m : Nat) (junk : Pr) (Z : List Pr) (hm : m ≤ S.length) : (hole S m junk Z).length = S.length + 1 + Z.length := by simp [hole]; omega
theorem hole_start (S : List Pr) (x : Pr) (Z : List Pr) : S ++ (x :: Z) = hole S S.length x Z := by simp [hole]
theorem hole_at (S : List Pr) (m : Nat) (junk : Pr) (Z : List Pr) (hm : 0 < m) (hl : m ≤ S.length) (h : m - 1 < (hole S m junk Z).length) : (hole S m junk Z)[m - 1] = S[m - 1]'(by omega) := by
  have h2 : m - 1 < (S.take m ++ junk :: (S.drop m ++ Z)).length := h
  show (S.take m ++ junk :: (S.drop m ++ Z))[m - 1]'h2 = _
  rw [List.getElem_append_left (by simp; omega)]
  simp
theorem hole_set (S : List Pr) (m : Nat) (junk x : Pr) (Z : List Pr) (hl : m ≤ S.length) : (hole S m junk Z).set m x = S.take m ++ x :: (S.drop m ++ Z) := by
  unfold hole
  rw [List.set_append_right _ _ (by simp; omega)]
  simp [Nat.min_eq_left hl]
theorem hole_up (S : List Pr) (m : Nat) (junk : Pr) (Z : List Pr) (hm : 0 < m) (hl : m ≤ S.length) : (hole S m junk Z).set m (S[m - 1]'(by omega)) = hole S (m - 1) (S[m - 1]'(by omega)) Z := by
  rw [hole_set S m junk _ Z hl]
  unfold hole
  obtain ⟨k, rfl⟩ : ∃ k, m = k + 1 := ⟨m - 1, by omega⟩
  have e1 := List.take_succ_eq_append_getElem (show k < S.length by omega)
  have e2 := List.drop_eq_getElem_cons (show k < S.length by omega)
  simp only [Nat.add_sub_cancel]
  rw [e1, e2, List.append_assoc]
  rfl
theorem hole_put {l : List Pr} {k m : Nat} {x junk : Pr} {Z : List Pr} (hk : k < l.length) (hx : l[k] = x) (hm : m ≤ (Lab.canon (l.take k)).length)
    (h1 : ∀ j (h : j < (Lab.canon (l.take k)).length), m ≤ j → Lab.lt x.1 ((Lab.canon (l.take k))[j]).1 = true) (h2 : ∀ j (h : j < (Lab.canon (l.take k)).length), j + 1 = m → Lab.lt x.1 ((Lab.canon (l.take k))[j]).1 = false) :
    (hole (Lab.canon (l.take k)) m junk Z).set m x = Lab.canon (l.take (k + 1)) ++ Z := by
  rw [hole_set _ _ _ _ _ hm, List.take_succ_eq_append_getElem hk, Lab.canon_snoc, hx, Lab.ins_at x _ m (Lab.canon_sorted _) hm h1 h2]
  simp

theorem row_next {l S : List Pr} {k m : Nat} {x junk : Pr} {Z : List Pr} (hk : k < l.length) (hx : l[k] = x) (hS : S = Lab.canon (l.take k)) (hZ : Z = List.replicate (l.length - k - 1) zeroP) (hm : m ≤ S.length)
    (h1 : ∀ j (h : j < S.length), m ≤ j → Lab.lt x.1 (S[j]).1 = true) (h2 : ∀ j (h : j < S.length), j + 1 = m → Lab.lt x.1 (S[j]).1 = false) :
    (hole S m junk Z).set m x = Lab.canon (l.take (k + 1)) ++ List.replicate (l.length - (k + 1)) zeroP := by
  subst hS
  rw [hole_put hk hx hm h1 h2, hZ, Nat.sub_sub]
theorem RowAt.drewN {w : World} {g : Nat} {ps : List Pr} (h : RowAt w g ps) (n : Nat) : RowAt (w.drewN n) g ps := h
theorem below_drewN {B : Nat} {a w : World} (h : Below B a w) (n : Nat) : Below B a (w.drewN n) := ⟨h.os, h.tape, h.output, h.size, h.block⟩

set_option maxRecDepth 100000 in
set_option maxHeartbeats 3200000 in
theorem inOrder_any (a : Option Addr) (cap : Nat) (l : List Pr) (w : World) (hp : PairsAt w a l) (hl : l.length ≤ 1000) :
    Calls Try.prog 71 #[.slice a l.length cap, .func (.func 72) #[] #[]] w fun e w' => e = .returned (.slice (some ⟨w.heap.size, 0, none⟩) l.length l.length) ∧ RowAt w' w.heap.size (Lab.canon l) ∧ Below w.heap.size w w' := by
  have HP := hide hp
  clear hp
  obtain ⟨w2, hmk, hb2, hlt2, hrow⟩ := make_pairs w l.length (by omega)
  have HR := hide hrow
  clear hrow
  obtain ⟨g, hg⟩ : ∃ g, g = w.heap.size := ⟨_, rfl⟩
  rw [← hg] at hmk
  have HG := hide hg
  go_enter Try.func71, Try.ntmps71
  rw [← hg]
  clear hg
  go_wp2
  go_loopw [14] (fun i wr => ∃ k : Nat, k ≤ l.length ∧ i = .int .i64 (k : Int) ∧ RowAt wr g (Lab.canon (l.take k) ++ List.replicate (l.length - k) zeroP) ∧ Below g w wr)
    (fun i _ => l.length - (intOf i).toNat)
  case atStart => exact ⟨0, Nat.zero_le _, rfl, by rw [unhide HG]; exact unhide HR, by rw [unhide HG]; exact hb2⟩
  case round =>
    obtain ⟨k, hk, rfl, hrow, hnx⟩ := hrel
    by_cases hlt : k < l.length
    · obtain ⟨b, off, zn, zv, rfl, hbl, hz, hc1, hc2⟩ := (unhide HP).get (by rw [unhide HG] at hnx; exact hnx) hlt
      obtain ⟨S, hS⟩ : ∃ S, S = Lab.canon (l.take k) := ⟨_, rfl⟩
      have hSl : S.length = k := by rw [hS, Lab.canon_length]; simp; omega
      obtain ⟨Z, hZ⟩ : ∃ Z, Z = List.replicate (l.length - k - 1) zeroP := ⟨_, rfl⟩
      have hZl : S.length + 1 + Z.length = l.length := by rw [hSl, hZ]; simp; omega
      have hrow2 : RowAt wr g (hole S k zeroP Z) := by
        rw [← hS, show l.length - k = (l.length - k - 1) + 1 by omega, List.replicate_succ, ← hZ, hole_start, hSl] at hrow
        exact hrow
      have hgl := hrow2.1
      have HR2 := hide hrow2
      have HZ := hide hz
      have HS := hide hS
      have HZZ := hide hZ
      have HSl := hide hSl
      have HZl := hide hZl
      have hB : Below g w (wr.alloc (Obj.cells #[.string zn, .string zv] 53)) := hnx.alloc (by have := hnx.size; omega) _
      have HR3 := hide (hrow2.alloc (Obj.cells #[.string zn, .string zv] 53))
      clear hrow hrow2 hz hS hZ hSl hZl
      have hq0 : ∀ (wx : World) (v : Value) (o : Nat), (wx.setCell ⟨g, o, none⟩ v).cell? ⟨wr.heap.size, 0, none⟩ = wx.cell? ⟨wr.heap.size, 0, none⟩ := fun wx v o => World.cell?_setCell_other _ _ _ _ (fun c => by have := congrArg Addr.block c; simp at this; omega)
      have hq1 : ∀ (wx : World) (v : Value) (o : Nat), (wx.setCell ⟨g, o, none⟩ v).cell? ⟨wr.heap.size, 1, none⟩ = wx.cell? ⟨wr.heap.size, 1, none⟩ := fun wx v o => World.cell?_setCell_other _ _ _ _ (fun c => by have := congrArg Addr.block c; simp at this; omega)
      have HQ0 := hide hq0
      have HQ1 := hide hq1
      clear hq0 hq1
      go_wp2
      go_loopw [8] (fun i wi => ∃ m : Nat, m ≤ k ∧ i = .int .i64 (m : Int) ∧ (∀ j (h : j < S.length), m ≤ j → Lab.lt zn (S[j]).1 = true) ∧ (∃ junk, RowAt wi g (hole S m junk Z)) ∧ wi.cell? ⟨wr.heap.size, 0, none⟩ = some (.string zn) ∧ wi.cell? ⟨wr.heap.size, 1, none⟩ = some (.string zv) ∧ wr.heap.size < wi.heap.size ∧ Below g w wi)
        (fun i _ => (intOf i).toNat)
      case atStart => exact ⟨k, Nat.le_refl _, rfl, fun j h hj => by have := unhide HSl; omega, ⟨zeroP, unhide HR3⟩, by simp, by simp, by simp, hB⟩
      case round =>
        obtain ⟨m, hmk2, rfl, hall, ⟨junk, hro⟩, hz1, hz2, hqs, hbw⟩ := hrel
        have hSl := unhide HSl
        have hZl := unhide HZl
        have hgl2 := hro.1
        have hmS : m ≤ S.length := by omega
        have hhl := hole_len S m junk Z hmS
        have hmh : m < (hole S m junk Z).length := by omega
        obtain ⟨c1, c2, f1, f2⟩ := hro.2 m hmh
        obtain ⟨⟨jn, jv⟩, hj⟩ : ∃ y, (hole S m junk Z)[m] = y := ⟨_, rfl⟩
        rw [hj] at c1 c2
        have HRS := hide (hro.set hmh (zn, zv))
        have HRO := hide hro
        have HA := hide hall
        have HH := hide hhl
        clear hro hall hhl hj hmh hSl hZl
        cases m with
        | zero =>
          have hd : decide ((0 : Int) < ((0 : Nat) : Int)) = false := rfl
          go_wp2_with fail
          go_quiet (fail)
          go_wp2
          go_roundw
          case rel =>
            have R := ((unhide HRO).drewN nq).set (i := 0) (by have := unhide HH; omega) (zn, zv)
            rw [row_next hlt (unhide HZ) (unhide HS) (unhide HZZ) hmS (unhide HA) (fun j h hj => by omega)] at R
            exact ⟨k + 1, by omega, by go_num, R, ((below_drewN hbw nq).setCell (Nat.le_refl _) _).setCell (Nat.le_refl _) _⟩
          case measure => simp [intOf]; omega
        | succ p =>
          have hpS : p < S.length := by omega
          have hph : p < (hole S (p + 1) junk Z).length := by have := unhide HH; omega
          obtain ⟨d1, d2, _, _⟩ := (unhide HRO).2 p hph
          have hhp := hole_at S (p + 1) junk Z (by omega) hmS hph
          obtain ⟨⟨yn, yv⟩, hy⟩ : ∃ y, S[p] = y := ⟨_, rfl⟩
          have hhp' : (hole S (p + 1) junk Z)[p] = (yn, yv) := hhp.trans hy
          rw [hhp'] at d1 d2
          have HY := hide hy
          clear hhp hhp' hy
          obtain ⟨t, ht⟩ : ∃ t, Op.bytesLess zn.toList yn.toList = t := ⟨_, rfl⟩
          have HT : Hid (Lab.lt zn yn = t) := ht
          go_wp2_with fail
          have inh : Nonempty (Ext wr) := Ext.some wr
          have x1 : ∀ x : Ext wr, x.w.cell? _ = _ := fun x => x.cell hz1
          have x2 : ∀ x : Ext wr, x.w.cell? _ = _ := fun x => x.cell hz2
          have x3 : ∀ x : Ext wr, x.w.cell? _ = _ := fun x => x.cell d1
          have x4 : ∀ x : Ext wr, x.w.cell? _ = _ := fun x => x.cell d2
          refine wp_region_calm (by kernel_rfl) (by kernel_rfl) ?_
          repeat (go_big_quiet_step ((go_at_call 72; exact calm_of (nameOf_bel _ _ _))))
          refine wpQuiet_nil ?_
          intro _ hw'
          obtain ⟨xq, rfl⟩ := hw'
          have c1' := xq.cell c1
          have c2' := xq.cell c2
          have f1' := (xq.below.frozen (p := ⟨g, (p + 1) * 2, none⟩) hgl2).trans f1
          have f2' := (xq.below.frozen (p := ⟨g, (p + 1) * 2 + 1, none⟩) hgl2).trans f2
          have y1 := x1 xq
          have y2 := x2 xq
          have y3 := x3 xq
          have y4 := x4 xq
          have HRX := hide ((unhide HRO).later xq.below)
          have hbx : Below g w xq.w := hbw.trans (xq.below.mono (by omega))
          have hqx : _ < xq.w.heap.size := Nat.lt_of_lt_of_le hqs xq.below.size
          have hmh : p + 1 < (hole S (p + 1) junk Z).length := by have := unhide HH; omega
          clear x1 x2 x3 x4 inh c1 c2 f1 f2 d1 d2 hz1 hz2 hbw hqs HRO HRS
          generalize xq.w = wc at *
          cases t with
          | true =>
            go_wp2
            go_roundw
            case rel =>
              have R := (unhide HRX).set hmh (yn, yv)
              have E : (hole S (p + 1) junk Z).set (p + 1) (yn, yv) = hole S p (yn, yv) Z := by
                have E0 := hole_up S (p + 1) junk Z (by omega) hmS
                have E1 : S[p + 1 - 1]'(by omega) = (yn, yv) := unhide HY
                rw [E1] at E0
                exact E0
              rw [E] at R
              refine ⟨p, by omega, by go_num, fun j h hj => ?_, ⟨_, R⟩, ?_, ?_, by simpa using hqx, (hbx.setCell (Nat.le_refl _) _).setCell (Nat.le_refl _) _⟩
              · by_cases e : p = j
                · subst e; rw [unhide HY]; exact unhide HT
                · exact unhide HA j h (by omega)
              · rw [unhide HQ0, unhide HQ0]; exact y1
              · rw [unhide HQ1, unhide HQ1]; exact y2
            case measure => simp [intOf]
          | false =>
            go_wp2
            go_roundw
            case rel =>
              have R := (unhide HRX).set hmh (zn, zv)
              have hstop : ∀ j (h : j < S.length), j + 1 = p + 1 → Lab.lt (zn, zv).1 (S[j]).1 = false := by
                intro j h hj
                have e : j = p := by omega
                subst e
                rw [unhide HY]; exact unhide HT
              rw [row_next hlt (unhide HZ) (unhide HS) (unhide HZZ) hmS (unhide HA) (hstop)] at R
              exact ⟨k + 1, by omega, by go_num, R, (hbx.setCell (Nat.le_refl _) _).setCell (Nat.le_refl _) _⟩
            case measure => simp [intOf]; omega
    · go_wp2
      go_ret
      refine ⟨rfl, ?_, hnx⟩
      rw [show l.length - k = 0 by omega, List.take_of_length_le (by omega)] at hrow
      simpa using hrow

end Go.Proofs.Ytbjcphefaciihaa
