/-
  The walk of SampleWide.
-/
import Derived.Test.YtocelglgafmfnaaSmpOfW
import Derived.Test.YtocelglgafmfnaaSmpFormW
import Derived.Test.YtocelglgafmfnaaSampleBackW
import Derived.BigQuiet
namespace Go.Proofs.Ytocelglgafmfnaa
open Go.RowKit
open Smp (Sm)

theorem rise_snoc : ∀ (l : List Sm) (x : Sm), Smp.riseB l = true → (0 < l.length → (Smp.gt l (l.length - 1)).1 < x.1) → Smp.riseB (l ++ [x]) = true
  | [], _, _, _ => rfl
  | [a], x, _, h => by
    have := h (by simp)
    simp [Smp.riseB]
    simpa [Smp.gt] using this
  | a :: b :: r, x, h, hl => by
    simp only [Smp.riseB, Bool.and_eq_true, decide_eq_true_eq, List.cons_append] at h ⊢
    refine ⟨h.1, rise_snoc (b :: r) x h.2 fun hh => ?_⟩
    have := hl (by simp)
    simpa [Smp.gt] using this

theorem OwnS.at2 {w : World} {B n cap : Nat} {a : Option Addr} {ss : List Sm} (h : OwnS w B (.slice a n cap) ss) : ss.length = n ∧ ss.length ≤ cap ∧ SmpsAt w a ss := by
  obtain ⟨a', cap', hv, h1, h2, _⟩ := h.view
  simp only [Value.slice.injEq] at hv
  obtain ⟨rfl, rfl, rfl⟩ := hv
  exact ⟨rfl, h1, h2⟩
theorem take_back0 {l : List Sm} (h : Smp.check l = 0) (ho : ∀ x ∈ l, Smp.Ok x) (w : World) :
    Calls Try.prog 13 #[.string (Num.bs (Smp.putS l))] w fun e w' => ∃ b cb, e = .returned (.tuple #[.slice b l.length cb, .string ⟨#[]⟩, .int .i64 0]) ∧ SmpsAt w' b l ∧ Below w.heap.size w w' := by
  have := take_back h ho ⟨#[]⟩ w (Nat.zero_le _)
  have e : Num.bs (Smp.putS l) ++ (⟨#[]⟩ : ByteArray) = Num.bs (Smp.putS l) := ByteArray.append_empty
  rwa [e] at this

set_option maxRecDepth 100000 in
set_option maxHeartbeats 6400000 in
theorem walkSampleWide (a1 : Option Addr) (len1 cap1 : Nat) (z1 : List Int) (a2 : Option Addr) (len2 cap2 : Nat) (z2 : List Int) (w : World) (hr1 : IsRow .u64 w a1 len1 cap1 z1) (hr2 : IsRow .i64 w a2 len2 cap2 z2) :
    Calls Try.prog 5 #[.slice a1 len1 cap1, .slice a2 len2 cap2] w fun e w' => e = .returned (.bool true) ∧ Below w.heap.size w w' := by
  obtain ⟨i0, hi, hz0, hz1, hz2⟩ := info_parts info_smp
  obtain ⟨ts, rfl, htl, htp, htw⟩ := isRow_nums hr1
  obtain ⟨vs, rfl, hvl, hvp, hvw⟩ := isRow_nums hr2
  clear hr1 hr2
  have htb : ∀ z ∈ ts, 0 ≤ z ∧ z < 18446744073709551616 := fun z h => by have := bounds_u64 (htw z h); omega
  have hvb : ∀ z ∈ vs, -9223372036854775808 ≤ z ∧ z ≤ 9223372036854775807 := fun z h => bounds_i64 (hvw z h)
  clear htw hvw
  have htl' : ts.length ≤ 9223372036854775807 := htl
  have hvl' : vs.length ≤ 9223372036854775807 := hvl
  by_cases h20 : 20 < ts.length
  · clear htp hvp htb hvb
    go_enter Try.func5, Try.ntmps5
    go_wp2_with fail
    refine (shown_any _).mono ?_
    rintro e w1 ⟨rfl, hb1⟩
    go_wp2
    go_ret
    exact ⟨rfl, hb1⟩
  have HTP := hide (fun wx (hb : Below w.heap.size w wx) => htp.below hb)
  have HVP := hide (fun wx (hb : Below w.heap.size w wx) => hvp.below hb)
  have HTB := hide htb
  have HVB := hide hvb
  clear htp hvp htb hvb
  go_enter Try.func5, Try.ntmps5
  go_wp2_with fail
  refine (shown_any _).mono ?_
  rintro e w1 ⟨rfl, hb1⟩
  go_wp2
  go_loopw [6] (fun v wr => ∃ (l : List Sm) (a : Option Addr) (cap : Nat), v = .slice a l.length cap ∧ OwnS wr w1.heap.size (.slice a l.length cap) l ∧ l.length ≤ ts.length ∧ Hid (Smp.riseB l = true) ∧ Hid (∀ x ∈ l, Smp.Ok x) ∧ Below w1.heap.size w1 wr)
    (fun v _ => ts.length - lenOf v)
  case atStart => exact ⟨[], none, 0, rfl, OwnS.nil _ _, Nat.zero_le _, rfl, hide (fun x h => by simp at h), Below.refl _ _⟩
  case round =>
    obtain ⟨l, a, cap, rfl, hown, hll, HR, HO, hnx⟩ := hrel
    obtain ⟨wo, hwo⟩ : ∃ wo, wo = wr := ⟨_, rfl⟩
    subst hwo
    have hsz := hnx.size
    by_cases hlt : l.length < ts.length
    · have hown' := hown.alloc (Obj.cells #[.int .u64 0, .int .i64 0] 38)
      have hal := (Below.refl wo.heap.size wo).alloc (Nat.le_refl _) (Obj.cells #[.int .u64 0, .int .i64 0] 38)
      have hli : (l.length : Int) < (ts.length : Int) := by omega
      go_wp2
      go_loopw [9, 7] (fun i fo wr => ∃ (k : Nat) (f : Bool) (t : Int), k ≤ ts.length ∧ i = .int .i64 (k : Int) ∧ fo = .bool f ∧ wr.cell? ⟨wo.heap.size, 0, none⟩ = some (.int .u64 t) ∧ wr.cell? ⟨wo.heap.size, 1, none⟩ = some (.int .i64 0) ∧ wr.frozen? ⟨wo.heap.size, 0, none⟩ = false ∧ wr.frozen? ⟨wo.heap.size, 1, none⟩ = false ∧ Hid (f = true → (0 ≤ t ∧ t < 18446744073709551616) ∧ (0 < l.length → (Smp.gt l (l.length - 1)).1 < t)) ∧ Below wo.heap.size wo wr)
        (fun i _ _ => ts.length - (intOf i).toNat)
      case atStart => exact ⟨0, false, 0, Nat.zero_le _, rfl, rfl, by simp, by simp, World.frozen?_alloc_at _ _ _ _ rfl, World.frozen?_alloc_at _ _ _ _ rfl, hide (fun h => by cases h), hal⟩
      case round =>
        obtain ⟨k, f, t, hk, rfl, rfl, c0, c1, f0, f1, HF, hni⟩ := hrel
        clear hal hown'
        have HOWNO := hide hown
        have hsi := hni.size
        have hnw := hb1.trans ((hnx.trans (hni.mono hsz)).mono hb1.size)
        by_cases hkt : k < ts.length
        · obtain ⟨b, off, x, rfl, hbl, hx, hc⟩ := (HTP.out wr (hnw.mono (Nat.le_refl _))).get (Below.refl _ _) hkt
          obtain ⟨x0, x1⟩ := HTB.out ts[k] (List.getElem_mem hkt)
          rw [hx] at x0 x1
          have hki : (k : Int) < (ts.length : Int) := by omega
          have W1 := hide (fun nq => World.cell?_setCell_same (w := wr.drewN nq) (a := ⟨wo.heap.size, 0, none⟩) (v := .int .u64 x) c0)
          have W2 := hide (fun nq => (World.cell?_setCell_other (w := wr.drewN nq) (a := ⟨wo.heap.size, 0, none⟩) (b := ⟨wo.heap.size, 1, none⟩) (v := .int .u64 x) (fun c => by have := congrArg Addr.off c; simp at this)).trans c1)
          clear hx
          by_cases hl0 : l.length = 0
          · have hb0 : ((l.length : Int) == 0) = true := by simp [hl0]
            have HX : Hid ((0 ≤ x ∧ x < 18446744073709551616) ∧ (0 < l.length → (Smp.gt l (l.length - 1)).1 < x)) := hide ⟨⟨x0, x1⟩, fun h => by omega⟩
            clear hl0
            cases f with
            | false =>
              go_wp2_with fail
              go_quiet (fail)
              go_wp2
              go_roundw
              case rel => exact ⟨k + 1, true, x, by omega, by go_num, rfl, W1.out nq, W2.out nq, by rw [World.frozen?_setCell]; exact f0, by rw [World.frozen?_setCell]; exact f1, hide (fun _ => HX.out), (below_drewN hni _).setCell (Nat.le_refl _) _⟩
              case measure => simp [intOf]; omega
            | true =>
              by_cases hxt : x < t
              · go_wp2_with fail
                go_quiet (fail)
                go_wp2
                go_roundw
                case rel => exact ⟨k + 1, true, x, by omega, by go_num, rfl, W1.out nq, W2.out nq, by rw [World.frozen?_setCell]; exact f0, by rw [World.frozen?_setCell]; exact f1, hide (fun _ => HX.out), (below_drewN hni _).setCell (Nat.le_refl _) _⟩
                case measure => simp [intOf]; omega
              · have hxt' : t ≤ x := by omega
                go_wp2_with fail
                go_quiet (fail)
                go_wp2
                go_roundw
                case rel => exact ⟨k + 1, true, t, by omega, by go_num, rfl, c0, c1, f0, f1, hide (fun _ => HF.out (by trivial)), below_drewN hni _⟩
                case measure => simp [intOf]; omega
          · have hb0 : ((l.length : Int) == 0) = false := beq_eq_false_iff_ne.2 (by omega)
            obtain ⟨g, cap', hv, _, _, hg, hcell, _⟩ := hown.row (by omega)
            simp only [Value.slice.injEq, true_and] at hv
            obtain ⟨rfl, rfl⟩ := hv
            obtain ⟨n1, hn1⟩ : ∃ n1, l.length - 1 = n1 := ⟨_, rfl⟩
            have hn2 : (l.length : Int) - 1 = (n1 : Int) := by omega
            have hn3 : (n1 : Int) < (l.length : Int) := by omega
            have hn4 : n1 < l.length := by omega
            have hn5 : IntKind.i64.wrap (n1 : Int) = (n1 : Int) := by rw [IntKind.wrap_i64]; omega
            have cl := (hni.cell (p := ⟨g, n1 * 2, none⟩) hg).trans (hcell n1 hn4).1
            obtain ⟨la, hla⟩ : ∃ la, (l[n1]).1 = la := ⟨_, rfl⟩
            rw [hla] at cl
            have HLA : Hid ((Smp.gt l (l.length - 1)).1 = la) := by rw [hn1, gt_at hn4]; exact hla
            clear hcell hl0 hn1 hla
            by_cases hlx : la < x
            · have HX : Hid ((0 ≤ x ∧ x < 18446744073709551616) ∧ (0 < l.length → (Smp.gt l (l.length - 1)).1 < x)) := hide ⟨⟨x0, x1⟩, fun h => by rw [HLA.out]; exact hlx⟩
              cases f with
              | false =>
                go_wp2_with fail
                go_quiet (fail)
                go_wp2
                go_roundw
                case rel => exact ⟨k + 1, true, x, by omega, by go_num, rfl, W1.out nq, W2.out nq, by rw [World.frozen?_setCell]; exact f0, by rw [World.frozen?_setCell]; exact f1, hide (fun _ => HX.out), (below_drewN hni _).setCell (Nat.le_refl _) _⟩
                case measure => simp [intOf]; omega
              | true =>
                by_cases hxt : x < t
                · go_wp2_with fail
                  go_quiet (fail)
                  go_wp2
                  go_roundw
                  case rel => exact ⟨k + 1, true, x, by omega, by go_num, rfl, W1.out nq, W2.out nq, by rw [World.frozen?_setCell]; exact f0, by rw [World.frozen?_setCell]; exact f1, hide (fun _ => HX.out), (below_drewN hni _).setCell (Nat.le_refl _) _⟩
                  case measure => simp [intOf]; omega
                · have hxt' : t ≤ x := by omega
                  go_wp2_with fail
                  go_quiet (fail)
                  go_wp2
                  go_roundw
                  case rel => exact ⟨k + 1, true, t, by omega, by go_num, rfl, c0, c1, f0, f1, hide (fun _ => HF.out (by trivial)), below_drewN hni _⟩
                  case measure => simp [intOf]; omega
            · have hlx' : x ≤ la := by omega
              have hlx2 : decide (la < x) = false := decide_eq_false hlx
              go_wp2_with fail
              go_quiet (fail)
              go_wp2
              go_roundw
              case rel => exact ⟨k + 1, f, t, by omega, by go_num, rfl, c0, c1, f0, f1, HF, below_drewN hni _⟩
              case measure => simp [intOf]; omega
        · have hown := hown.below hni
          have hny := bl hnx hni
          have hkt' : (ts.length : Int) ≤ (k : Int) := by omega
          cases f with
          | false =>
            clear HF c0 c1 f0 f1 hni
            obtain ⟨_, hcap, hsa⟩ := hown.at2
            by_cases h0 : l.length = 0
            · have hb0 : ((l.length : Int) == 0) = true := by simp [h0]
              have HC := check_any a cap l wr hsa hcap (by omega)
              rw [Smp.check_many (.inl h0)] at HC
              have HC' := hide HC
              have hbz := bl hb1 hny
              clear HC hsa hown h0
              go_wp2_with fail
              refine HC'.out.mono ?_
              rintro e w4 ⟨rfl, hb4⟩
              have hbz2 := bl hbz hb4
              clear hb4
              go_wp2
              go_ret
              exact ⟨rfl, hbz2⟩
            · have hb0 : ((l.length : Int) == 0) = false := beq_eq_false_iff_ne.2 (by omega)
              have hck := Smp.check_ok (l := l) (by omega) HR.out
              have HC := hide (fun wx (hb : Below wr.heap.size wr wx) => check_any a cap l wx (hsa.below hb) hcap (by omega))
              have HP := put_form a cap l wr hsa hcap (by omega) HO.out
              rw [hck] at HC HP
              rw [putRes_ok hck] at HP
              have HP' := hide HP
              have HT := hide (fun wx => take_back0 hck HO.out wx)
              have HSA := hide hsa
              have HBZ := hide (bl hb1 hny)
              clear HP hsa hown hck
              go_wp2_with fail
              refine HP'.out.mono ?_
              rintro e w4 ⟨rfl, hb4⟩
              have HB4 := hide hb4
              clear hb4
              go_wp2_with fail
              refine (HT.out _).mono ?_
              rintro e w5 ⟨tb, tc, rfl, hst, hb5⟩
              have HB5 := hide (bl HB4.out hb5)
              have HST := hide hst
              clear hb5 hst HB4
              go_wp2_with fail
              refine (HC.out _ HB5.out).mono ?_
              rintro e w6 ⟨rfl, hb6⟩
              have HB6 := hide (bl HB5.out hb6)
              have HSY := hide (same_yes tb tc a cap l w6 (by omega) (HST.out.below hb6) (HSA.out.below HB6.out))
              clear hb6 HB5
              go_wp2_with fail
              refine HSY.out.mono ?_
              rintro e w7 ⟨rfl, hb7⟩
              have hbz := bl HBZ.out (bl HB6.out hb7)
              clear hb7
              go_wp2
              go_ret
              exact ⟨rfl, hbz⟩
          | true =>
            obtain ⟨⟨t0, t1⟩, hlast⟩ := HF.out rfl
            by_cases hlv : l.length < vs.length
            · obtain ⟨b2, off2, y, rfl, _, hy, hc2⟩ := (HVP.out wr (hnw.mono (Nat.le_refl _))).get (Below.refl _ _) hlv
              obtain ⟨y0, y1⟩ := HVB.out vs[l.length] (List.getElem_mem hlv)
              rw [hy] at y0 y1
              have hli2 : (l.length : Int) < (vs.length : Int) := by omega
              have HR2 := hide (rise_snoc l (t, y) HR.out hlast)
              have HO2 : Hid (∀ x ∈ l ++ [(t, y)], Smp.Ok x) := hide fun x hx => by
                rcases List.mem_append.1 hx with hx | hx
                · exact HO.out x hx
                · rw [List.mem_singleton.1 hx]; exact ⟨t0, t1, y0, y1⟩
              obtain ⟨wS, hwS⟩ : ∃ wS, wr.setCell ⟨wo.heap.size, 1, none⟩ (.int .i64 y) = wS := ⟨_, rfl⟩
              have hbS := hni.setCell (p := ⟨wo.heap.size, 1, none⟩) (Nat.le_refl _) (.int .i64 y)
              have s0 := (World.cell?_setCell_other (w := wr) (a := ⟨wo.heap.size, 1, none⟩) (b := ⟨wo.heap.size, 0, none⟩) (v := .int .i64 y) (fun c => by have := congrArg Addr.off c; simp at this)).trans c0
              have s1 := World.cell?_setCell_same (w := wr) (a := ⟨wo.heap.size, 1, none⟩) (v := .int .i64 y) c1
              rw [hwS] at hbS s0 s1
              have hownS := HOWNO.out.below hbS
              have hbSS := bl hnx hbS
              have hszS := hbSS.size
              unfold OwnS at hownS
              clear hown hni hny hlast
              go_wp2_with (at_builtin; refine wpList_append_own _ rfl _ _ 22 rfl w1.heap.size 38 i0 _ 2 16 Try.underlying22 hi hz0 hz1 hz2 rfl (by decide) _ _ _ rfl (hownS.alloc _) ⟨wS.heap.size, 0, none⟩ 1 1 [.int .u64 t, .int .i64 y] rfl rfl ?c1 ?c2 ?c3 ?c4 ?c5 ?_)
              try case c1 => exact cells_two_new _ _ _ _
              case c2 => first | (intro z hz; simp at hz; rcases hz with rfl | rfl <;> rfl) | exact ⟨rfl, rfl⟩
              case c3 => unfold maxLen; omega
              case c4 => omega
              case c5 => first | omega | (simp; omega)
              intro v' w7 hown' hgrow _
              have R := owns_step rfl hszS (hownS.alloc _) hbSS hown' hgrow
              obtain ⟨a', cap', rfl, _, _, _⟩ := R.1.view
              clear hownS hown' hgrow
              go_wp2
              go_roundw
              case rel => exact ⟨_, a', cap', rfl, R.1, by simp; omega, HR2, HO2, R.2⟩
              case measure => simp [lenOf]; omega
            · have HR2 := hide (rise_snoc l (t, 0) HR.out hlast)
              have HO2 : Hid (∀ x ∈ l ++ [(t, 0)], Smp.Ok x) := hide fun x hx => by
                rcases List.mem_append.1 hx with hx | hx
                · exact HO.out x hx
                · rw [List.mem_singleton.1 hx]; exact ⟨t0, t1, by show (-9223372036854775808 : Int) ≤ 0; omega, by show (0 : Int) ≤ 9223372036854775807; omega⟩
              have hli2 : (vs.length : Int) ≤ (l.length : Int) := by omega
              have hownS := HOWNO.out.below hni
              have hszS := hny.size
              unfold OwnS at hownS
              clear hown hlast
              go_wp2_with (at_builtin; refine wpList_append_own _ rfl _ _ 22 rfl w1.heap.size 38 i0 _ 2 16 Try.underlying22 hi hz0 hz1 hz2 rfl (by decide) _ _ _ rfl (hownS.alloc _) ⟨wr.heap.size, 0, none⟩ 1 1 [.int .u64 t, .int .i64 0] rfl rfl ?d1 ?d2 ?d3 ?d4 ?d5 ?_)
              try case d1 => exact cells_two_new _ _ _ _
              case d2 => first | (intro z hz; simp at hz; rcases hz with rfl | rfl <;> rfl) | exact ⟨rfl, rfl⟩
              case d3 => unfold maxLen; omega
              case d4 => omega
              case d5 => first | omega | (simp; omega)
              intro v' w7 hown' hgrow _
              have R := owns_step rfl hszS (hownS.alloc _) hny hown' hgrow
              obtain ⟨a', cap', rfl, _, _, _⟩ := R.1.view
              clear hownS hown' hgrow
              go_wp2
              go_roundw
              case rel => exact ⟨_, a', cap', rfl, R.1, by simp; omega, HR2, HO2, R.2⟩
              case measure => simp [lenOf]; omega
    · have hli : (ts.length : Int) ≤ (l.length : Int) := by omega
      obtain ⟨_, hcap, hsa⟩ := hown.at2
      by_cases h0 : l.length = 0
      · have hb0 : ((l.length : Int) == 0) = true := by simp [h0]
        have HC := check_any a cap l wo hsa hcap (by omega)
        rw [Smp.check_many (.inl h0)] at HC
        have HC' := hide HC
        have hbz := bl hb1 hnx
        clear HC hsa hown h0
        go_wp2_with fail
        refine HC'.out.mono ?_
        rintro e w4 ⟨rfl, hb4⟩
        have hbz2 := bl hbz hb4
        clear hb4
        go_wp2
        go_ret
        exact ⟨rfl, hbz2⟩
      · have hb0 : ((l.length : Int) == 0) = false := beq_eq_false_iff_ne.2 (by omega)
        have hck := Smp.check_ok (l := l) (by omega) HR.out
        have HC := hide (fun wx (hb : Below wo.heap.size wo wx) => check_any a cap l wx (hsa.below hb) hcap (by omega))
        have HP := put_form a cap l wo hsa hcap (by omega) HO.out
        rw [hck] at HC HP
        rw [putRes_ok hck] at HP
        have HP' := hide HP
        have HT := hide (fun wx => take_back0 hck HO.out wx)
        have HSA := hide hsa
        have HBZ := hide (bl hb1 hnx)
        clear HP hsa hown hck
        go_wp2_with fail
        refine HP'.out.mono ?_
        rintro e w4 ⟨rfl, hb4⟩
        have HB4 := hide hb4
        clear hb4
        go_wp2_with fail
        refine (HT.out _).mono ?_
        rintro e w5 ⟨tb, tc, rfl, hst, hb5⟩
        have HB5 := hide (bl HB4.out hb5)
        have HST := hide hst
        clear hb5 hst HB4
        go_wp2_with fail
        refine (HC.out _ HB5.out).mono ?_
        rintro e w6 ⟨rfl, hb6⟩
        have HB6 := hide (bl HB5.out hb6)
        have HSY := hide (same_yes tb tc a cap l w6 (by omega) (HST.out.below hb6) (HSA.out.below HB6.out))
        clear hb6 HB5
        go_wp2_with fail
        refine HSY.out.mono ?_
        rintro e w7 ⟨rfl, hb7⟩
        have hbz := bl HBZ.out (bl HB6.out hb7)
        clear hb7
        go_wp2
        go_ret
        exact ⟨rfl, hbz⟩

end Go.Proofs.Ytocelglgafmfnaa
