/-
  The document's Rename.
-/
import Derived.Test.YtpbiongoigbmpaaGreatRefActW
import Derived.Test.YtpbiongoigbmpaaGreatDskNameW
import Derived.Test.YtpbiongoigbmpaaGreatGrowF
namespace Go.Proofs.YtpbiongoigbmpaaGreat
open Go.RowKit
open Dsk (By Dk)

/-- 'append(l, x)', where x lies at g. -/
theorem nmd_app2 {w : World} {base : Nat} {v : Value} {l : Dsk.Row} (h : w.ownsRow base 79 2 v l.length (nmdV l)) {g : Nat} {n : ByteArray} {i : Nat} (h0 : w.cell? ⟨g, 0, none⟩ = some (.string n)) (h1 : w.cell? ⟨g, 1, none⟩ = some (.int .i64 (i : Int))) (hl : l.length ≤ 1000000000000) (hb : base ≤ w.heap.size) (ty : TypeId) :
    ∃ (ea : Option Addr) (N ec : Nat) (w' : World), (Builtin.append_ #[77, 77] ty #[v, .slice (some ⟨g, 0, none⟩) 1 1]).run Tryz.prog w = .ok (.slice ea N ec) w' ∧
      w'.ownsRow base 79 2 (.slice ea N ec) (l ++ [(n, i)]).length (nmdV (l ++ [(n, i)])) ∧ Below base w w' := by
  obtain ⟨ti, hi, hz, hs, hby⟩ := nmd_info
  obtain ⟨v', w', hr, ho, hg, _⟩ := app_own w base 77 ty 79 ti _ 2 24 unmds hi hz hs hby rfl (by decide) v l.length (nmdV l) h ⟨g, 0, none⟩ 1 1
    [.string n, .int .i64 (i : Int)] rfl (fun j u hj => by
      rw [Addr.add_lit, Nat.zero_add]
      match j, hj with
      | 0, hj => simp at hj; subst hj; exact h0
      | 1, hj => simp at hj; subst hj; exact h1) (fun u hu => by simp at hu; rcases hu with rfl | rfl <;> rfl) (by unfold maxLen; omega) (by omega) hb
  have ho : w'.ownsRow base 79 2 v' (l ++ [(n, i)]).length (nmdV (l ++ [(n, i)])) := by
    rw [nmdV_app, List.length_append]
    exact ho
  obtain ⟨ea, ec, rfl⟩ := own_slice ho
  refine ⟨ea, _, ec, w', hr, ho, hg.os, hg.tape, hg.output, hg.size, fun b hb' => hg.block b (by omega) (fun e => by have := (h.lt b e.symm).1; omega)⟩
theorem cells_pair (w : World) (x y : Value) (t : TypeId) : (w.alloc (.cells #[x, y] t)).cell? ⟨w.heap.size, 0, none⟩ = some x ∧ (w.alloc (.cells #[x, y] t)).cell? ⟨w.heap.size, 1, none⟩ = some y := by simp
set_option maxRecDepth 100000 in
set_option maxHeartbeats 600000 in
theorem rrename_dk {S : Nat → Prop} {w : World} {p : Nat} {D : Dk} {c : Nat} (H : IsRef S w p D c) (n m : ByteArray) (hm : m.size ≤ 9223372036854775807) (hc : c + 1 ≤ 10000000) :
    Calls Tryz.prog 35 #[.pointer (some ⟨p, 0, none⟩), .string n, .string m] w fun e w' => e = .returned (.int .i64 (Dsk.rename n m D).2) ∧ RGoes S w w' p (Dsk.rename n m D).1 (c + 1) := by
  obtain ⟨ok, bud, lim, hfl, fv, dv, fs, ds, H⟩ := H
  obtain ⟨da, dc, rfl⟩ := own_slice H.dirs
  have ok' := Dsk.rename_ok n m ok
  have bud' := Dsk.bud_rename n m bud ok
  have lim' := lim_rename n m lim
  have h1 := ok.left
  have h2 := lim.left
  have h3 := bud.ops
  have hdl := bud.dirs
  have hrl := bud.rows _ (Dsk.dir_mem ok.some)
  by_cases h0 : D.left = 0
  · have e : Dsk.rename n m D = (D, 11) := act_dead h0 _
    rw [e] at ok' bud' lim' ⊢
    have HH := hide H
    have HB := hide bud'
    clear H e bud bud'
    go_enter Tryz.func35, Tryz.ntmps35
    go_wp2_with fail
    refine (rbegin_dead HH.out h0).mono ?_
    rintro e w1 ⟨rfl, hw⟩
    rw [hw]
    go_wp2
    go_ret
    exact ⟨rfl, ((HH.out.wide w).goes (Only.refl _ _) ok' HB.out lim' hfl)⟩
  have e0 : Dsk.rename n m D = Dsk.renameB n m (Dsk.on D) := by unfold Dsk.rename Dsk.act; rw [if_neg h0]
  rw [e0] at ok' bud' lim' ⊢
  cases hf : Dsk.find (Dsk.dir D) n with
  | none =>
    have e : Dsk.renameB n m (Dsk.on D) = (Dsk.on D, 5) := by unfold Dsk.renameB; rw [show Dsk.find (Dsk.dir (Dsk.on D)) n = none from hf]
    rw [e] at ok' bud' lim' ⊢
    have HH := hide H
    have HB := hide bud'
    have HF := hide hf
    have HK := hide ok'
    clear H e bud bud' hf e0 ok'
    go_enter Tryz.func35, Tryz.ntmps35
    go_wp2_with fail
    refine (rbegin_on HH.out h0 h1 h2 (by omega)).mono ?_
    rintro e w1 ⟨rfl, hr1, ho1⟩
    have HR1 := hide hr1
    have HO1 := hide ho1
    clear hr1 ho1
    go_wp2_with fail
    refine (rnumber_at HR1.out HK.out (by show D.dirs.length ≤ _; omega) (by show (Dsk.dir D).length ≤ _; omega) n).mono ?_
    rintro e w2 ⟨rfl, hb2⟩
    rw [show Dsk.find (Dsk.dir (Dsk.on D)) n = none from HF.out]
    have hnn : numV none < 0 := by decide
    have HG := hide (((HR1.out.below hb2).wide w).goes (HO1.out.then_below hb2) HK.out HB.out lim' hfl)
    clear hb2
    go_wp2
    go_ret
    exact ⟨rfl, HG.out⟩
  | some i =>
    have hil := Dsk.find_lt ok hf
    have hfil := bud.files
    have hnm := rname_any m
    cases hnam : Dsk.isName m with
    | false =>
      have e : Dsk.renameB n m (Dsk.on D) = (Dsk.on D, 3) := by unfold Dsk.renameB; rw [show Dsk.find (Dsk.dir (Dsk.on D)) n = some i from hf]; simp only; rw [if_pos hnam]
      rw [e] at ok' bud' lim' ⊢
      have HH := hide H
      have HB := hide bud'
      have HF := hide hf
      have HK := hide ok'
      have HNM := hide hnm
      have HNA := hide hnam
      clear H e bud bud' hf e0 ok' hnm hnam
      go_enter Tryz.func35, Tryz.ntmps35
      go_wp2_with fail
      refine (rbegin_on HH.out h0 h1 h2 (by omega)).mono ?_
      rintro e w1 ⟨rfl, hr1, ho1⟩
      have HR1 := hide hr1
      have HO1 := hide ho1
      clear hr1 ho1
      go_wp2_with fail
      refine (rnumber_at HR1.out HK.out (by show D.dirs.length ≤ _; omega) (by show (Dsk.dir D).length ≤ _; omega) n).mono ?_
      rintro e w2 ⟨rfl, hb2⟩
      rw [show Dsk.find (Dsk.dir (Dsk.on D)) n = some i from HF.out, num_some]
      have HR2 := hide (HR1.out.below hb2)
      have HO2 := hide (HO1.out.then_below hb2)
      clear hb2
      go_wp2_with fail
      refine (HNM.out w2 hm).mono ?_
      rintro e w3 ⟨rfl, hb3⟩
      rw [HNA.out]
      have HG := hide (((HR2.out.below hb3).wide w).goes (HO2.out.then_below hb3) HK.out HB.out lim' hfl)
      clear hb3
      go_wp2
      go_ret
      exact ⟨rfl, HG.out⟩
    | true =>
      have e : Dsk.renameB n m (Dsk.on D) = ({ Dsk.on D with dirs := (Dsk.on D).dirs ++ [Dsk.without (Dsk.without (Dsk.dir (Dsk.on D)) n) m ++ [(m, i)]] }, 0) := by unfold Dsk.renameB; rw [show Dsk.find (Dsk.dir (Dsk.on D)) n = some i from hf]; simp only; rw [if_neg (by rw [hnam]; simp)]
      rw [e] at ok' bud' lim' ⊢
      have HH := hide H
      have HB := hide bud'
      have HF := hide hf
      have HK := hide (Dsk.on_ok ok)
      have HK' := hide ok'
      have HNM := hide hnm
      have HNA := hide hnam
      clear H e bud bud' hf e0 ok' hnm hnam
      go_enter Tryz.func35, Tryz.ntmps35
      go_wp2_with fail
      refine (rbegin_on HH.out h0 h1 h2 (by omega)).mono ?_
      rintro e w1 ⟨rfl, hr1, ho1⟩
      have HR1 := hide hr1
      have HO1 := hide ho1
      clear hr1 ho1
      go_wp2_with fail
      refine (rnumber_at HR1.out HK.out (by show D.dirs.length ≤ _; omega) (by show (Dsk.dir D).length ≤ _; omega) n).mono ?_
      rintro e w2 ⟨rfl, hb2⟩
      rw [show Dsk.find (Dsk.dir (Dsk.on D)) n = some i from HF.out, num_some]
      have HR2 := hide (HR1.out.below hb2)
      have HO2 := hide (HO1.out.then_below hb2)
      clear hb2
      go_wp2_with fail
      refine (HNM.out w2 hm).mono ?_
      rintro e w3 ⟨rfl, hb3⟩
      rw [HNA.out]
      have HR3 := hide (HR2.out.below hb3)
      have HO3 := hide (HO2.out.then_below hb3)
      clear hb3
      go_wp2_with fail
      refine wp_region_growF (fun b => b = p) 14 _ [([0, 1, 2, 3, 4, 5, 7, 9, 11, 12, 13], 6), ([], 8), ([], 10)] [([], 15), ([], 16), ([], 17)] [18, 19] [20] rfl (by kernel_rfl) (by kernel_rfl) (by kernel_rfl) (by kernel_rfl) ?_
      intro w4 hb4
      simp only [stagesOfK, getLK, pickLK]
      have HR4 := hide (HR3.out.below hb4)
      have HO4 := hide (HO3.out.then_below hb4)
      obtain ⟨_, _, k2, _, _, _, _, hpl⟩ := HR4.out.look
      have inh : Nonempty (GrK (fun b => b = p) w4) := GrK.some _ w4
      have q2 := fun x : GrK (fun b => b = p) w4 => x.cell (a := ⟨p, 2, none⟩) rfl k2
      refine wpF_stage ?_
      repeat (go_big_quiet_step (fail))
      refine wpQuiet_nil ?_
      clear q2 inh hb4
      refine ⟨?_, ?_⟩
      · go_wp2_with fail
        refine (rdir_at HR4.out HK.out (by show D.dirs.length ≤ _; omega)).mono ?_
        rintro e w15 ⟨v, rfl, hv, _, hb⟩
        have HR15 := hide (HR4.out.below hb)
        have HO15 := hide (HO4.out.then_below hb)
        have HV15 := hide (hv.keep (T := S) (w' := w15) (fun _ x => x) (fun g e => hb.block g (HR4.out.lt g (hv.2 g e)))).1
        obtain ⟨va15, vc15, rfl⟩ := own_slice hv.1
        go_wp2
        refine OnToF.mk (Kept.of_below hb (fun b e => by subst e; exact HR4.out.lt b HR4.out.sp)) (Sub.refl _) ?_
        clear hb hv
        refine wpF_stage (wpQuiet_nil ⟨?_, ?_⟩)
        · go_wp2_with fail
          refine (rwithout_at HV15.out (by show (Dsk.dir D).length ≤ _; omega) n).mono ?_
          rintro e w16 ⟨v', rfl, hv', hb⟩
          have HR16 := hide (HR15.out.below hb)
          have HO16 := hide (HO15.out.then_below hb)
          have HV16 := hide hv'
          obtain ⟨va16, vc16, rfl⟩ := own_slice hv'
          go_wp2
          refine OnToF.mk (Kept.of_below hb (fun b e => by subst e; exact HR15.out.lt b HR15.out.sp)) (Sub.refl _) ?_
          have hz16 := HO15.out.size
          have hz9 := hb.size
          clear hb hv'
          refine wpF_stage (wpQuiet_nil ⟨?_, ?_⟩)
          · go_wp2_with fail
            refine (rwithout_at HV16.out (by exact Nat.le_trans (List.length_filter_le _ _) (by show (Dsk.dir D).length ≤ _; omega)) m).mono ?_
            rintro e w17 ⟨v', rfl, hv', hb⟩
            have HR17 := hide (HR16.out.below hb)
            have HO17 := hide (HO16.out.then_below hb)
            have HV17 := hide hv'
            obtain ⟨va17, vc17, rfl⟩ := own_slice hv'
            go_wp2
            refine OnToF.mk (Kept.of_below hb (fun b e => by subst e; exact HR16.out.lt b HR16.out.sp)) (Sub.refl _) ?_
            have hz17 := HO16.out.size
            have hz9 := hb.size
            clear hb hv'
            refine wpF_last ?_
            refine wpG_stageK (wpQuiet_nil ?_)
            have b18 : Below w17.heap.size w17 (w17.alloc (.cells #[.string m, .int .i64 (i : Int)] 79)) := (Below.refl _ w17).alloc (Nat.le_refl _) _
            obtain ⟨g0, g1⟩ := cells_pair w17 (.string m) (.int .i64 (i : Int)) 79
            have HR18 := hide (HR17.out.below b18)
            have HO18 := hide (HO17.out.then_below b18)
            have HV18 := hide (HV17.out.alloc (.cells #[.string m, .int .i64 (i : Int)] 79))
            go_wp2
            refine OnToK.mk (Kept.of_below b18 (fun b e => by subst e; exact HR17.out.lt b HR17.out.sp)) (Sub.refl _) ?_
            have hz8 : w17.heap.size ≤ (w17.alloc (.cells #[.string m, .int .i64 (i : Int)] 79)).heap.size := by simp
            have hgN : w17.heap.size < (w17.alloc (.cells #[.string m, .int .i64 (i : Int)] 79)).heap.size := by simp
            obtain ⟨w18, hw18⟩ : ∃ W, w17.alloc (.cells #[.string m, .int .i64 (i : Int)] 79) = W := ⟨_, rfl⟩
            obtain ⟨gN, hgE⟩ : ∃ gN, w17.heap.size = gN := ⟨_, rfl⟩
            rw [hw18] at hz8 g0 g1 HR18 HO18 hgN HV18 ⊢
            rw [hgE] at g0 g1 hgN ⊢
            clear b18 hw18 hgE
            have hbz : w16.heap.size ≤ w18.heap.size := by first | exact Nat.le_refl _ | (have h9 := HV18.out; omega)
            have hwz : w.heap.size ≤ w16.heap.size := by omega
            refine wpG_stageK (wpQuiet_nil ?_)
            obtain ⟨ea, N, ec, wA, hr, hv, hb⟩ := nmd_app2 HV18.out g0 g1 (by exact Nat.le_trans (List.length_filter_le _ _) (Nat.le_trans (List.length_filter_le _ _) (by show (Dsk.dir D).length ≤ _; omega))) hbz 77
            have hwS : ∀ b, S b → b < w16.heap.size := fun b hx => by have := HH.out.lt b hx; omega
            have HRA := hide (HR18.out.keep hb.size (fun b hx => hb.block b (hwS b hx)))
            have HOA : Hid (Only S w wA) := hide ⟨hb.os.trans HO18.out.os, hb.tape.trans HO18.out.tape, hb.output.trans HO18.out.output, Nat.le_trans HO18.out.size hb.size, fun b h1 h2 => (hb.block b (by omega)).trans (HO18.out.block b h1 h2)⟩
            have HVA := hide hv
            have HRR := hide hr
            have hpw : p < w16.heap.size := hwS p HR18.out.sp
            clear hr hv
            go_wp2_with (at_builtin; refine wpList_app_run rfl _ _ _ _ rfl rfl rfl HRR.out ?_)
            refine OnToK.mk (Kept.of_below hb (fun b e => by subst e; exact hpw)) (Sub.refl _) ?_
            have hpA := Nat.lt_of_lt_of_le hpw (Nat.le_trans hbz hb.size)
            have hbA := Nat.le_trans hbz hb.size
            clear hb
            refine wpG_stageK (wpQuiet_nil ?_)
            go_wp2
            refine OnToK.mk (Kept.of_below ((Below.refl _ wA).alloc (Nat.le_refl _) _) (fun b e => by subst e; exact hpA)) (Sub.refl _) ?_
            obtain ⟨ea7, N7, ec7, w7, hr7, k7, f7, kp7, h7, o7⟩ := dir_add HRA.out HOA.out HH.out.lt HVA.out (by omega) (by show D.dirs.length ≤ _; omega) 58
            have HR7 := hide hr7
            have HG := hide (h7.goes o7 HK'.out HB.out lim' hfl)
            clear hr7 h7 o7
            refine wpG_stageK (wpQuiet_nil ?_)
            go_wp2_with (at_builtin; refine wpList_app_run rfl _ _ _ _ rfl rfl rfl HR7.out ?_)
            refine OnToK.mk kp7 (Sub.refl _) ?_
            have inh : Nonempty (GrK (fun b => b = p) w7) := GrK.some _ w7
            refine wpG_lastK ?_
            repeat (go_big_quiet_step (fail))
            refine wpQuiet_nil ?_
            clear inh kp7
            go_wp2
            go_ret
            exact ⟨rfl, HG.out⟩
          · have b19 : Below w16.heap.size w16 (w16.alloc (.cells #[.string m, .int .i64 (i : Int)] 79)) := (Below.refl _ w16).alloc (Nat.le_refl _) _
            obtain ⟨g0, g1⟩ := cells_pair w16 (.string m) (.int .i64 (i : Int)) 79
            have HR19 := hide (HR16.out.below b19)
            have HO19 := hide (HO16.out.then_below b19)
            have HV19 := hide (HV16.out.alloc (.cells #[.string m, .int .i64 (i : Int)] 79))
            go_wp2
            refine OnToK.mk (Kept.of_below b19 (fun b e => by subst e; exact HR16.out.lt b HR16.out.sp)) (Sub.refl _) ?_
            have hz8 : w16.heap.size ≤ (w16.alloc (.cells #[.string m, .int .i64 (i : Int)] 79)).heap.size := by simp
            have hgN : w16.heap.size < (w16.alloc (.cells #[.string m, .int .i64 (i : Int)] 79)).heap.size := by simp
            obtain ⟨w19, hw19⟩ : ∃ W, w16.alloc (.cells #[.string m, .int .i64 (i : Int)] 79) = W := ⟨_, rfl⟩
            obtain ⟨gN, hgE⟩ : ∃ gN, w16.heap.size = gN := ⟨_, rfl⟩
            rw [hw19] at hz8 g0 g1 HR19 HO19 hgN HV19 ⊢
            rw [hgE] at g0 g1 hgN ⊢
            clear b19 hw19 hgE
            refine wpG_stageK (wpQuiet_nil ?_)
            go_wp2_with fail
            refine (rwithout_at HV19.out (by exact Nat.le_trans (List.length_filter_le _ _) (by show (Dsk.dir D).length ≤ _; omega)) m).mono ?_
            rintro e w20 ⟨v', rfl, hv', hb⟩
            have HR20 := hide (HR19.out.below hb)
            have HO20 := hide (HO19.out.then_below hb)
            have HV20 := hide hv'
            obtain ⟨va20, vc20, rfl⟩ := own_slice hv'
            have g0 := (hb.cell (p := ⟨gN, 0, none⟩) hgN).trans g0
            have g1 := (hb.cell (p := ⟨gN, 1, none⟩) hgN).trans g1
            have hgN := Nat.lt_of_lt_of_le hgN hb.size
            go_wp2
            refine OnToK.mk (Kept.of_below hb (fun b e => by subst e; exact HR19.out.lt b HR19.out.sp)) (Sub.refl _) ?_
            have hz20 := HO19.out.size
            have hz9 := hb.size
            clear hb hv'
            have hbz : w19.heap.size ≤ w20.heap.size := by first | exact Nat.le_refl _ | (have h9 := HV20.out; omega)
            have hwz : w.heap.size ≤ w19.heap.size := by omega
            refine wpG_stageK (wpQuiet_nil ?_)
            obtain ⟨ea, N, ec, wA, hr, hv, hb⟩ := nmd_app2 HV20.out g0 g1 (by exact Nat.le_trans (List.length_filter_le _ _) (Nat.le_trans (List.length_filter_le _ _) (by show (Dsk.dir D).length ≤ _; omega))) hbz 77
            have hwS : ∀ b, S b → b < w19.heap.size := fun b hx => by have := HH.out.lt b hx; omega
            have HRA := hide (HR20.out.keep hb.size (fun b hx => hb.block b (hwS b hx)))
            have HOA : Hid (Only S w wA) := hide ⟨hb.os.trans HO20.out.os, hb.tape.trans HO20.out.tape, hb.output.trans HO20.out.output, Nat.le_trans HO20.out.size hb.size, fun b h1 h2 => (hb.block b (by omega)).trans (HO20.out.block b h1 h2)⟩
            have HVA := hide hv
            have HRR := hide hr
            have hpw : p < w19.heap.size := hwS p HR20.out.sp
            clear hr hv
            go_wp2_with (at_builtin; refine wpList_app_run rfl _ _ _ _ rfl rfl rfl HRR.out ?_)
            refine OnToK.mk (Kept.of_below hb (fun b e => by subst e; exact hpw)) (Sub.refl _) ?_
            have hpA := Nat.lt_of_lt_of_le hpw (Nat.le_trans hbz hb.size)
            have hbA := Nat.le_trans hbz hb.size
            clear hb
            refine wpG_stageK (wpQuiet_nil ?_)
            go_wp2
            refine OnToK.mk (Kept.of_below ((Below.refl _ wA).alloc (Nat.le_refl _) _) (fun b e => by subst e; exact hpA)) (Sub.refl _) ?_
            obtain ⟨ea7, N7, ec7, w7, hr7, k7, f7, kp7, h7, o7⟩ := dir_add HRA.out HOA.out HH.out.lt HVA.out (by omega) (by show D.dirs.length ≤ _; omega) 58
            have HR7 := hide hr7
            have HG := hide (h7.goes o7 HK'.out HB.out lim' hfl)
            clear hr7 h7 o7
            refine wpG_stageK (wpQuiet_nil ?_)
            go_wp2_with (at_builtin; refine wpList_app_run rfl _ _ _ _ rfl rfl rfl HR7.out ?_)
            refine OnToK.mk kp7 (Sub.refl _) ?_
            have inh : Nonempty (GrK (fun b => b = p) w7) := GrK.some _ w7
            refine wpG_lastK ?_
            repeat (go_big_quiet_step (fail))
            refine wpQuiet_nil ?_
            clear inh kp7
            go_wp2
            go_ret
            exact ⟨rfl, HG.out⟩
        · have b21 : Below w15.heap.size w15 (w15.alloc (.cells #[.string m, .int .i64 (i : Int)] 79)) := (Below.refl _ w15).alloc (Nat.le_refl _) _
          obtain ⟨g0, g1⟩ := cells_pair w15 (.string m) (.int .i64 (i : Int)) 79
          have HR21 := hide (HR15.out.below b21)
          have HO21 := hide (HO15.out.then_below b21)
          have HV21 := hide (HV15.out.alloc (.cells #[.string m, .int .i64 (i : Int)] 79))
          go_wp2
          refine OnToK.mk (Kept.of_below b21 (fun b e => by subst e; exact HR15.out.lt b HR15.out.sp)) (Sub.refl _) ?_
          have hz8 : w15.heap.size ≤ (w15.alloc (.cells #[.string m, .int .i64 (i : Int)] 79)).heap.size := by simp
          have hgN : w15.heap.size < (w15.alloc (.cells #[.string m, .int .i64 (i : Int)] 79)).heap.size := by simp
          obtain ⟨w21, hw21⟩ : ∃ W, w15.alloc (.cells #[.string m, .int .i64 (i : Int)] 79) = W := ⟨_, rfl⟩
          obtain ⟨gN, hgE⟩ : ∃ gN, w15.heap.size = gN := ⟨_, rfl⟩
          rw [hw21] at hz8 g0 g1 HR21 HO21 hgN HV21 ⊢
          rw [hgE] at g0 g1 hgN ⊢
          clear b21 hw21 hgE
          refine wpG_stageK (wpQuiet_nil ?_)
          go_wp2_with fail
          refine (rwithout_at HV21.out (by show (Dsk.dir D).length ≤ _; omega) n).mono ?_
          rintro e w22 ⟨v', rfl, hv', hb⟩
          have HR22 := hide (HR21.out.below hb)
          have HO22 := hide (HO21.out.then_below hb)
          have HV22 := hide hv'
          obtain ⟨va22, vc22, rfl⟩ := own_slice hv'
          have g0 := (hb.cell (p := ⟨gN, 0, none⟩) hgN).trans g0
          have g1 := (hb.cell (p := ⟨gN, 1, none⟩) hgN).trans g1
          have hgN := Nat.lt_of_lt_of_le hgN hb.size
          go_wp2
          refine OnToK.mk (Kept.of_below hb (fun b e => by subst e; exact HR21.out.lt b HR21.out.sp)) (Sub.refl _) ?_
          have hz22 := HO21.out.size
          have hz9 := hb.size
          clear hb hv'
          refine wpG_stageK (wpQuiet_nil ?_)
          go_wp2_with fail
          refine (rwithout_at HV22.out (by exact Nat.le_trans (List.length_filter_le _ _) (by show (Dsk.dir D).length ≤ _; omega)) m).mono ?_
          rintro e w23 ⟨v', rfl, hv', hb⟩
          have HR23 := hide (HR22.out.below hb)
          have HO23 := hide (HO22.out.then_below hb)
          have HV23 := hide hv'
          obtain ⟨va23, vc23, rfl⟩ := own_slice hv'
          have g0 := (hb.cell (p := ⟨gN, 0, none⟩) hgN).trans g0
          have g1 := (hb.cell (p := ⟨gN, 1, none⟩) hgN).trans g1
          have hgN := Nat.lt_of_lt_of_le hgN hb.size
          go_wp2
          refine OnToK.mk (Kept.of_below hb (fun b e => by subst e; exact HR22.out.lt b HR22.out.sp)) (Sub.refl _) ?_
          have hz23 := HO22.out.size
          have hz9 := hb.size
          clear hb hv'
          have hbz : w22.heap.size ≤ w23.heap.size := by first | exact Nat.le_refl _ | (have h9 := HV23.out; omega)
          have hwz : w.heap.size ≤ w22.heap.size := by omega
          refine wpG_stageK (wpQuiet_nil ?_)
          obtain ⟨ea, N, ec, wA, hr, hv, hb⟩ := nmd_app2 HV23.out g0 g1 (by exact Nat.le_trans (List.length_filter_le _ _) (Nat.le_trans (List.length_filter_le _ _) (by show (Dsk.dir D).length ≤ _; omega))) hbz 77
          have hwS : ∀ b, S b → b < w22.heap.size := fun b hx => by have := HH.out.lt b hx; omega
          have HRA := hide (HR23.out.keep hb.size (fun b hx => hb.block b (hwS b hx)))
          have HOA : Hid (Only S w wA) := hide ⟨hb.os.trans HO23.out.os, hb.tape.trans HO23.out.tape, hb.output.trans HO23.out.output, Nat.le_trans HO23.out.size hb.size, fun b h1 h2 => (hb.block b (by omega)).trans (HO23.out.block b h1 h2)⟩
          have HVA := hide hv
          have HRR := hide hr
          have hpw : p < w22.heap.size := hwS p HR23.out.sp
          clear hr hv
          go_wp2_with (at_builtin; refine wpList_app_run rfl _ _ _ _ rfl rfl rfl HRR.out ?_)
          refine OnToK.mk (Kept.of_below hb (fun b e => by subst e; exact hpw)) (Sub.refl _) ?_
          have hpA := Nat.lt_of_lt_of_le hpw (Nat.le_trans hbz hb.size)
          have hbA := Nat.le_trans hbz hb.size
          clear hb
          refine wpG_stageK (wpQuiet_nil ?_)
          go_wp2
          refine OnToK.mk (Kept.of_below ((Below.refl _ wA).alloc (Nat.le_refl _) _) (fun b e => by subst e; exact hpA)) (Sub.refl _) ?_
          obtain ⟨ea7, N7, ec7, w7, hr7, k7, f7, kp7, h7, o7⟩ := dir_add HRA.out HOA.out HH.out.lt HVA.out (by omega) (by show D.dirs.length ≤ _; omega) 58
          have HR7 := hide hr7
          have HG := hide (h7.goes o7 HK'.out HB.out lim' hfl)
          clear hr7 h7 o7
          refine wpG_stageK (wpQuiet_nil ?_)
          go_wp2_with (at_builtin; refine wpList_app_run rfl _ _ _ _ rfl rfl rfl HR7.out ?_)
          refine OnToK.mk kp7 (Sub.refl _) ?_
          have inh : Nonempty (GrK (fun b => b = p) w7) := GrK.some _ w7
          refine wpG_lastK ?_
          repeat (go_big_quiet_step (fail))
          refine wpQuiet_nil ?_
          clear inh kp7
          go_wp2
          go_ret
          exact ⟨rfl, HG.out⟩
      · have b11 : Below w4.heap.size w4 (w4.alloc (.cells #[.string m, .int .i64 (i : Int)] 79)) := (Below.refl _ w4).alloc (Nat.le_refl _) _
        obtain ⟨g0, g1⟩ := cells_pair w4 (.string m) (.int .i64 (i : Int)) 79
        have HR11 := hide (HR4.out.below b11)
        have HO11 := hide (HO4.out.then_below b11)
        go_wp2
        refine OnToK.mk (Kept.of_below b11 (fun b e => by subst e; exact HR4.out.lt b HR4.out.sp)) (Sub.refl _) ?_
        have hz8 : w4.heap.size ≤ (w4.alloc (.cells #[.string m, .int .i64 (i : Int)] 79)).heap.size := by simp
        have hgN : w4.heap.size < (w4.alloc (.cells #[.string m, .int .i64 (i : Int)] 79)).heap.size := by simp
        obtain ⟨w11, hw11⟩ : ∃ W, w4.alloc (.cells #[.string m, .int .i64 (i : Int)] 79) = W := ⟨_, rfl⟩
        obtain ⟨gN, hgE⟩ : ∃ gN, w4.heap.size = gN := ⟨_, rfl⟩
        rw [hw11] at hz8 g0 g1 HR11 HO11 hgN ⊢
        rw [hgE] at g0 g1 hgN ⊢
        clear b11 hw11 hgE
        refine wpG_stageK (wpQuiet_nil ?_)
        go_wp2_with fail
        refine (rdir_at HR11.out HK.out (by show D.dirs.length ≤ _; omega)).mono ?_
        rintro e w12 ⟨v, rfl, hv, _, hb⟩
        have HR12 := hide (HR11.out.below hb)
        have HO12 := hide (HO11.out.then_below hb)
        have HV12 := hide (hv.keep (T := S) (w' := w12) (fun _ x => x) (fun g e => hb.block g (HR11.out.lt g (hv.2 g e)))).1
        obtain ⟨va12, vc12, rfl⟩ := own_slice hv.1
        have g0 := (hb.cell (p := ⟨gN, 0, none⟩) hgN).trans g0
        have g1 := (hb.cell (p := ⟨gN, 1, none⟩) hgN).trans g1
        have hgN := Nat.lt_of_lt_of_le hgN hb.size
        go_wp2
        refine OnToK.mk (Kept.of_below hb (fun b e => by subst e; exact HR11.out.lt b HR11.out.sp)) (Sub.refl _) ?_
        clear hb hv
        refine wpG_stageK (wpQuiet_nil ?_)
        go_wp2_with fail
        refine (rwithout_at HV12.out (by show (Dsk.dir D).length ≤ _; omega) n).mono ?_
        rintro e w13 ⟨v', rfl, hv', hb⟩
        have HR13 := hide (HR12.out.below hb)
        have HO13 := hide (HO12.out.then_below hb)
        have HV13 := hide hv'
        obtain ⟨va13, vc13, rfl⟩ := own_slice hv'
        have g0 := (hb.cell (p := ⟨gN, 0, none⟩) hgN).trans g0
        have g1 := (hb.cell (p := ⟨gN, 1, none⟩) hgN).trans g1
        have hgN := Nat.lt_of_lt_of_le hgN hb.size
        go_wp2
        refine OnToK.mk (Kept.of_below hb (fun b e => by subst e; exact HR12.out.lt b HR12.out.sp)) (Sub.refl _) ?_
        have hz13 := HO12.out.size
        have hz9 := hb.size
        clear hb hv'
        refine wpG_stageK (wpQuiet_nil ?_)
        go_wp2_with fail
        refine (rwithout_at HV13.out (by exact Nat.le_trans (List.length_filter_le _ _) (by show (Dsk.dir D).length ≤ _; omega)) m).mono ?_
        rintro e w14 ⟨v', rfl, hv', hb⟩
        have HR14 := hide (HR13.out.below hb)
        have HO14 := hide (HO13.out.then_below hb)
        have HV14 := hide hv'
        obtain ⟨va14, vc14, rfl⟩ := own_slice hv'
        have g0 := (hb.cell (p := ⟨gN, 0, none⟩) hgN).trans g0
        have g1 := (hb.cell (p := ⟨gN, 1, none⟩) hgN).trans g1
        have hgN := Nat.lt_of_lt_of_le hgN hb.size
        go_wp2
        refine OnToK.mk (Kept.of_below hb (fun b e => by subst e; exact HR13.out.lt b HR13.out.sp)) (Sub.refl _) ?_
        have hz14 := HO13.out.size
        have hz9 := hb.size
        clear hb hv'
        have hbz : w13.heap.size ≤ w14.heap.size := by first | exact Nat.le_refl _ | (have h9 := HV14.out; omega)
        have hwz : w.heap.size ≤ w13.heap.size := by omega
        refine wpG_stageK (wpQuiet_nil ?_)
        obtain ⟨ea, N, ec, wA, hr, hv, hb⟩ := nmd_app2 HV14.out g0 g1 (by exact Nat.le_trans (List.length_filter_le _ _) (Nat.le_trans (List.length_filter_le _ _) (by show (Dsk.dir D).length ≤ _; omega))) hbz 77
        have hwS : ∀ b, S b → b < w13.heap.size := fun b hx => by have := HH.out.lt b hx; omega
        have HRA := hide (HR14.out.keep hb.size (fun b hx => hb.block b (hwS b hx)))
        have HOA : Hid (Only S w wA) := hide ⟨hb.os.trans HO14.out.os, hb.tape.trans HO14.out.tape, hb.output.trans HO14.out.output, Nat.le_trans HO14.out.size hb.size, fun b h1 h2 => (hb.block b (by omega)).trans (HO14.out.block b h1 h2)⟩
        have HVA := hide hv
        have HRR := hide hr
        have hpw : p < w13.heap.size := hwS p HR14.out.sp
        clear hr hv
        go_wp2_with (at_builtin; refine wpList_app_run rfl _ _ _ _ rfl rfl rfl HRR.out ?_)
        refine OnToK.mk (Kept.of_below hb (fun b e => by subst e; exact hpw)) (Sub.refl _) ?_
        have hpA := Nat.lt_of_lt_of_le hpw (Nat.le_trans hbz hb.size)
        have hbA := Nat.le_trans hbz hb.size
        clear hb
        refine wpG_stageK (wpQuiet_nil ?_)
        go_wp2
        refine OnToK.mk (Kept.of_below ((Below.refl _ wA).alloc (Nat.le_refl _) _) (fun b e => by subst e; exact hpA)) (Sub.refl _) ?_
        obtain ⟨ea7, N7, ec7, w7, hr7, k7, f7, kp7, h7, o7⟩ := dir_add HRA.out HOA.out HH.out.lt HVA.out (by omega) (by show D.dirs.length ≤ _; omega) 58
        have HR7 := hide hr7
        have HG := hide (h7.goes o7 HK'.out HB.out lim' hfl)
        clear hr7 h7 o7
        refine wpG_stageK (wpQuiet_nil ?_)
        go_wp2_with (at_builtin; refine wpList_app_run rfl _ _ _ _ rfl rfl rfl HR7.out ?_)
        refine OnToK.mk kp7 (Sub.refl _) ?_
        have inh : Nonempty (GrK (fun b => b = p) w7) := GrK.some _ w7
        refine wpG_lastK ?_
        repeat (go_big_quiet_step (fail))
        refine wpQuiet_nil ?_
        clear inh kp7
        go_wp2
        go_ret
        exact ⟨rfl, HG.out⟩

end Go.Proofs.YtpbiongoigbmpaaGreat
