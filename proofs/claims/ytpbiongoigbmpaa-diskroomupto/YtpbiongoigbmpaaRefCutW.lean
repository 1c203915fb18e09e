/-
  The document's Cut, Sync, Append.
-/
import Derived.Test.YtpbiongoigbmpaaRefCreW
namespace Go.Proofs.Ytpbiongoigbmpaa
open Go.RowKit
open Dsk (By Dk)

theorem strsV_snoc (l : List By) (x : By) : strsV (l ++ [x]) = strsV l ++ [.string (Num.bs x)] := by simp [strsV]
/-- 'd.Files[n] = append(d.Files[n], x)', behind w. -/
theorem RefAt.appRow {S : Nat → Prop} {w w6 : World} {p : Nat} {D : Dk} {dv : Value} {fs ds : List Value} {gf cf L : Nat} (hL : L = D.files.length) (H : RefAt S w6 p D (.slice (some ⟨gf, 0, none⟩) L cf) dv fs ds) (ho : Only S w w6) (hSw : ∀ b, S b → b < w.heap.size) {n : Nat} (hn : n < D.files.length) {v : Value} (hold : fs[n]? = some v) (x : By) {s : ByteArray} (hs : Num.bs x = s) (hh : (Dsk.hist D n).length ≤ 1000000000000) (ty : TypeId) :
    ∃ (ea : Option Addr) (N ec : Nat) (w' : World), (Builtin.append_ #[91, 91] ty #[v, .slice (some ⟨w6.heap.size, 0, none⟩) 1 1]).run Try.prog (w6.alloc (.cells #[.string s] 9)) = .ok (.slice ea N ec) w' ∧
      w'.cell? ⟨p, 1, none⟩ = some (.slice (some ⟨gf, 0, none⟩) L cf) ∧ w'.cell? ⟨gf, n, none⟩ = some v ∧ (∀ j, w'.frozen? ⟨gf, j, none⟩ = false) ∧ Kept (fun b => b = p ∨ b = gf) (w6.alloc (.cells #[.string s] 9)) w' ∧
      RefAt (more S w (w'.setCell ⟨gf, n, none⟩ (.slice ea N ec))) (w'.setCell ⟨gf, n, none⟩ (.slice ea N ec)) p { D with files := D.files.set n (Dsk.hist D n ++ [x]) } (.slice (some ⟨gf, 0, none⟩) L cf) dv (fs.set n (.slice ea N ec)) ds ∧ Only S w (w'.setCell ⟨gf, n, none⟩ (.slice ea N ec)) := by
  subst hs hL
  obtain ⟨v0, e0, hvS⟩ := H.hist hn
  rw [hold] at e0
  cases e0
  obtain ⟨ti, hi, hz, hsz, hby⟩ := str_info
  obtain ⟨v', w', hr, hrow, hg, hob⟩ := app_own (w6.alloc (.cells #[.string (Num.bs x)] 9)) 0 91 ty 9 ti _ 1 16 ustrs hi hz hsz hby rfl (by decide) v (Dsk.hist D n).length (strsV (Dsk.hist D n)) (hvS.1.alloc _) ⟨w6.heap.size, 0, none⟩ 1 1
    [.string (Num.bs x)] rfl (one_new _ _ _) (fun u hu => by simp at hu; subst hu; rfl) (by unfold maxLen; omega) (by omega) (Nat.zero_le _)
  have hrow : w'.ownsRow 0 9 1 v' (Dsk.hist D n ++ [x]).length (strsV (Dsk.hist D n ++ [x])) := by
    rw [strsV_snoc, List.length_append]
    exact hrow
  obtain ⟨ea, ec, rfl⟩ := own_slice hrow
  obtain ⟨N, hN⟩ : ∃ N, (Dsk.hist D n ++ [x]).length = N := ⟨_, rfl⟩
  have hwsz : w6.heap.size + 1 ≤ w'.heap.size := by have := hg.size; simpa using this
  have keep1 : ∀ b, b < w6.heap.size → v.ownBlock ≠ some b → w'.heap[b]? = w6.heap[b]? := fun b hb hx => by
    rw [hg.block b (by simp; omega) (fun e => hx e.symm), Below.heap_alloc _ _ b hb]
  have hnewb : ∀ g, (Value.slice ea (Dsk.hist D n ++ [x]).length ec).ownBlock = some g → v.ownBlock = some g ∨ w6.heap.size < g := fun g e => by
    rcases hob with y | y
    · rw [y] at e; exact .inl e
    · rw [y] at e; cases e; exact .inr (by simp)
  have hT : ∀ b, more S w w' b → b < w'.heap.size := fun b hb => by
    rcases hb with hb | hb
    · have := hSw b hb; have := ho.size; omega
    · exact hb.2
  have hst : StrAt (more S w w') w' (.slice ea (Dsk.hist D n ++ [x]).length ec) (Dsk.hist D n ++ [x]) := ⟨hrow, fun g e => by
    rcases hnewb g e with y | y
    · exact .inl (hvS.2 g y)
    · have := ho.size; exact .inr ⟨by omega, own_lt hrow e⟩⟩
  have hset := H.setRow (T := more S w w') hn hold (fun b hb hx => keep1 b (H.lt b hb) hx) (fun b hb => .inl hb) hT hst (by
    rcases hob with y | y
    · exact .inl y
    · exact .inr (fun g e hS => by rw [y] at e; cases e; have := H.lt _ hS; simp at this; omega))
  have hgf := own_kind H.files (g := gf) rfl
  obtain ⟨cu, hgf⟩ := hgf
  have vne : ∀ {b : Nat} {c : Array Value} {u : TypeId}, w6.heap[b]? = some (.cells c u (0, 0)) → u ≠ 9 → v.ownBlock ≠ some b := fun hc hu e => by
    obtain ⟨c', hc'⟩ := own_kind hvS.1 e
    exact kind_ne hc hc' hu rfl
  have kp := keep1 p (H.lt p H.sp) (vne H.blk (by decide))
  have kg := keep1 gf (H.lt gf (H.sf gf rfl)) (vne hgf (by decide))
  have hcell : w'.cell? ⟨gf, n, none⟩ = some v := by
    rw [World.cell?_of_block (w := w6) (a := ⟨gf, n, none⟩) kg]
    have := H.files.cells (g := gf) rfl n v hold
    rw [Addr.add_lit, Nat.zero_add] at this
    exact this
  have hz2 : (w'.setCell ⟨gf, n, none⟩ (.slice ea (Dsk.hist D n ++ [x]).length ec)).heap.size = w'.heap.size := by simp [World.setCell]
  have o1 : Only S w6 w' := ⟨hg.os, hg.tape, hg.output, by omega, fun b hb hx => keep1 b hb (fun e => hx (hvS.2 b e))⟩
  rw [hN] at hr hset hz2
  refine ⟨ea, N, ec, w', hr, cell_of (kp.trans H.blk) 1 rfl, hcell, frozen_of (kg.trans hgf), ⟨hg.os, hg.tape, hg.output, hg.size, fun b e => ?_⟩, hset.mono (fun b hb => ?_) (fun b hb => ?_), (ho.trans' o1).setCell (p := ⟨gf, n, none⟩) (H.sf gf rfl) _⟩
  · rcases e with rfl | rfl
    · rw [Below.heap_alloc _ _ b (H.lt b H.sp)]; exact kp
    · rw [Below.heap_alloc _ _ b (H.lt b (H.sf b rfl))]; exact kg
  · rcases hb with hb | hb
    · exact .inl hb
    · exact .inr (by rw [hz2]; exact hb)
  · rw [hz2]
    exact hT b (by rcases hb with hb | hb; exact .inl hb; exact .inr (by rw [hz2] at hb; exact hb))

set_option maxRecDepth 100000 in
set_option maxHeartbeats 600000 in
theorem rcut_dk {S : Nat → Prop} {w : World} {p : Nat} {D : Dk} {c : Nat} (H : IsRef S w p D c) (n : ByteArray) (to : Int) (hto : -9223372036854775808 ≤ to ∧ to ≤ 9223372036854775807) (hc : c + 1 ≤ 10000000) :
    Calls Try.prog 34 #[.pointer (some ⟨p, 0, none⟩), .string n, .int .i64 to] w fun e w' => e = .returned (.int .i64 (Dsk.cut n to D).2) ∧ RGoes S w w' p (Dsk.cut n to D).1 (c + 1) := by
  obtain ⟨ok, bud, lim, hfl, fv, dv, fs, ds, H⟩ := H
  obtain ⟨da, dc, rfl⟩ := own_slice H.dirs
  obtain ⟨fa, fc, rfl⟩ := own_slice H.files
  have ok' := Dsk.cut_ok n to ok
  have bud' := Dsk.bud_cut n to bud ok
  have lim' := lim_cut n to lim
  have h1 := ok.left
  have h2 := lim.left
  have h3 := bud.ops
  have hdl := bud.dirs
  have hrl := bud.rows _ (Dsk.dir_mem ok.some)
  have hfil := bud.files
  by_cases h0 : D.left = 0
  · have e : Dsk.cut n to D = (D, 11) := act_dead h0 _
    rw [e] at ok' bud' lim' ⊢
    have HH := hide H
    have HB := hide bud'
    clear H e bud bud'
    go_enter Try.func34, Try.ntmps34
    go_wp2_with fail
    refine (rbegin_dead HH.out h0).mono ?_
    rintro e w1 ⟨rfl, hw⟩
    rw [hw]
    go_wp2
    go_ret
    exact ⟨rfl, ((HH.out.wide w).goes (Only.refl _ _) ok' HB.out lim' hfl)⟩
  have e0 : Dsk.cut n to D = Dsk.cutB n to (Dsk.on D) := by unfold Dsk.cut Dsk.act; rw [if_neg h0]
  rw [e0] at ok' bud' lim' ⊢
  cases hf : Dsk.find (Dsk.dir D) n with
  | none =>
    have e : Dsk.cutB n to (Dsk.on D) = (Dsk.on D, 5) := by unfold Dsk.cutB; rw [show Dsk.find (Dsk.dir (Dsk.on D)) n = none from hf]
    rw [e] at ok' bud' lim' ⊢
    have HH := hide H
    have HB := hide bud'
    have HF := hide hf
    have HK := hide ok'
    clear H e bud bud' hf e0 ok'
    go_enter Try.func34, Try.ntmps34
    go_wp2_with fail
    refine (rbegin_on HH.out h0 h1 h2 (by omega)).mono ?_
    rintro e w1 ⟨rfl, hr1, ho1⟩
    have HR1 := hide hr1
    have HO1 := hide ho1
    clear hr1 ho1
    go_wp2_with fail
    refine (rnumber_at HR1.out HK.out (by show D.dirs.length ≤ _; omega) (by show (Dsk.dir D).length ≤ _; omega) n).mono ?_
    rintro e w2 ⟨rfl, hb2⟩
    rw [show Dsk.find (Dsk.dir (Dsk.on D)) n = none from HF.out]
    have hnn : numV none < 0 := by decide
    have HG := hide (((HR1.out.below hb2).wide w).goes (HO1.out.then_below hb2) HK.out HB.out lim' hfl)
    clear hb2
    go_wp2
    go_ret
    exact ⟨rfl, HG.out⟩
  | some i =>
    have hil := Dsk.find_lt ok hf
    have hhs := bud.hists _ (Dsk.hist_mem hil)
    obtain ⟨gf, cf', hfv, _, _, _, _⟩ := own_view H.files (by omega)
    simp only [Value.slice.injEq] at hfv
    obtain ⟨rfl, _, rfl⟩ := hfv
    have hns := Num.bs_size (Dsk.now D i)
    have hnl := bud.now ok i
    by_cases hbad : to < 0 ∨ ((Dsk.now D i).length : Int) < to
    · have e : Dsk.cutB n to (Dsk.on D) = (Dsk.on D, 1) := by unfold Dsk.cutB; rw [show Dsk.find (Dsk.dir (Dsk.on D)) n = some i from hf]; simp only; rw [if_pos (show to < 0 ∨ ((Dsk.now (Dsk.on D) i).length : Int) < to from hbad)]
      rw [e] at ok' bud' lim' ⊢
      have HH := hide H
      have HB := hide bud'
      have HF := hide hf
      have HK := hide (Dsk.on_ok ok)
      have HK' := hide ok'
      clear H e bud bud' hf e0 ok'
      go_enter Try.func34, Try.ntmps34
      go_wp2_with fail
      refine (rbegin_on HH.out h0 h1 h2 (by omega)).mono ?_
      rintro e w1 ⟨rfl, hr1, ho1⟩
      have HR1 := hide hr1
      have HO1 := hide ho1
      clear hr1 ho1
      go_wp2_with fail
      refine (rnumber_at HR1.out HK.out (by show D.dirs.length ≤ _; omega) (by show (Dsk.dir D).length ≤ _; omega) n).mono ?_
      rintro e w2 ⟨rfl, hb2⟩
      rw [show Dsk.find (Dsk.dir (Dsk.on D)) n = some i from HF.out, num_some]
      have HR2 := hide (HR1.out.below hb2)
      have HO2 := hide (HO1.out.then_below hb2)
      clear hb2
      go_wp2_with fail
      refine (rnow_at HR2.out HK.out (i := i) (by show i < D.files.length; exact hil) (by show D.files.length ≤ _; omega) (by show (Dsk.hist D i).length ≤ _; omega)).mono ?_
      rintro e w3 ⟨rfl, hb⟩
      have HR3 := hide (HR2.out.below hb)
      have HO3 := hide (HO2.out.then_below hb)
      clear hb
      rw [show Num.bs (Dsk.now (Dsk.on D) i) = Num.bs (Dsk.now D i) from rfl]
      obtain ⟨s, hs⟩ : ∃ s, Num.bs (Dsk.now D i) = s := ⟨_, rfl⟩
      rw [hs] at hns ⊢
      have HG := hide ((HR3.out.wide w).goes HO3.out HK'.out HB.out lim' hfl)
      clear hs
      by_cases hneg : to < 0
      · go_wp2
        go_ret
        exact ⟨rfl, HG.out⟩
      · have hbig : (s.size : Int) < to := by omega
        go_wp2
        go_ret
        exact ⟨rfl, HG.out⟩
    · obtain ⟨t, rfl⟩ : ∃ t : Nat, to = (t : Int) := ⟨to.toNat, by omega⟩
      have e : Dsk.cutB n (t : Int) (Dsk.on D) = ({ Dsk.on D with files := (Dsk.on D).files.set i (Dsk.hist (Dsk.on D) i ++ [(Dsk.now (Dsk.on D) i).take t]) }, 0) := by unfold Dsk.cutB; rw [show Dsk.find (Dsk.dir (Dsk.on D)) n = some i from hf]; simp only; rw [if_neg (show ¬ ((t : Int) < 0 ∨ ((Dsk.now (Dsk.on D) i).length : Int) < t) from hbad)]; rfl
      rw [e] at ok' bud' lim' ⊢
      have HH := hide H
      have HB := hide bud'
      have HF := hide hf
      have HK := hide (Dsk.on_ok ok)
      have HK' := hide ok'
      clear H e bud bud' hf e0 ok'
      go_enter Try.func34, Try.ntmps34
      go_wp2_with fail
      refine (rbegin_on HH.out h0 h1 h2 (by omega)).mono ?_
      rintro e w1 ⟨rfl, hr1, ho1⟩
      have HR1 := hide hr1
      have HO1 := hide ho1
      clear hr1 ho1
      go_wp2_with fail
      refine (rnumber_at HR1.out HK.out (by show D.dirs.length ≤ _; omega) (by show (Dsk.dir D).length ≤ _; omega) n).mono ?_
      rintro e w2 ⟨rfl, hb2⟩
      rw [show Dsk.find (Dsk.dir (Dsk.on D)) n = some i from HF.out, num_some]
      have HR2 := hide (HR1.out.below hb2)
      have HO2 := hide (HO1.out.then_below hb2)
      clear hb2
      go_wp2_with fail
      refine (rnow_at HR2.out HK.out (i := i) (by show i < D.files.length; exact hil) (by show D.files.length ≤ _; omega) (by show (Dsk.hist D i).length ≤ _; omega)).mono ?_
      rintro e w3 ⟨rfl, hb⟩
      have HR3 := hide (HR2.out.below hb)
      have HO3 := hide (HO2.out.then_below hb)
      clear hb
      rw [show Num.bs (Dsk.now (Dsk.on D) i) = Num.bs (Dsk.now D i) from rfl]
      have htk : Num.bs ((Dsk.now D i).take t) = (Num.bs (Dsk.now D i)).extract 0 t := by
        apply ByteArray.ext
        rw [ByteArray.data_extract]
        apply Array.ext'
        simp [Num.bs]
      obtain ⟨s, hs⟩ : ∃ s, Num.bs (Dsk.now D i) = s := ⟨_, rfl⟩
      rw [hs] at hns htk ⊢
      have htl : t ≤ s.size := by omega
      have HTK := hide htk
      clear hs htk hbad
      go_wp2_with fail
      refine wp_region_growK (fun b => b = p ∨ b = gf) [([0, 1, 2, 3, 4, 5, 6, 7, 8, 9, 10, 11, 12, 13, 14], 15), ([], 16)] [17] [18] (by kernel_rfl) (by kernel_rfl) (by kernel_rfl) (by kernel_rfl) ?_
      intro w4 hb4
      simp only [stagesOfK, getLK, pickLK]
      have HR4 := hide (HR3.out.below hb4)
      have HO4 := hide (HO3.out.then_below hb4)
      obtain ⟨_, k1, _, _, _, _, _, hpl⟩ := HR4.out.look
      obtain ⟨v, hv, hvs⟩ := HR4.out.hist (i := i) (by show i < D.files.length; exact hil)
      obtain ⟨va, vc, rfl⟩ := own_slice hvs.1
      obtain ⟨ea, N, ec, w7, hr7, k7, c7, f7, kp7, h7, o7⟩ := RefAt.appRow (D := Dsk.on D) (L := D.files.length) rfl HR4.out HO4.out HH.out.lt (n := i) hil hv ((Dsk.now (Dsk.on D) i).take t) HTK.out (by show (Dsk.hist D i).length ≤ _; omega) 91
      have HR7 := hide hr7
      have HG := hide (h7.goes o7 HK'.out HB.out lim' hfl)
      have hgl := HR4.out.lt gf (HR4.out.sf gf rfl)
      have kv : w4.cell? ⟨gf, i, none⟩ = some (.slice va (Dsk.hist (Dsk.on D) i).length vc) := by
        have := HR4.out.files.cells (g := gf) rfl i _ hv
        rw [Addr.add_lit, Nat.zero_add] at this
        exact this
      have inh : Nonempty (GrK (fun b => b = p ∨ b = gf) w4) := GrK.some _ w4
      have q1 := fun x : GrK (fun b => b = p ∨ b = gf) w4 => x.cell (a := ⟨p, 1, none⟩) (.inl rfl) k1
      have q2 := fun x : GrK (fun b => b = p ∨ b = gf) w4 => x.cell (a := ⟨gf, i, none⟩) (.inr rfl) kv
      clear hr7 h7 o7 hvs hv
      refine wpG_stageK ?_
      repeat (go_big_quiet_step (fail))
      refine wpQuiet_nil ?_
      clear q1 q2 inh hb4
      go_wp2
      refine OnToK.mk (Kept.of_below ((Below.refl _ w4).alloc (Nat.le_refl _) _) (fun b e => by rcases e with rfl | rfl; exact hpl; exact hgl)) (Sub.refl _) ?_
      refine wpG_stageK (wpQuiet_nil ?_)
      go_wp2_with (at_builtin; refine wpList_app_run rfl _ _ _ _ rfl rfl rfl HR7.out ?_)
      refine OnToK.mk kp7 (Sub.refl _) ?_
      have inh : Nonempty (GrK (fun b => b = p ∨ b = gf) w7) := GrK.some _ w7
      refine wpG_lastK ?_
      repeat (go_big_quiet_step (fail))
      refine wpQuiet_nil ?_
      clear inh kp7
      go_wp2
      go_ret
      exact ⟨rfl, HG.out⟩

/-- 'd.Files[n] = []string{x}', behind w. -/
theorem RefAt.oneRow {S : Nat → Prop} {w w6 : World} {p : Nat} {D : Dk} {dv : Value} {fs ds : List Value} {gf cf L : Nat} (hL : L = D.files.length) (H : RefAt S w6 p D (.slice (some ⟨gf, 0, none⟩) L cf) dv fs ds) (ho : Only S w w6) (hSw : ∀ b, S b → b < w.heap.size) {n : Nat} (hn : n < D.files.length) {v : Value} (hold : fs[n]? = some v) (x : By) {s : ByteArray} (hs : Num.bs x = s) :
    RefAt (more S w ((w6.alloc (.cells #[.string s] 9)).setCell ⟨gf, n, none⟩ (.slice (some ⟨w6.heap.size, 0, none⟩) 1 1))) ((w6.alloc (.cells #[.string s] 9)).setCell ⟨gf, n, none⟩ (.slice (some ⟨w6.heap.size, 0, none⟩) 1 1)) p { D with files := D.files.set n [x] } (.slice (some ⟨gf, 0, none⟩) L cf) dv (fs.set n (.slice (some ⟨w6.heap.size, 0, none⟩) 1 1)) ds ∧
      Only S w ((w6.alloc (.cells #[.string s] 9)).setCell ⟨gf, n, none⟩ (.slice (some ⟨w6.heap.size, 0, none⟩) 1 1)) := by
  subst hs hL
  have hT : ∀ b, more S w (w6.alloc (.cells #[.string (Num.bs x)] 9)) b → b < (w6.alloc (.cells #[.string (Num.bs x)] 9)).heap.size := fun b hb => by
    rcases hb with hb | hb
    · have := hSw b hb; have := ho.size; simp; omega
    · exact hb.2
  have hst : StrAt (more S w (w6.alloc (.cells #[.string (Num.bs x)] 9))) (w6.alloc (.cells #[.string (Num.bs x)] 9)) (.slice (some ⟨w6.heap.size, 0, none⟩) 1 1) [x] := ⟨own_one (heap_new _ _), fun g e => by
    have e : some w6.heap.size = some g := e
    cases e
    exact .inr ⟨ho.size, by simp⟩⟩
  have hset := H.setRow (T := more S w (w6.alloc (.cells #[.string (Num.bs x)] 9))) hn hold (fun b hb _ => Below.heap_alloc _ _ b (H.lt b hb)) (fun b hb => .inl hb) hT hst (.inr (fun g e hS => by
    have e : some w6.heap.size = some g := e
    cases e
    have := H.lt _ hS
    omega))
  have hz2 : ((w6.alloc (.cells #[.string (Num.bs x)] 9)).setCell ⟨gf, n, none⟩ (.slice (some ⟨w6.heap.size, 0, none⟩) 1 1)).heap.size = (w6.alloc (.cells #[.string (Num.bs x)] 9)).heap.size := by simp [World.setCell]
  refine ⟨hset.mono (fun b hb => ?_) (fun b hb => ?_), ((ho.then_below ((Below.refl _ w6).alloc (Nat.le_refl _) _))).setCell (p := ⟨gf, n, none⟩) (H.sf gf rfl) _⟩
  · rcases hb with hb | hb
    · exact .inl hb
    · exact .inr (by rw [hz2]; exact hb)
  · rw [hz2]
    exact hT b (by rcases hb with hb | hb; exact .inl hb; exact .inr (by rw [hz2] at hb; exact hb))
set_option maxRecDepth 100000 in
set_option maxHeartbeats 600000 in
theorem rsync_dk {S : Nat → Prop} {w : World} {p : Nat} {D : Dk} {c : Nat} (H : IsRef S w p D c) (n : ByteArray) (hc : c + 1 ≤ 10000000) :
    Calls Try.prog 36 #[.pointer (some ⟨p, 0, none⟩), .string n] w fun e w' => e = .returned (.int .i64 (Dsk.sync n D).2) ∧ RGoes S w w' p (Dsk.sync n D).1 (c + 1) := by
  obtain ⟨ok, bud, lim, hfl, fv, dv, fs, ds, H⟩ := H
  obtain ⟨da, dc, rfl⟩ := own_slice H.dirs
  obtain ⟨fa, fc, rfl⟩ := own_slice H.files
  have ok' := Dsk.sync_ok n ok
  have bud' := Dsk.bud_sync n bud ok
  have lim' := lim_sync n lim
  have h1 := ok.left
  have h2 := lim.left
  have h3 := bud.ops
  have hdl := bud.dirs
  have hrl := bud.rows _ (Dsk.dir_mem ok.some)
  have hfil := bud.files
  by_cases h0 : D.left = 0
  · have e : Dsk.sync n D = (D, 11) := act_dead h0 _
    rw [e] at ok' bud' lim' ⊢
    have HH := hide H
    have HB := hide bud'
    clear H e bud bud'
    go_enter Try.func36, Try.ntmps36
    go_wp2_with fail
    refine (rbegin_dead HH.out h0).mono ?_
    rintro e w1 ⟨rfl, hw⟩
    rw [hw]
    go_wp2
    go_ret
    exact ⟨rfl, ((HH.out.wide w).goes (Only.refl _ _) ok' HB.out lim' hfl)⟩
  have e0 : Dsk.sync n D = Dsk.syncB n (Dsk.on D) := by unfold Dsk.sync Dsk.act; rw [if_neg h0]
  rw [e0] at ok' bud' lim' ⊢
  cases hf : Dsk.find (Dsk.dir D) n with
  | none =>
    have e : Dsk.syncB n (Dsk.on D) = (Dsk.on D, 5) := by unfold Dsk.syncB; rw [show Dsk.find (Dsk.dir (Dsk.on D)) n = none from hf]
    rw [e] at ok' bud' lim' ⊢
    have HH := hide H
    have HB := hide bud'
    have HF := hide hf
    have HK := hide ok'
    clear H e bud bud' hf e0 ok'
    go_enter Try.func36, Try.ntmps36
    go_wp2_with fail
    refine (rbegin_on HH.out h0 h1 h2 (by omega)).mono ?_
    rintro e w1 ⟨rfl, hr1, ho1⟩
    have HR1 := hide hr1
    have HO1 := hide ho1
    clear hr1 ho1
    go_wp2_with fail
    refine (rnumber_at HR1.out HK.out (by show D.dirs.length ≤ _; omega) (by show (Dsk.dir D).length ≤ _; omega) n).mono ?_
    rintro e w2 ⟨rfl, hb2⟩
    rw [show Dsk.find (Dsk.dir (Dsk.on D)) n = none from HF.out]
    have hnn : numV none < 0 := by decide
    have HG := hide (((HR1.out.below hb2).wide w).goes (HO1.out.then_below hb2) HK.out HB.out lim' hfl)
    clear hb2
    go_wp2
    go_ret
    exact ⟨rfl, HG.out⟩
  | some i =>
    have hil := Dsk.find_lt ok hf
    have hhs := bud.hists _ (Dsk.hist_mem hil)
    obtain ⟨gf, cf', hfv, _, _, _, _⟩ := own_view H.files (by omega)
    simp only [Value.slice.injEq] at hfv
    obtain ⟨rfl, _, rfl⟩ := hfv
    by_cases hbad : D.fail = 1
    · have e : Dsk.syncB n (Dsk.on D) = ({ Dsk.on D with fail := (Dsk.on D).fail - 1 }, 10) := by
        unfold Dsk.syncB
        rw [show Dsk.find (Dsk.dir (Dsk.on D)) n = some i from hf]
        simp only
        rw [if_pos (show (Dsk.on D).fail = 1 from hbad), show (Dsk.on D).fail - 1 = 0 from by rw [show (Dsk.on D).fail = 1 from hbad]]
      rw [e] at ok' bud' lim' ⊢
      have HDF : Hid (decide ((Dsk.on D).fail = 1) = true) := hide (decide_eq_true hbad)
      have HH := hide H
      have HB := hide bud'
      have HF := hide hf
      have HK := hide (Dsk.on_ok ok)
      have HK' := hide ok'
      clear H e bud bud' hf e0 ok'
      go_enter Try.func36, Try.ntmps36
      go_wp2_with fail
      refine (rbegin_on HH.out h0 h1 h2 (by omega)).mono ?_
      rintro e w1 ⟨rfl, hr1, ho1⟩
      have HR1 := hide hr1
      have HO1 := hide ho1
      clear hr1 ho1
      go_wp2_with fail
      refine (rnumber_at HR1.out HK.out (by show D.dirs.length ≤ _; omega) (by show (Dsk.dir D).length ≤ _; omega) n).mono ?_
      rintro e w2 ⟨rfl, hb2⟩
      rw [show Dsk.find (Dsk.dir (Dsk.on D)) n = some i from HF.out, num_some]
      have HR2 := hide (HR1.out.below hb2)
      have HO2 := hide (HO1.out.then_below hb2)
      clear hb2
      go_wp2_with fail
      refine (rfails_at HR2.out (by show D.fail ≤ _; exact hfl)).mono ?_
      rintro e w3 ⟨rfl, hr3, ho3⟩
      rw [HDF.out]
      have HR3 := hide hr3
      have HO3 := hide (HO2.out.trans' ho3)
      clear hr3 ho3
      have HG := hide ((HR3.out.wide w).goes HO3.out HK'.out HB.out lim' (by show D.fail - 1 ≤ _; omega))
      go_wp2
      go_ret
      exact ⟨rfl, HG.out⟩
    · have e : Dsk.syncB n (Dsk.on D) = ({ Dsk.on D with fail := (Dsk.on D).fail - 1, files := (Dsk.on D).files.set i [Dsk.now (Dsk.on D) i] }, 0) := by
        unfold Dsk.syncB
        rw [show Dsk.find (Dsk.dir (Dsk.on D)) n = some i from hf]
        simp only
        rw [if_neg (show ¬ (Dsk.on D).fail = 1 from hbad)]
      rw [e] at ok' bud' lim' ⊢
      have HDF : Hid (decide ((Dsk.on D).fail = 1) = false) := hide (decide_eq_false hbad)
      have HH := hide H
      have HB := hide bud'
      have HF := hide hf
      have HK := hide (Dsk.on_ok ok)
      have HK' := hide ok'
      clear H e bud bud' hf e0 ok'
      go_enter Try.func36, Try.ntmps36
      go_wp2_with fail
      refine (rbegin_on HH.out h0 h1 h2 (by omega)).mono ?_
      rintro e w1 ⟨rfl, hr1, ho1⟩
      have HR1 := hide hr1
      have HO1 := hide ho1
      clear hr1 ho1
      go_wp2_with fail
      refine (rnumber_at HR1.out HK.out (by show D.dirs.length ≤ _; omega) (by show (Dsk.dir D).length ≤ _; omega) n).mono ?_
      rintro e w2 ⟨rfl, hb2⟩
      rw [show Dsk.find (Dsk.dir (Dsk.on D)) n = some i from HF.out, num_some]
      have HR2 := hide (HR1.out.below hb2)
      have HO2 := hide (HO1.out.then_below hb2)
      clear hb2
      go_wp2_with fail
      refine (rfails_at HR2.out (by show D.fail ≤ _; exact hfl)).mono ?_
      rintro e w3 ⟨rfl, hr3, ho3⟩
      rw [HDF.out]
      have HR3 := hide hr3
      have HO3 := hide (HO2.out.trans' ho3)
      clear hr3 ho3
      have HK3 : Hid (Dsk.Ok { Dsk.on D with fail := (Dsk.on D).fail - 1 }) := hide ⟨HK.out.rows, HK.out.some, HK.out.hists, HK.out.left⟩
      go_wp2_with fail
      refine wp_region_growK (fun b => b = p ∨ b = gf) [([0, 1, 2, 3, 4, 5, 6], 7), ([], 8)] [9] [10] (by kernel_rfl) (by kernel_rfl) (by kernel_rfl) (by kernel_rfl) ?_
      intro w4 hb4
      simp only [stagesOfK, getLK, pickLK]
      have HR4 := hide (HR3.out.below hb4)
      have HO4 := hide (HO3.out.then_below hb4)
      obtain ⟨_, k1, _, _, _, _, _, hpl⟩ := HR4.out.look
      have hgl := HR4.out.lt gf (HR4.out.sf gf rfl)
      have inh : Nonempty (GrK (fun b => b = p ∨ b = gf) w4) := GrK.some _ w4
      have q1 := fun x : GrK (fun b => b = p ∨ b = gf) w4 => x.cell (a := ⟨p, 1, none⟩) (.inl rfl) k1
      refine wpG_stageK ?_
      repeat (go_big_quiet_step (fail))
      refine wpQuiet_nil ?_
      clear q1 inh hb4
      go_wp2_with fail
      refine (rnow_at HR4.out HK3.out (i := i) (by show i < D.files.length; exact hil) (by show D.files.length ≤ _; omega) (by show (Dsk.hist D i).length ≤ _; omega)).mono ?_
      rintro e w5 ⟨rfl, hb⟩
      rw [show Num.bs (Dsk.now { Dsk.on D with fail := (Dsk.on D).fail - 1 } i) = Num.bs (Dsk.now D i) from rfl]
      have HR5 := hide (HR4.out.below hb)
      have HO5 := hide (HO4.out.then_below hb)
      obtain ⟨s, hs⟩ : ∃ s, Num.bs (Dsk.now D i) = s := ⟨_, rfl⟩
      rw [hs]
      go_wp2
      refine OnToK.mk (Kept.of_below hb (fun b e => by rcases e with rfl | rfl; exact hpl; exact hgl)) (Sub.refl _) ?_
      have hpl5 := Nat.lt_of_lt_of_le hpl hb.size
      have hgl5 := Nat.lt_of_lt_of_le hgl hb.size
      clear hb
      refine wpG_stageK (wpQuiet_nil ?_)
      go_wp2
      refine OnToK.mk (Kept.of_below ((Below.refl _ w5).alloc (Nat.le_refl _) _) (fun b e => by rcases e with rfl | rfl; exact hpl5; exact hgl5)) (Sub.refl _) ?_
      obtain ⟨v, hv, hvs⟩ := HR5.out.hist (i := i) (by show i < D.files.length; exact hil)
      obtain ⟨va, vc, rfl⟩ := own_slice hvs.1
      obtain ⟨h7, o7⟩ := RefAt.oneRow (D := { Dsk.on D with fail := (Dsk.on D).fail - 1 }) (L := D.files.length) rfl HR5.out HO5.out HH.out.lt (n := i) hil hv (Dsk.now (Dsk.on D) i) hs
      have HG := hide (h7.goes o7 HK'.out HB.out lim' (by show D.fail - 1 ≤ _; omega))
      have kv : w5.cell? ⟨gf, i, none⟩ = some (.slice va (Dsk.hist (Dsk.on D) i).length vc) := by
        have := HR5.out.files.cells (g := gf) rfl i _ hv
        rw [Addr.add_lit, Nat.zero_add] at this
        exact this
      obtain ⟨cu, hgf⟩ := own_kind HR5.out.files (g := gf) rfl
      have b56 : Below w5.heap.size w5 (w5.alloc (.cells #[.string s] 9)) := (Below.refl _ w5).alloc (Nat.le_refl _) _
      have c6 := (b56.cell (p := ⟨gf, i, none⟩) hgl5).trans kv
      have f6 := fun j => (b56.frozen (p := ⟨gf, j, none⟩) hgl5).trans (frozen_of hgf j)
      obtain ⟨w6, hw6⟩ : ∃ W, w5.alloc (.cells #[.string s] 9) = W := ⟨_, rfl⟩
      rw [hw6] at c6 f6 HG ⊢
      clear h7 o7 hvs hv kv b56 hw6 hs
      have inh : Nonempty (GrK (fun b => b = p ∨ b = gf) w6) := GrK.some _ w6
      refine wpG_lastK ?_
      repeat (go_big_quiet_step (fail))
      refine wpQuiet_nil ?_
      clear inh
      go_wp2
      go_ret
      exact ⟨rfl, HG.out⟩

def djk (D : Dk) (i : Nat) (s : By) (j : Nat) : Dk := { D with files := D.files.set i (Dsk.hist D i ++ Dsk.fronts (Dsk.now D i) (s.take j)) }
theorem fronts_snoc (b s : By) {j : Nat} (hj : j < s.length) : Dsk.fronts b (s.take (j + 1)) = Dsk.fronts b (s.take j) ++ [b ++ s.take (j + 1)] := by
  unfold Dsk.fronts
  rw [List.length_take, List.length_take, Nat.min_eq_left (by omega), Nat.min_eq_left (by omega), List.range_succ, List.map_append, List.map_singleton]
  congr 1
  · refine List.map_congr_left fun k hk => ?_
    rw [List.mem_range] at hk
    rw [List.take_take, List.take_take, Nat.min_eq_left (by omega), Nat.min_eq_left (by omega)]
  · rw [List.take_take, Nat.min_self]
theorem djk_hist (D : Dk) {i : Nat} (hi : i < D.files.length) (s : By) (j : Nat) : Dsk.hist (djk D i s j) i = Dsk.hist D i ++ Dsk.fronts (Dsk.now D i) (s.take j) := by
  have := Dsk.hist_set D hi (Dsk.hist D i ++ Dsk.fronts (Dsk.now D i) (s.take j)) i
  rw [if_pos rfl] at this
  exact this
theorem djk_now (D : Dk) {i : Nat} (hi : i < D.files.length) (s : By) (j : Nat) : Dsk.now (djk D i s j) i = Dsk.now D i ++ s.take j := by
  unfold Dsk.now
  rw [djk_hist D hi]
  exact Dsk.fronts_last _ _ _ rfl
theorem djk_next (D : Dk) {i : Nat} (hi : i < D.files.length) (s : By) {j : Nat} (hj : j < s.length) : { djk D i s j with files := (djk D i s j).files.set i (Dsk.hist (djk D i s j) i ++ [Dsk.now D i ++ s.take (j + 1)]) } = djk D i s (j + 1) := by
  rw [djk_hist D hi]
  unfold djk
  simp only [List.set_set]
  rw [fronts_snoc _ _ hj, List.append_assoc]
theorem djk_zero (D : Dk) {i : Nat} (hi : i < D.files.length) (s : By) : djk D i s 0 = D := by
  unfold djk
  have e : Dsk.hist D i ++ Dsk.fronts (Dsk.now D i) (s.take 0) = D.files[i] := by
    simp only [List.take_zero, Dsk.fronts, List.length_nil, List.range_zero, List.map_nil, List.append_nil]
    unfold Dsk.hist
    rw [List.getD_eq_getElem?_getD, List.getElem?_eq_getElem hi]
    rfl
  rw [e, List.set_getElem_self]
theorem djk_ok {D : Dk} (h : Dsk.Ok D) {i : Nat} (hi : i < D.files.length) (s : By) (j : Nat) : Dsk.Ok (djk D i s j) := by
  refine Dsk.set_ok h i _ ?_ D.fail
  intro e
  exact h.hists _ (Dsk.hist_mem hi) (List.append_eq_nil_iff.1 e).1
theorem bs_next (b : By) (s : ByteArray) {j : Nat} (hj : j < s.size) : Num.bs (b ++ s.data.toList.take (j + 1)) = Num.bs (b ++ s.data.toList.take j) ++ s.extract j (j + 1) := by
  have hl : j < s.data.toList.length := by simpa using hj
  apply ByteArray.ext
  rw [ByteArray.data_append, ByteArray.data_extract]
  apply Array.ext'
  rw [Array.toList_append, Array.toList_extract]
  simp only [Num.bs]
  show b ++ s.data.toList.take (j + 1) = (b ++ s.data.toList.take j) ++ (s.data.toList.drop j).take (j + 1 - j)
  rw [Nat.add_sub_cancel_left, List.append_assoc, List.take_succ_eq_append_getElem hl, List.drop_eq_getElem_cons hl]
  rfl
set_option maxRecDepth 100000 in
set_option maxHeartbeats 600000 in
theorem rappend_dk {S : Nat → Prop} {w : World} {p : Nat} {D : Dk} {c : Nat} (H : IsRef S w p D c) (n s : ByteArray) (hc : c + (1 + s.size) ≤ 10000000) :
    Calls Try.prog 32 #[.pointer (some ⟨p, 0, none⟩), .string n, .string s] w fun e w' => e = .returned (.int .i64 (Dsk.append n s.data.toList D).2) ∧ RGoes S w w' p (Dsk.append n s.data.toList D).1 (c + (1 + s.size)) := by
  obtain ⟨ok, bud, lim, hfl, fv, dv, fs, ds, H⟩ := H
  obtain ⟨da, dc, rfl⟩ := own_slice H.dirs
  obtain ⟨fa, fc, rfl⟩ := own_slice H.files
  have ok' := Dsk.append_ok n s.data.toList ok
  have hsl : s.data.toList.length = s.size := by simp
  have bud' : Dsk.Bud (Dsk.append n s.data.toList D).1 (c + (1 + s.size)) := by have := Dsk.bud_append n s.data.toList bud ok; rw [hsl, Nat.add_assoc] at this; exact this
  have lim' := lim_append n s.data.toList lim
  have h1 := ok.left
  have h2 := lim.left
  have h3 := bud.ops
  have hdl := bud.dirs
  have hrl := bud.rows _ (Dsk.dir_mem ok.some)
  have hfil := bud.files
  by_cases h0 : D.left = 0
  · have e : Dsk.append n s.data.toList D = (D, 11) := act_dead h0 _
    rw [e] at ok' bud' lim' ⊢
    have HH := hide H
    have HB := hide bud'
    clear H e bud bud'
    go_enter Try.func32, Try.ntmps32
    go_wp2_with fail
    refine (rbegin_dead HH.out h0).mono ?_
    rintro e w1 ⟨rfl, hw⟩
    rw [hw]
    go_wp2
    go_ret
    exact ⟨rfl, ((HH.out.wide w).goes (Only.refl _ _) ok' HB.out lim' hfl)⟩
  have e0 : Dsk.append n s.data.toList D = Dsk.appendB n s.data.toList (Dsk.on D) := by unfold Dsk.append Dsk.act; rw [if_neg h0]
  rw [e0] at ok' bud' lim' ⊢
  cases hf : Dsk.find (Dsk.dir D) n with
  | none =>
    have e : Dsk.appendB n s.data.toList (Dsk.on D) = (Dsk.on D, 5) := by unfold Dsk.appendB; rw [show Dsk.find (Dsk.dir (Dsk.on D)) n = none from hf]
    rw [e] at ok' bud' lim' ⊢
    have HH := hide H
    have HB := hide bud'
    have HF := hide hf
    have HK := hide ok'
    clear H e bud bud' hf e0 ok'
    go_enter Try.func32, Try.ntmps32
    go_wp2_with fail
    refine (rbegin_on HH.out h0 h1 h2 (by omega)).mono ?_
    rintro e w1 ⟨rfl, hr1, ho1⟩
    have HR1 := hide hr1
    have HO1 := hide ho1
    clear hr1 ho1
    go_wp2_with fail
    refine (rnumber_at HR1.out HK.out (by show D.dirs.length ≤ _; omega) (by show (Dsk.dir D).length ≤ _; omega) n).mono ?_
    rintro e w2 ⟨rfl, hb2⟩
    rw [show Dsk.find (Dsk.dir (Dsk.on D)) n = none from HF.out]
    have hnn : numV none < 0 := by decide
    have HG := hide (((HR1.out.below hb2).wide w).goes (HO1.out.then_below hb2) HK.out HB.out lim' hfl)
    clear hb2
    go_wp2
    go_ret
    exact ⟨rfl, HG.out⟩
  | some i =>
    have hil := Dsk.find_lt ok hf
    have hhs := bud.hists _ (Dsk.hist_mem hil)
    obtain ⟨gf, cf', hfv, _, _, _, _⟩ := own_view H.files (by omega)
    simp only [Value.slice.injEq] at hfv
    obtain ⟨rfl, _, rfl⟩ := hfv
    have hub := bud.used ok
    have hcc : c * c ≤ 10000000 * 10000000 := Nat.mul_le_mul (by omega) (by omega)
    have hrm := lim.room
    have hcr : D.room = (Dsk.on D).room := rfl
    obtain ⟨k0, _⟩ := H.look
    have HLI : Hid (Lim (Dsk.on D)) := hide ⟨lim.room, by unfold Dsk.on; simp only; split <;> omega⟩
    have HBO := hide bud.on
    obtain ⟨u, hu⟩ : ∃ u, Dsk.used D = u := ⟨_, rfl⟩
    have HUE : Hid (Dsk.used (Dsk.on D) = u) := hide hu
    by_cases hfull : D.room < Dsk.used D + s.data.toList.length
    · have e : Dsk.appendB n s.data.toList (Dsk.on D) = (Dsk.on D, 9) := by unfold Dsk.appendB; rw [show Dsk.find (Dsk.dir (Dsk.on D)) n = some i from hf]; simp only; rw [if_pos (show (Dsk.on D).room < Dsk.used (Dsk.on D) + s.data.toList.length from hfull)]
      rw [e] at ok' bud' lim' ⊢
      rw [hu, hsl] at hfull
      rw [hu] at hub
      have HH := hide H
      have HB := hide bud'
      have HF := hide hf
      have HK := hide (Dsk.on_ok ok)
      have HK' := hide ok'
      clear hu H e bud bud' hf e0 ok'
      go_enter Try.func32, Try.ntmps32
      go_wp2_with fail
      refine (rbegin_on HH.out h0 h1 h2 (by omega)).mono ?_
      rintro e w1 ⟨rfl, hr1, ho1⟩
      have HR1 := hide hr1
      have HO1 := hide ho1
      clear hr1 ho1
      go_wp2_with fail
      refine (rnumber_at HR1.out HK.out (by show D.dirs.length ≤ _; omega) (by show (Dsk.dir D).length ≤ _; omega) n).mono ?_
      rintro e w2 ⟨rfl, hb2⟩
      rw [show Dsk.find (Dsk.dir (Dsk.on D)) n = some i from HF.out, num_some]
      have HR2 := hide (HR1.out.below hb2)
      have HO2 := hide (HO1.out.then_below hb2)
      clear hb2
      have hwr : IntKind.i64.wrap ((u : Int) + (s.size : Int)) = ((u + s.size : Nat) : Int) := by rw [IntKind.wrap_i64]; omega
      have hdc : decide ((D.room : Int) < ((u + s.size : Nat) : Int)) = true := decide_eq_true (by omega)
      go_wp2_with fail
      refine wp_region_growK (fun b => b = p) [([0, 2, 3, 5, 6, 7, 8], 1)] [4, 9] [] (by kernel_rfl) (by kernel_rfl) (by kernel_rfl) (by kernel_rfl) ?_
      intro wU hbU
      simp only [stagesOfK, getLK, pickLK]
      have HRU := hide (HR2.out.below hbU)
      have HOU := hide (HO2.out.then_below hbU)
      obtain ⟨kU, _, _, _, _, _, _, hplU⟩ := HRU.out.look
      have kU : wU.cell? ⟨p, 0, none⟩ = some (.int .i64 (D.room : Int)) := kU
      have inh : Nonempty (GrK (fun b => b = p) wU) := GrK.some _ wU
      have q0 := fun x : GrK (fun b => b = p) wU => x.cell (a := ⟨p, 0, none⟩) rfl kU
      refine wpG_stageK ?_
      repeat (go_big_quiet_step (fail))
      refine wpQuiet_nil ?_
      clear q0 inh hbU
      go_wp2_with fail
      refine (rused_dk (c := c + 1) ⟨HK.out, HBO.out, HLI.out, hfl, _, _, _, _, HRU.out⟩ (by omega)).mono ?_
      rintro e w3 ⟨rfl, hb⟩
      rw [HUE.out]
      have HR3 := hide (HRU.out.below hb)
      have HO3 := hide (HOU.out.then_below hb)
      go_wp2
      refine OnToK.mk (Kept.of_below hb (fun b e => by subst e; exact hplU)) (Sub.refl _) ?_
      clear hb
      have inh : Nonempty (GrK (fun b => b = p) w3) := GrK.some _ w3
      refine wpG_lastK ?_
      repeat (go_big_quiet_step (fail))
      refine wpQuiet_nil ?_
      clear inh hwr hdc
      have HG := hide ((HR3.out.wide w).goes HO3.out HK'.out HB.out lim' hfl)
      obtain ⟨k0, _⟩ := HR3.out.look
      go_wp2
      go_ret
      exact ⟨rfl, HG.out⟩
    by_cases hbad : D.fail = 1
    · have e : Dsk.appendB n s.data.toList (Dsk.on D) = ({ Dsk.on D with fail := (Dsk.on D).fail - 1 }, 10) := by
        unfold Dsk.appendB
        rw [show Dsk.find (Dsk.dir (Dsk.on D)) n = some i from hf]
        simp only
        rw [if_neg (show ¬ (Dsk.on D).room < Dsk.used (Dsk.on D) + s.data.toList.length from hfull), if_pos (show (Dsk.on D).fail = 1 from hbad), show (Dsk.on D).fail - 1 = 0 from by rw [show (Dsk.on D).fail = 1 from hbad]]
      rw [e] at ok' bud' lim' ⊢
      rw [hu, hsl] at hfull
      rw [hu] at hub
      have HDF : Hid (decide ((Dsk.on D).fail = 1) = true) := hide (decide_eq_true hbad)
      have HH := hide H
      have HB := hide bud'
      have HF := hide hf
      have HK := hide (Dsk.on_ok ok)
      have HK' := hide ok'
      clear hu H e bud bud' hf e0 ok'
      go_enter Try.func32, Try.ntmps32
      go_wp2_with fail
      refine (rbegin_on HH.out h0 h1 h2 (by omega)).mono ?_
      rintro e w1 ⟨rfl, hr1, ho1⟩
      have HR1 := hide hr1
      have HO1 := hide ho1
      clear hr1 ho1
      go_wp2_with fail
      refine (rnumber_at HR1.out HK.out (by show D.dirs.length ≤ _; omega) (by show (Dsk.dir D).length ≤ _; omega) n).mono ?_
      rintro e w2 ⟨rfl, hb2⟩
      rw [show Dsk.find (Dsk.dir (Dsk.on D)) n = some i from HF.out, num_some]
      have HR2 := hide (HR1.out.below hb2)
      have HO2 := hide (HO1.out.then_below hb2)
      clear hb2
      have hwr : IntKind.i64.wrap ((u : Int) + (s.size : Int)) = ((u + s.size : Nat) : Int) := by rw [IntKind.wrap_i64]; omega
      have hdc : decide ((D.room : Int) < ((u + s.size : Nat) : Int)) = false := decide_eq_false (by omega)
      go_wp2_with fail
      refine wp_region_growK (fun b => b = p) [([0, 2, 3, 5, 6, 7, 8], 1)] [4, 9] [] (by kernel_rfl) (by kernel_rfl) (by kernel_rfl) (by kernel_rfl) ?_
      intro wU hbU
      simp only [stagesOfK, getLK, pickLK]
      have HRU := hide (HR2.out.below hbU)
      have HOU := hide (HO2.out.then_below hbU)
      obtain ⟨kU, _, _, _, _, _, _, hplU⟩ := HRU.out.look
      have kU : wU.cell? ⟨p, 0, none⟩ = some (.int .i64 (D.room : Int)) := kU
      have inh : Nonempty (GrK (fun b => b = p) wU) := GrK.some _ wU
      have q0 := fun x : GrK (fun b => b = p) wU => x.cell (a := ⟨p, 0, none⟩) rfl kU
      refine wpG_stageK ?_
      repeat (go_big_quiet_step (fail))
      refine wpQuiet_nil ?_
      clear q0 inh hbU
      go_wp2_with fail
      refine (rused_dk (c := c + 1) ⟨HK.out, HBO.out, HLI.out, hfl, _, _, _, _, HRU.out⟩ (by omega)).mono ?_
      rintro e w3 ⟨rfl, hb⟩
      rw [HUE.out]
      have HR3 := hide (HRU.out.below hb)
      have HO3 := hide (HOU.out.then_below hb)
      go_wp2
      refine OnToK.mk (Kept.of_below hb (fun b e => by subst e; exact hplU)) (Sub.refl _) ?_
      clear hb
      have inh : Nonempty (GrK (fun b => b = p) w3) := GrK.some _ w3
      refine wpG_lastK ?_
      repeat (go_big_quiet_step (fail))
      refine wpQuiet_nil ?_
      clear inh hwr hdc
      obtain ⟨k0, _⟩ := HR3.out.look
      go_wp2_with fail
      refine (rfails_at HR3.out (by show D.fail ≤ _; exact hfl)).mono ?_
      rintro e w4 ⟨rfl, hr3, ho3⟩
      rw [HDF.out]
      have HR4 := hide hr3
      have HO4 := hide (HO3.out.trans' ho3)
      clear hr3 ho3
      have HG := hide ((HR4.out.wide w).goes HO4.out HK'.out HB.out lim' (by show D.fail - 1 ≤ _; omega))
      go_wp2
      go_ret
      exact ⟨rfl, HG.out⟩
    · have e : Dsk.appendB n s.data.toList (Dsk.on D) = ({ Dsk.on D with fail := (Dsk.on D).fail - 1, files := (Dsk.on D).files.set i (Dsk.hist (Dsk.on D) i ++ Dsk.fronts (Dsk.now (Dsk.on D) i) s.data.toList) }, 0) := by
        unfold Dsk.appendB
        rw [show Dsk.find (Dsk.dir (Dsk.on D)) n = some i from hf]
        simp only
        rw [if_neg (show ¬ (Dsk.on D).room < Dsk.used (Dsk.on D) + s.data.toList.length from hfull), if_neg (show ¬ (Dsk.on D).fail = 1 from hbad)]
      rw [e] at ok' bud' lim' ⊢
      rw [hu, hsl] at hfull
      rw [hu] at hub
      have hnl := bud.now ok i
      have HDF : Hid (decide ((Dsk.on D).fail = 1) = false) := hide (decide_eq_false hbad)
      have HH := hide H
      have HB := hide bud'
      have HF := hide hf
      have HK := hide (Dsk.on_ok ok)
      have HK' := hide ok'
      clear hu H e bud bud' hf e0 ok'
      go_enter Try.func32, Try.ntmps32
      go_wp2_with fail
      refine (rbegin_on HH.out h0 h1 h2 (by omega)).mono ?_
      rintro e w1 ⟨rfl, hr1, ho1⟩
      have HR1 := hide hr1
      have HO1 := hide ho1
      clear hr1 ho1
      go_wp2_with fail
      refine (rnumber_at HR1.out HK.out (by show D.dirs.length ≤ _; omega) (by show (Dsk.dir D).length ≤ _; omega) n).mono ?_
      rintro e w2 ⟨rfl, hb2⟩
      rw [show Dsk.find (Dsk.dir (Dsk.on D)) n = some i from HF.out, num_some]
      have HR2 := hide (HR1.out.below hb2)
      have HO2 := hide (HO1.out.then_below hb2)
      clear hb2
      have hwr : IntKind.i64.wrap ((u : Int) + (s.size : Int)) = ((u + s.size : Nat) : Int) := by rw [IntKind.wrap_i64]; omega
      have hdc : decide ((D.room : Int) < ((u + s.size : Nat) : Int)) = false := decide_eq_false (by omega)
      go_wp2_with fail
      refine wp_region_growK (fun b => b = p) [([0, 2, 3, 5, 6, 7, 8], 1)] [4, 9] [] (by kernel_rfl) (by kernel_rfl) (by kernel_rfl) (by kernel_rfl) ?_
      intro wU hbU
      simp only [stagesOfK, getLK, pickLK]
      have HRU := hide (HR2.out.below hbU)
      have HOU := hide (HO2.out.then_below hbU)
      obtain ⟨kU, _, _, _, _, _, _, hplU⟩ := HRU.out.look
      have kU : wU.cell? ⟨p, 0, none⟩ = some (.int .i64 (D.room : Int)) := kU
      have inh : Nonempty (GrK (fun b => b = p) wU) := GrK.some _ wU
      have q0 := fun x : GrK (fun b => b = p) wU => x.cell (a := ⟨p, 0, none⟩) rfl kU
      refine wpG_stageK ?_
      repeat (go_big_quiet_step (fail))
      refine wpQuiet_nil ?_
      clear q0 inh hbU
      go_wp2_with fail
      refine (rused_dk (c := c + 1) ⟨HK.out, HBO.out, HLI.out, hfl, _, _, _, _, HRU.out⟩ (by omega)).mono ?_
      rintro e w3 ⟨rfl, hb⟩
      rw [HUE.out]
      have HR3 := hide (HRU.out.below hb)
      have HO3 := hide (HOU.out.then_below hb)
      go_wp2
      refine OnToK.mk (Kept.of_below hb (fun b e => by subst e; exact hplU)) (Sub.refl _) ?_
      clear hb
      have inh : Nonempty (GrK (fun b => b = p) w3) := GrK.some _ w3
      refine wpG_lastK ?_
      repeat (go_big_quiet_step (fail))
      refine wpQuiet_nil ?_
      clear inh hwr hdc
      obtain ⟨k0, _⟩ := HR3.out.look
      go_wp2_with fail
      refine (rfails_at HR3.out (by show D.fail ≤ _; exact hfl)).mono ?_
      rintro e w4 ⟨rfl, hr3, ho3⟩
      rw [HDF.out]
      have HR4 := hide hr3
      have HO4 := hide (HO3.out.trans' ho3)
      clear hr3 ho3
      obtain ⟨E, hE⟩ : ∃ E : Dk, { Dsk.on D with fail := (Dsk.on D).fail - 1 } = E := ⟨_, rfl⟩
      have hEl : i < E.files.length := by rw [← hE]; exact hil
      have hEk : Dsk.Ok E := by rw [← hE]; exact ⟨HK.out.rows, HK.out.some, HK.out.hists, HK.out.left⟩
      have hEf : E.files.length = D.files.length := by rw [← hE]; rfl
      have hEn : Dsk.now E i = Dsk.now D i := by rw [← hE]; rfl
      have hEh : Dsk.hist E i = Dsk.hist D i := by rw [← hE]; rfl
      have hfin : djk E i s.data.toList s.size = { Dsk.on D with fail := (Dsk.on D).fail - 1, files := (Dsk.on D).files.set i (Dsk.hist (Dsk.on D) i ++ Dsk.fronts (Dsk.now (Dsk.on D) i) s.data.toList) } := by
        rw [← hE]
        unfold djk
        rw [← hsl, List.take_length]
        rfl
      have HR4' := HR4.out
      rw [hE] at HR4'
      have h40 := djk_zero E hEl s.data.toList
      have HS0 : Hid (RefAt (more S w w4) w4 p (djk E i s.data.toList 0) (.slice (some ⟨gf, 0, none⟩) D.files.length fc) (.slice da D.dirs.length dc) fs ds) := hide (by rw [h40]; exact HR4'.wide w)
      have HEL := hide hEl
      have HEK := hide hEk
      have HEF := hide hEf
      have HEN := hide hEn
      have HEH := hide hEh
      have HFI := hide hfin
      clear HR4' h40 hfin hE hEk hEf hEn hEh hEl
      go_wp2
      go_loopw [10] (fun v10 wr => ∃ (j : Nat) (fs' : List Value), j ≤ s.size ∧ v10 = .int .i64 (j : Int) ∧ Hid (RefAt (more S w wr) wr p (djk E i s.data.toList j) (.slice (some ⟨gf, 0, none⟩) D.files.length fc) (.slice da D.dirs.length dc) fs' ds) ∧ Hid (Only S w wr)) (fun v10 _ => s.size - (intOf v10).toNat)
      case atStart => exact ⟨0, fs, Nat.zero_le _, rfl, HS0, HO4⟩
      case round =>
        obtain ⟨j, fs', hj, rfl, HR, HO⟩ := hrel
        by_cases hlt : j < s.size
        · have hjl : j < s.data.toList.length := by rw [hsl]; exact hlt
          have hdl2 : (djk E i s.data.toList j).files.length = D.files.length := by unfold djk; simp only [List.length_set]; exact HEF.out
          have hid : i < (djk E i s.data.toList j).files.length := by rw [hdl2]; exact hil
          have hhl : (Dsk.hist (djk E i s.data.toList j) i).length ≤ 1000000000 := by
            rw [djk_hist E HEL.out, List.length_append, HEH.out]
            unfold Dsk.fronts
            rw [List.length_map, List.length_range, List.length_take]
            omega
          have hbn := bs_next (Dsk.now D i) s hlt
          have hnw := djk_now E HEL.out s.data.toList j
          rw [HEN.out] at hnw
          have hnx := djk_next E HEL.out s.data.toList hjl
          rw [HEN.out] at hnx
          obtain ⟨b, hb⟩ : ∃ b, Num.bs (Dsk.now D i ++ s.data.toList.take j) = b := ⟨_, rfl⟩
          have hbs : b.size ≤ 1000000000 := by rw [← hb, Num.bs_size, List.length_append, List.length_take]; omega
          have hxs : (s.extract j (j + 1)).size ≤ 1 := by rw [ByteArray.size_extract]; omega
          rw [hb] at hbn
          have HBN := hide hbn
          have HNW : Hid (Num.bs (Dsk.now (djk E i s.data.toList j) i) = b) := hide (by rw [hnw]; exact hb)
          have HNX := hide hnx
          have HID := hide hid
          have HD2 := hide hdl2
          have HHL := hide hhl
          clear hbn hnw hnx hb hid hdl2 hhl
          go_wp2_with fail
          refine wp_region_growK (fun z => z = p ∨ z = gf) [([0, 1, 2, 3, 4, 5, 6, 7, 8, 9, 10, 11, 12, 13, 15, 16, 17, 18, 19], 14), ([20], 21), ([], 22)] [23] [24] (by kernel_rfl) (by kernel_rfl) (by kernel_rfl) (by kernel_rfl) ?_
          intro w5 hb5
          simp only [stagesOfK, getLK, pickLK]
          have HR5 := hide (HR.out.below hb5)
          have HO5 : Hid (Only (more S w wr) wr w5) := hide (Only.of_below hb5)
          obtain ⟨_, k1, _, _, _, _, _, hpl⟩ := HR5.out.look
          have hgl := HR5.out.lt gf (HR5.out.sf gf rfl)
          obtain ⟨v, hv, hvs⟩ := HR5.out.hist (i := i) HID.out
          obtain ⟨va, vc, rfl⟩ := own_slice hvs.1
          have kv : w5.cell? ⟨gf, i, none⟩ = some (.slice va (Dsk.hist (djk E i s.data.toList j) i).length vc) := by
            have := HR5.out.files.cells (g := gf) rfl i _ hv
            rw [Addr.add_lit, Nat.zero_add] at this
            exact this
          obtain ⟨H5, hH5⟩ : ∃ n, (Dsk.hist (djk E i s.data.toList j) i).length = n := ⟨_, rfl⟩
          rw [hH5] at kv hv
          clear hvs hH5
          have HV := hide hv
          clear hv
          have inh : Nonempty (GrK (fun z => z = p ∨ z = gf) w5) := GrK.some _ w5
          have q1 := fun x : GrK (fun z => z = p ∨ z = gf) w5 => x.cell (a := ⟨p, 1, none⟩) (.inl rfl) k1
          have q2 := fun x : GrK (fun z => z = p ∨ z = gf) w5 => x.cell (a := ⟨gf, i, none⟩) (.inr rfl) kv
          refine wpG_stageK ?_
          repeat (go_big_quiet_step (fail))
          refine wpQuiet_nil ?_
          clear q1 q2 inh hb5
          go_wp2_with fail
          refine (rnow_at HR5.out (djk_ok HEK.out HEL.out _ _) (i := i) HID.out (by rw [HD2.out]; omega) (by have := HHL.out; omega)).mono ?_
          rintro e w6 ⟨rfl, hb⟩
          rw [HNW.out]
          have HR6 := hide (HR5.out.below hb)
          have HO6 := hide (HO5.out.then_below hb)
          go_wp2
          refine OnToK.mk (Kept.of_below hb (fun z e => by rcases e with rfl | rfl; exact hpl; exact hgl)) (Sub.refl _) ?_
          have hpl6 := Nat.lt_of_lt_of_le hpl hb.size
          have hgl6 := Nat.lt_of_lt_of_le hgl hb.size
          clear hb
          have inh : Nonempty (GrK (fun z => z = p ∨ z = gf) w6) := GrK.some _ w6
          refine wpG_stageK ?_
          repeat (go_big_quiet_step (fail))
          refine wpQuiet_nil ?_
          clear inh
          go_wp2
          refine OnToK.mk (Kept.of_below ((Below.refl _ w6).alloc (Nat.le_refl _) _) (fun z e => by rcases e with rfl | rfl; exact hpl6; exact hgl6)) (Sub.refl _) ?_
          obtain ⟨ea, N, ec, w7, hr7, k7, c7, f7, kp7, h7, o7⟩ := RefAt.appRow (D := djk E i s.data.toList j) (L := D.files.length) HD2.out.symm HR6.out HO6.out HR.out.lt (n := i) HID.out HV.out (Dsk.now D i ++ s.data.toList.take (j + 1)) HBN.out (by have := HHL.out; omega) 91
          rw [HNX.out] at h7
          have HR7 := hide hr7
          have HO8 := hide (HO.out.trans o7)
          have HR8 := hide (h7.mono (fun z hz => more_trans HO.out.size o7.size hz) (fun z hz => by
            rcases hz with x | x
            · have := HH.out.lt z x; have := HO.out.size; have := o7.size; omega
            · exact x.2))
          clear hr7 h7 o7
          refine wpG_stageK (wpQuiet_nil ?_)
          go_wp2_with (at_builtin; refine wpList_app_run rfl _ _ _ _ rfl rfl rfl HR7.out ?_)
          refine OnToK.mk kp7 (Sub.refl _) ?_
          have inh : Nonempty (GrK (fun z => z = p ∨ z = gf) w7) := GrK.some _ w7
          refine wpG_lastK ?_
          repeat (go_big_quiet_step (fail))
          refine wpQuiet_nil ?_
          clear inh kp7
          obtain ⟨w8, hw8⟩ : ∃ W, w7.setCell ⟨gf, i, none⟩ (.slice ea N ec) = W := ⟨_, rfl⟩
          rw [hw8] at HR8 HO8
          go_wp2
          go_roundw
          case rel => exact ⟨j + 1, _, by omega, by go_num, HR8, HO8⟩
          case measure => simp [intOf]; omega
        · obtain rfl : j = s.size := by omega
          have hr := HR.out
          rw [HFI.out] at hr
          have HG := hide (hr.goes HO.out HK'.out HB.out lim' (by show D.fail - 1 ≤ _; omega))
          clear hr
          go_wp2
          go_ret
          exact ⟨rfl, HG.out⟩

end Go.Proofs.Ytpbiongoigbmpaa
