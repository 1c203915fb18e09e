/-
  The document's operations: Remove, Rename, SyncDir, Create, Cut, Sync, Append.
-/
import Derived.Test.YtpbiongoigbmpaaGreatRefRowW
import Derived.Test.YtpbiongoigbmpaaGreatGrowK
namespace Go.Proofs.YtpbiongoigbmpaaGreat
open Go.RowKit
open Dsk (By Dk)

structure RGoes (S : Nat → Prop) (w w' : World) (p : Nat) (D : Dk) (c : Nat) : Prop where
  ref : IsRef (more S w w') w' p D c
  only : Only S w w'
theorem IsRef.widen {S T : Nat → Prop} {w : World} {p : Nat} {D : Dk} {c : Nat} (h : IsRef S w p D c) (k : ∀ b, S b → T b) (hl : ∀ b, T b → b < w.heap.size) : IsRef T w p D c := by
  obtain ⟨a, b, l, f, fv, dv, fs, ds, H⟩ := h
  exact ⟨a, b, l, f, fv, dv, fs, ds, H.mono k hl⟩
theorem RefAt.goes {S : Nat → Prop} {w w' : World} {p : Nat} {D : Dk} {fv dv : Value} {fs ds : List Value} {c : Nat} (H : RefAt (more S w w') w' p D fv dv fs ds) (ho : Only S w w') (ok : Dsk.Ok D) (bud : Dsk.Bud D c) (lim : Lim D) (hf : D.fail ≤ 9223372036854775807) : RGoes S w w' p D c := ⟨⟨ok, bud, lim, hf, fv, dv, fs, ds, H⟩, ho⟩
theorem more_sub {S : Nat → Prop} {w w1 w2 w' : World} (h1 : w.heap.size ≤ w1.heap.size) (h2 : w2.heap.size ≤ w'.heap.size) {b : Nat} (h : more S w1 w2 b) : more S w w' b := by
  rcases h with h | h
  · exact .inl h
  · exact .inr (by omega)
/-- A row of names that is new, behind w. -/
theorem dir_add {S : Nat → Prop} {w w6 : World} {p : Nat} {D : Dk} {fv dv : Value} {fs ds : List Value} (H : RefAt S w6 p D fv dv fs ds) (ho : Only S w w6) (hSw : ∀ b, S b → b < w.heap.size) {v : Value} {r : Dsk.Row} {base : Nat} (hv : w6.ownsRow base 79 2 v r.length (nmdV r)) (hbs : w.heap.size ≤ base) (hl : D.dirs.length ≤ 1000000000000) (ty : TypeId) :
    ∃ (ea : Option Addr) (N ec : Nat) (w' : World), (Builtin.append_ #[58, 58] ty #[dv, .slice (some ⟨w6.heap.size, 0, none⟩) 1 1]).run Tryz.prog (w6.alloc (.cells #[v] 77)) = .ok (.slice ea N ec) w' ∧
      w'.cell? ⟨p, 2, none⟩ = some dv ∧ (∀ j, w'.frozen? ⟨p, j, none⟩ = false) ∧ Kept (fun b => b = p) (w6.alloc (.cells #[v] 77)) w' ∧ RefAt (more S w (w'.setCell ⟨p, 2, none⟩ (.slice ea N ec))) (w'.setCell ⟨p, 2, none⟩ (.slice ea N ec)) p { D with dirs := D.dirs ++ [r] } fv (.slice ea N ec) fs (ds ++ [v]) ∧ Only S w (w'.setCell ⟨p, 2, none⟩ (.slice ea N ec)) := by
  have hT : ∀ b, more S w w6 b → b < w6.heap.size := fun b hb => by
    rcases hb with hb | hb
    · have := hSw b hb; have := ho.size; omega
    · exact hb.2
  have hnv : NmdAt (more S w w6) w6 v r := ⟨own_base hv, fun g e => .inr ⟨by have := (hv.lt g e).1; omega, (hv.lt g e).2⟩⟩
  obtain ⟨dv', w', hr, h1, h2, hkp, h3, h4⟩ := H.addDir (T := more S w w6) (fun _ x => .inl x) hT hnv hl ty
  obtain ⟨ea, ec, rfl⟩ := own_slice h3.dirs
  obtain ⟨N, hN⟩ : ∃ N, ({ D with dirs := D.dirs ++ [r] } : Dk).dirs.length = N := ⟨_, rfl⟩
  rw [hN] at hr h3 h4
  have hz : (w'.setCell ⟨p, 2, none⟩ (.slice ea N ec)).heap.size = w'.heap.size := by simp [World.setCell]
  refine ⟨ea, N, ec, w', hr, h1, h2, hkp, h3.mono (fun b hb => ?_) (fun b hb => ?_), ho.trans' h4⟩
  · have := h4.size
    rw [hz] at this
    rcases hb with (hb | hb) | hb
    · exact .inl hb
    · exact .inr (by omega)
    · have := ho.size; exact .inr (by omega)
  · rcases hb with hb | hb
    · have := hSw b hb; have := ho.size; have := h4.size; omega
    · exact hb.2
theorem fail_on {D : Dk} (f : Dk → Dk × Int) (h : (Dsk.act D f).1.fail ≤ 9223372036854775807) : (Dsk.act D f).1.fail ≤ 9223372036854775807 := h
set_option maxRecDepth 100000 in
set_option maxHeartbeats 600000 in
theorem rremove_dk {S : Nat → Prop} {w : World} {p : Nat} {D : Dk} {c : Nat} (H : IsRef S w p D c) (n : ByteArray) (hc : c + 1 ≤ 10000000) :
    Calls Tryz.prog 37 #[.pointer (some ⟨p, 0, none⟩), .string n] w fun e w' => e = .returned (.int .i64 (Dsk.remove n D).2) ∧ RGoes S w w' p (Dsk.remove n D).1 (c + 1) := by
  obtain ⟨ok, bud, lim, hfl, fv, dv, fs, ds, H⟩ := H
  obtain ⟨da, dc, rfl⟩ := own_slice H.dirs
  have ok' := Dsk.remove_ok n ok
  have bud' := Dsk.bud_remove n bud ok
  have lim' := lim_remove n lim
  have h1 := ok.left
  have h2 := lim.left
  have h3 := bud.ops
  have hdl := bud.dirs
  have hrl := bud.rows _ (Dsk.dir_mem ok.some)
  by_cases h0 : D.left = 0
  · have e : Dsk.remove n D = (D, 11) := act_dead h0 _
    rw [e] at ok' bud' lim' ⊢
    have HH := hide H
    have HB := hide bud'
    clear H e bud bud'
    go_enter Tryz.func37, Tryz.ntmps37
    go_wp2_with fail
    refine (rbegin_dead HH.out h0).mono ?_
    rintro e w1 ⟨rfl, hw⟩
    rw [hw]
    go_wp2
    go_ret
    exact ⟨rfl, (HH.out.wide w).goes (Only.refl _ _) ok' HB.out lim' hfl⟩
  have e0 : Dsk.remove n D = Dsk.removeB n (Dsk.on D) := by unfold Dsk.remove Dsk.act; rw [if_neg h0]
  rw [e0] at ok' bud' lim' ⊢
  cases hf : Dsk.find (Dsk.dir D) n with
  | none =>
    have e : Dsk.removeB n (Dsk.on D) = (Dsk.on D, 5) := by unfold Dsk.removeB; rw [show Dsk.find (Dsk.dir (Dsk.on D)) n = none from hf]
    rw [e] at ok' bud' lim' ⊢
    have HH := hide H
    have HB := hide bud'
    have HF := hide hf
    have HK := hide ok'
    clear H e bud bud' hf e0 ok'
    go_enter Tryz.func37, Tryz.ntmps37
    go_wp2_with fail
    refine (rbegin_on HH.out h0 h1 h2 (by omega)).mono ?_
    rintro e w1 ⟨rfl, hr1, ho1⟩
    have HR1 := hide hr1
    have HO1 := hide ho1
    clear hr1 ho1
    go_wp2_with fail
    refine (rnumber_at HR1.out HK.out (by show D.dirs.length ≤ _; omega) (by show (Dsk.dir D).length ≤ _; omega) n).mono ?_
    rintro e w2 ⟨rfl, hb2⟩
    rw [show Dsk.find (Dsk.dir (Dsk.on D)) n = none from HF.out]
    have hnn : numV none < 0 := by decide
    have HG := hide (((HR1.out.below hb2).wide w).goes (HO1.out.then_below hb2) HK.out HB.out lim' hfl)
    clear hb2
    go_wp2
    go_ret
    exact ⟨rfl, HG.out⟩
  | some i =>
    have e : Dsk.removeB n (Dsk.on D) = ({ Dsk.on D with dirs := (Dsk.on D).dirs ++ [Dsk.without (Dsk.dir (Dsk.on D)) n] }, 0) := by unfold Dsk.removeB; rw [show Dsk.find (Dsk.dir (Dsk.on D)) n = some i from hf]
    rw [e] at ok' bud' lim' ⊢
    have HH := hide H
    have HB := hide bud'
    have HF := hide hf
    have HK := hide (Dsk.on_ok ok)
    have HK' := hide ok'
    clear H e bud bud' hf e0 ok'
    go_enter Tryz.func37, Tryz.ntmps37
    go_wp2_with fail
    refine (rbegin_on HH.out h0 h1 h2 (by omega)).mono ?_
    rintro e w1 ⟨rfl, hr1, ho1⟩
    have HR1 := hide hr1
    have HO1 := hide ho1
    clear hr1 ho1
    go_wp2_with fail
    refine (rnumber_at HR1.out HK.out (by show D.dirs.length ≤ _; omega) (by show (Dsk.dir D).length ≤ _; omega) n).mono ?_
    rintro e w2 ⟨rfl, hb2⟩
    rw [show Dsk.find (Dsk.dir (Dsk.on D)) n = some i from HF.out, num_some]
    have HR2 := hide (HR1.out.below hb2)
    have HO2 := hide (HO1.out.then_below hb2)
    clear hb2
    go_wp2_with fail
    refine wp_region_growK (fun b => b = p) [([0, 1, 2, 3, 4, 5, 7], 6), ([], 8), ([], 9), ([], 10)] [11, 12] [13] (by kernel_rfl) (by kernel_rfl) (by kernel_rfl) (by kernel_rfl) ?_
    intro w4 hb4
    simp only [stagesOfK, getLK, pickLK]
    have HR4 := hide (HR2.out.below hb4)
    have HO4 := hide (HO2.out.then_below hb4)
    obtain ⟨_, _, k2, _, _, _, _, hpl⟩ := HR4.out.look
    have inh : Nonempty (GrK (fun b => b = p) w4) := GrK.some _ w4
    have q2 := fun x : GrK (fun b => b = p) w4 => x.cell (a := ⟨p, 2, none⟩) rfl k2
    refine wpG_stageK ?_
    repeat (go_big_quiet_step (fail))
    refine wpQuiet_nil ?_
    clear q2 inh hb4
    go_wp2_with fail
    refine (rdir_at HR4.out HK.out (by show D.dirs.length ≤ _; omega)).mono ?_
    rintro e w5 ⟨v, rfl, hv, _, hb5⟩
    have HR5 := hide (HR4.out.below hb5)
    have HO5 := hide (HO4.out.then_below hb5)
    have hv5 := hv.keep (T := S) (w' := w5) (fun _ x => x) (fun g e => hb5.block g (HR4.out.lt g (hv.2 g e)))
    obtain ⟨va, vc, rfl⟩ := own_slice hv.1
    go_wp2
    refine OnToK.mk (Kept.of_below hb5 (fun b e => by subst e; exact hpl)) (Sub.refl _) ?_
    have hpl5 := Nat.lt_of_lt_of_le hpl hb5.size
    clear hb5 hv
    refine wpG_stageK (wpQuiet_nil ?_)
    go_wp2_with fail
    refine (rwithout_at hv5.1 (by show (Dsk.dir D).length ≤ _; omega) n).mono ?_
    rintro e w6 ⟨v', rfl, hv', hb6⟩
    have HR6 := hide (HR5.out.below hb6)
    have HO6 := hide (HO5.out.then_below hb6)
    have HV6 := hide hv'
    obtain ⟨xa, xc, rfl⟩ := own_slice hv'
    go_wp2
    refine OnToK.mk (Kept.of_below hb6 (fun b e => by subst e; exact hpl5)) (Sub.refl _) ?_
    have hpl6 := Nat.lt_of_lt_of_le hpl5 hb6.size
    clear hb6 hv' hv5
    refine wpG_stageK (wpQuiet_nil ?_)
    go_wp2
    refine OnToK.mk (Kept.of_below ((Below.refl _ w6).alloc (Nat.le_refl _) _) (fun b e => by subst e; exact hpl6)) (Sub.refl _) ?_
    obtain ⟨ea, N, ec, w7, hr7, k7, f7, kp7, h7, o7⟩ := dir_add HR6.out HO6.out HH.out.lt HV6.out HO5.out.size (by show D.dirs.length ≤ _; omega) 58
    have HRR := hide hr7
    have HG := hide (h7.goes o7 HK'.out HB.out lim' hfl)
    clear hr7 h7 o7
    refine wpG_stageK (wpQuiet_nil ?_)
    go_wp2_with (at_builtin; refine wpList_app_run rfl _ _ _ _ rfl rfl rfl HRR.out ?_)
    refine OnToK.mk kp7 (Sub.refl _) ?_
    have inh : Nonempty (GrK (fun b => b = p) w7) := GrK.some _ w7
    refine wpG_lastK ?_
    repeat (go_big_quiet_step (fail))
    refine wpQuiet_nil ?_
    clear inh kp7
    go_wp2
    go_ret
    exact ⟨rfl, HG.out⟩

theorem more_set {S : Nat → Prop} {w w1 w5 : World} {p : Nat} {o : Obj} {v : Value} (h1 : w.heap.size ≤ w1.heap.size) (h2 : w1.heap.size ≤ w5.heap.size) {b : Nat} (h : more S w5 (w5.alloc o) b) : more S w ((w5.alloc o).setCell ⟨p, 2, none⟩ v) b := by
  rcases h with h | h
  · exact .inl h
  · refine .inr ⟨by omega, ?_⟩
    have := h.2
    simpa [World.setCell] using this
/-- One row of names alone. -/
theorem RefAt.oneDir {S : Nat → Prop} {w : World} {p : Nat} {D : Dk} {fv dv : Value} {fs ds : List Value} (H : RefAt S w p D fv dv fs ds) {v : Value} {r : Dsk.Row} (hv : NmdAt S w v r) :
    RefAt (more S w (w.alloc (.cells #[v] 77))) ((w.alloc (.cells #[v] 77)).setCell ⟨p, 2, none⟩ (.slice (some ⟨w.heap.size, 0, none⟩) 1 1)) p { D with dirs := [r] } fv (.slice (some ⟨w.heap.size, 0, none⟩) 1 1) fs [v] ∧
      Only S w ((w.alloc (.cells #[v] 77)).setCell ⟨p, 2, none⟩ (.slice (some ⟨w.heap.size, 0, none⟩) 1 1)) := by
  have hpl := H.lt p H.sp
  have keep1 : ∀ b, b < w.heap.size → (w.alloc (.cells #[v] 77)).heap[b]? = w.heap[b]? := fun b hb => Below.heap_alloc _ _ b hb
  have hblk := (keep1 p hpl).trans H.blk
  have keepK : ∀ {b : Nat} {c : Array Value} {u : TypeId}, w.heap[b]? = some (.cells c u (0, 0)) → u ≠ 61 → ((w.alloc (.cells #[v] 77)).setCell ⟨p, 2, none⟩ (.slice (some ⟨w.heap.size, 0, none⟩) 1 1)).heap[b]? = w.heap[b]? := fun {b c u} hc h1 => by
    rw [Below.heap_setCell _ _ _ _ (kind_ne hc H.blk h1)]
    exact keep1 b (Array.getElem?_eq_some_iff.1 hc).1
  refine ⟨⟨heap_setCell_same _ p 2 _ _ _ hblk, own_keep H.files (fun g e => by obtain ⟨c, hc⟩ := own_kind H.files e; exact keepK hc (by decide)), ?_, fun i hi => ?_, fun i hi => ?_, H.apart, .inl H.sp, fun g e => .inl (H.sf g e), fun g e => ?_, fun b hb => ?_⟩, ?_⟩
  · refine own_one ?_
    rw [Below.heap_setCell _ _ _ _ (by show w.heap.size ≠ p; omega)]
    exact heap_new _ _
  · obtain ⟨u, h1, h2⟩ := H.file i hi
    exact ⟨u, h1, h2.keep (fun g x => .inl x) (fun g e => by obtain ⟨c, hc⟩ := own_kind h2.1 e; exact keepK hc (by decide))⟩
  · have hi : i = 0 := by simpa using hi
    subst hi
    exact ⟨v, rfl, hv.keep (fun g x => .inl x) (fun g e => by obtain ⟨c, hc⟩ := own_kind hv.1 e; exact keepK hc (by decide))⟩
  · have e : some w.heap.size = some g := e
    cases e
    exact .inr (by simp)
  · have : b < w.heap.size + 1 := by
      rcases hb with hb | hb
      · have := H.lt b hb; omega
      · have := hb.2; simpa using this
    simpa [World.setCell] using this
  · exact (Only.of_below ((Below.refl _ w).alloc (Nat.le_refl _) _)).setCell (p := ⟨p, 2, none⟩) H.sp _
set_option maxRecDepth 100000 in
set_option maxHeartbeats 600000 in
theorem rsyncDir_dk {S : Nat → Prop} {w : World} {p : Nat} {D : Dk} {c : Nat} (H : IsRef S w p D c) (hc : c + 1 ≤ 10000000) :
    Calls Tryz.prog 38 #[.pointer (some ⟨p, 0, none⟩)] w fun e w' => e = .returned (.int .i64 (Dsk.syncDir D).2) ∧ RGoes S w w' p (Dsk.syncDir D).1 (c + 1) := by
  obtain ⟨ok, bud, lim, hfl, fv, dv, fs, ds, H⟩ := H
  obtain ⟨da, dc, rfl⟩ := own_slice H.dirs
  have ok' := Dsk.syncDir_ok ok
  have bud' := Dsk.bud_syncDir bud ok
  have lim' := lim_syncDir lim
  have h1 := ok.left
  have h2 := lim.left
  have h3 := bud.ops
  have hdl := bud.dirs
  have hrl := bud.rows _ (Dsk.dir_mem ok.some)
  by_cases h0 : D.left = 0
  · have e : Dsk.syncDir D = (D, 11) := act_dead h0 _
    rw [e] at ok' bud' lim' ⊢
    have HH := hide H
    have HB := hide bud'
    clear H e bud bud'
    go_enter Tryz.func38, Tryz.ntmps38
    go_wp2_with fail
    refine (rbegin_dead HH.out h0).mono ?_
    rintro e w1 ⟨rfl, hw⟩
    rw [hw]
    go_wp2
    go_ret
    exact ⟨rfl, ((HH.out.wide w).goes (Only.refl _ _) ok' HB.out lim' hfl)⟩
  have e0 : Dsk.syncDir D = Dsk.syncDirB (Dsk.on D) := by unfold Dsk.syncDir Dsk.act; rw [if_neg h0]
  rw [e0] at ok' bud' lim' ⊢
  have e : Dsk.syncDirB (Dsk.on D) = ({ Dsk.on D with dirs := [Dsk.dir (Dsk.on D)] }, 0) := rfl
  rw [e] at ok' bud' lim' ⊢
  have HH := hide H
  have HB := hide bud'
  have HK := hide (Dsk.on_ok ok)
  have HK' := hide ok'
  clear H e bud bud' e0 ok'
  go_enter Tryz.func38, Tryz.ntmps38
  go_wp2_with fail
  refine (rbegin_on HH.out h0 h1 h2 (by omega)).mono ?_
  rintro e w1 ⟨rfl, hr1, ho1⟩
  have HR1 := hide hr1
  have HO1 := hide ho1
  clear hr1 ho1
  go_wp2_with fail
  refine (rdir_at HR1.out HK.out (by show D.dirs.length ≤ _; omega)).mono ?_
  rintro e w5 ⟨v, rfl, hv, _, hb5⟩
  have hv5 := hv.keep (T := S) (w' := w5) (fun _ x => x) (fun g e => hb5.block g (HR1.out.lt g (hv.2 g e)))
  have h5 := HR1.out.below hb5
  obtain ⟨r6, o6⟩ := h5.oneDir hv5
  obtain ⟨_, _, k2, _, _, _, kf, hpl⟩ := h5.look
  have k3 : ∀ o, (w5.alloc o).cell? ⟨p, 2, none⟩ = some (.slice da D.dirs.length dc) := fun o => ((Below.refl _ w5).alloc (Nat.le_refl _) o |>.cell (p := ⟨p, 2, none⟩) hpl).trans k2
  have k4 : ∀ o j, (w5.alloc o).frozen? ⟨p, j, none⟩ = false := fun o j => ((Below.refl _ w5).alloc (Nat.le_refl _) o |>.frozen (p := ⟨p, j, none⟩) hpl).trans (kf j)
  have HG := hide (RGoes.mk ⟨HK'.out, HB.out, lim', hfl, _, _, _, _, r6.mono (fun b hb => more_set HO1.out.size hb5.size hb) (fun b hb => by
    rcases hb with x | x
    · have := HH.out.lt b x; have := HO1.out.size; have := hb5.size; have := o6.size; omega
    · exact x.2)⟩ ((HO1.out.then_below hb5).trans' o6))
  obtain ⟨va, vc, rfl⟩ := own_slice hv.1
  have k5 := k3 (.cells #[.slice va (Dsk.dir (Dsk.on D)).length vc] 77)
  have k6 := k4 (.cells #[.slice va (Dsk.dir (Dsk.on D)).length vc] 77)
  obtain ⟨w6, hw6⟩ : ∃ w6, w5.alloc (.cells #[.slice va (Dsk.dir (Dsk.on D)).length vc] 77) = w6 := ⟨_, rfl⟩
  rw [hw6] at HG k5 k6
  clear hv hb5 hv5 h5 r6 o6 k3 k4
  go_wp2
  go_ret
  exact ⟨rfl, HG.out⟩

end Go.Proofs.YtpbiongoigbmpaaGreat
