/-
  The document's Create.
-/
import Derived.Test.YtpbiongoigbmpaaGreatRefRenW
namespace Go.Proofs.YtpbiongoigbmpaaGreat
open Go.RowKit
open Dsk (By Dk)

/-- A file that is new, behind w. -/
theorem file_add {S : Nat → Prop} {w w6 : World} {p : Nat} {D : Dk} {fv dv : Value} {fs ds : List Value} (H : RefAt S w6 p D fv dv fs ds) (ho : Only S w w6) (hSw : ∀ b, S b → b < w.heap.size) {g : Nat} {x : Value} (hgb : w.heap.size ≤ g) {b : By} (hx : x = .string (Num.bs b)) (hg : w6.heap[g]? = some (.cells #[x] 9 (0, 0))) (hl : D.files.length ≤ 1000000000000) (ty : TypeId) :
    ∃ (ea : Option Addr) (N ec : Nat) (w' : World), N = D.files.length + 1 ∧ (Builtin.append_ #[59, 59] ty #[fv, .slice (some ⟨w6.heap.size, 0, none⟩) 1 1]).run Tryz.prog (w6.alloc (.cells #[.slice (some ⟨g, 0, none⟩) 1 1] 42)) = .ok (.slice ea N ec) w' ∧
      w'.cell? ⟨p, 1, none⟩ = some fv ∧ (∀ j, w'.frozen? ⟨p, j, none⟩ = false) ∧ Kept (fun b => b = p) (w6.alloc (.cells #[.slice (some ⟨g, 0, none⟩) 1 1] 42)) w' ∧ RefAt (more S w (w'.setCell ⟨p, 1, none⟩ (.slice ea N ec))) (w'.setCell ⟨p, 1, none⟩ (.slice ea N ec)) p { D with files := D.files ++ [[b]] } (.slice ea N ec) dv (fs ++ [.slice (some ⟨g, 0, none⟩) 1 1]) ds ∧ Only S w (w'.setCell ⟨p, 1, none⟩ (.slice ea N ec)) := by
  have hT : ∀ b, more S w w6 b → b < w6.heap.size := fun b hb => by
    rcases hb with hb | hb
    · have := hSw b hb; have := ho.size; omega
    · exact hb.2
  have hgl : g < w6.heap.size := (Array.getElem?_eq_some_iff.1 hg).1
  have hnv : StrAt (more S w w6) w6 (.slice (some ⟨g, 0, none⟩) 1 1) [b] := ⟨by show w6.ownsRow 0 _ 1 _ 1 [.string (Num.bs b)]; rw [← hx]; exact own_one hg, fun k e => by cases e; exact .inr ⟨hgb, hgl⟩⟩
  obtain ⟨fv', w', hr, h1, h2, hkp, h3, h4⟩ := H.addFile (T := more S w w6) (fun _ x => .inl x) hT hnv (fun k e hk => by have e : some g = some k := e; cases e; have := hSw _ hk; omega) hl ty
  obtain ⟨ea, ec, rfl⟩ := own_slice h3.files
  obtain ⟨N, hN⟩ : ∃ N, ({ D with files := D.files ++ [[b]] } : Dk).files.length = N := ⟨_, rfl⟩
  rw [hN] at hr h3 h4
  have hz : (w'.setCell ⟨p, 1, none⟩ (.slice ea N ec)).heap.size = w'.heap.size := by simp [World.setCell]
  refine ⟨ea, N, ec, w', by rw [← hN]; simp, hr, h1, h2, hkp, h3.mono (fun b hb => ?_) (fun b hb => ?_), ho.trans' h4⟩
  · have := h4.size
    rw [hz] at this
    rcases hb with (hb | hb) | hb
    · exact .inl hb
    · exact .inr (by omega)
    · have := ho.size; exact .inr (by omega)
  · rcases hb with hb | hb
    · have := hSw b hb; have := ho.size; have := h4.size; omega
    · exact hb.2
theorem ok_addFile {D : Dk} (h : Dsk.Ok D) : Dsk.Ok { D with files := D.files ++ [[[]]] } :=
  ⟨fun r hr => (h.rows r hr).mono (by simp), h.some, fun x hx => by
    rcases List.mem_append.1 hx with hx | hx
    · exact h.hists x hx
    · simp at hx; subst hx; simp, h.left⟩
set_option maxRecDepth 100000 in
set_option maxHeartbeats 600000 in
theorem rcreate_dk {S : Nat → Prop} {w : World} {p : Nat} {D : Dk} {c : Nat} (H : IsRef S w p D c) (n : ByteArray) (hn : n.size ≤ 9223372036854775807) (hc : c + 1 ≤ 10000000) :
    Calls Tryz.prog 29 #[.pointer (some ⟨p, 0, none⟩), .string n] w fun e w' => e = .returned (.int .i64 (Dsk.create n D).2) ∧ RGoes S w w' p (Dsk.create n D).1 (c + 1) := by
  obtain ⟨ok, bud, lim, hfl, fv, dv, fs, ds, H⟩ := H
  obtain ⟨da, dc, rfl⟩ := own_slice H.dirs
  obtain ⟨fa, fc, rfl⟩ := own_slice H.files
  have ok' := Dsk.create_ok n ok
  have bud' := Dsk.bud_create n bud ok
  have lim' := lim_create n lim
  have h1 := ok.left
  have h2 := lim.left
  have h3 := bud.ops
  have hdl := bud.dirs
  have hrl := bud.rows _ (Dsk.dir_mem ok.some)
  have hfil := bud.files
  by_cases h0 : D.left = 0
  · have e : Dsk.create n D = (D, 11) := act_dead h0 _
    rw [e] at ok' bud' lim' ⊢
    have HH := hide H
    have HB := hide bud'
    clear H e bud bud'
    go_enter Tryz.func29, Tryz.ntmps29
    go_wp2_with fail
    refine (rbegin_dead HH.out h0).mono ?_
    rintro e w1 ⟨rfl, hw⟩
    rw [hw]
    go_wp2
    go_ret
    exact ⟨rfl, ((HH.out.wide w).goes (Only.refl _ _) ok' HB.out lim' hfl)⟩
  have e0 : Dsk.create n D = Dsk.createB n (Dsk.on D) := by unfold Dsk.create Dsk.act; rw [if_neg h0]
  rw [e0] at ok' bud' lim' ⊢
  have hnm := rname_any n
  cases hnam : Dsk.isName n with
  | false =>
    have e : Dsk.createB n (Dsk.on D) = (Dsk.on D, 3) := by unfold Dsk.createB; rw [if_pos hnam]
    rw [e] at ok' bud' lim' ⊢
    have HH := hide H
    have HB := hide bud'
    have HK := hide ok'
    have HNM := hide hnm
    have HNA := hide hnam
    clear H e bud bud' e0 ok' hnm hnam
    go_enter Tryz.func29, Tryz.ntmps29
    go_wp2_with fail
    refine (rbegin_on HH.out h0 h1 h2 (by omega)).mono ?_
    rintro e w1 ⟨rfl, hr1, ho1⟩
    have HR1 := hide hr1
    have HO1 := hide ho1
    clear hr1 ho1
    go_wp2_with fail
    refine (HNM.out w1 hn).mono ?_
    rintro e w2 ⟨rfl, hb2⟩
    rw [HNA.out]
    have HR2 := hide (HR1.out.below hb2)
    have HO2 := hide (HO1.out.then_below hb2)
    clear hb2
    have HG := hide ((HR2.out.wide w).goes HO2.out HK.out HB.out lim' hfl)
    go_wp2
    go_ret
    exact ⟨rfl, HG.out⟩
  | true =>
    cases hf : Dsk.find (Dsk.dir D) n with
    | some i =>
      have e : Dsk.createB n (Dsk.on D) = (Dsk.on D, 4) := by unfold Dsk.createB; rw [if_neg (by rw [hnam]; simp), show Dsk.find (Dsk.dir (Dsk.on D)) n = some i from hf]
      rw [e] at ok' bud' lim' ⊢
      have HH := hide H
      have HB := hide bud'
      have HK := hide ok'
      have HNM := hide hnm
      have HNA := hide hnam
      have HF := hide hf
      clear H e bud bud' e0 ok' hnm hnam hf
      go_enter Tryz.func29, Tryz.ntmps29
      go_wp2_with fail
      refine (rbegin_on HH.out h0 h1 h2 (by omega)).mono ?_
      rintro e w1 ⟨rfl, hr1, ho1⟩
      have HR1 := hide hr1
      have HO1 := hide ho1
      clear hr1 ho1
      go_wp2_with fail
      refine (HNM.out w1 hn).mono ?_
      rintro e w2 ⟨rfl, hb2⟩
      rw [HNA.out]
      have HR2 := hide (HR1.out.below hb2)
      have HO2 := hide (HO1.out.then_below hb2)
      clear hb2
      go_wp2_with fail
      refine (rnumber_at HR2.out HK.out (by show D.dirs.length ≤ _; omega) (by show (Dsk.dir D).length ≤ _; omega) n).mono ?_
      rintro e w3 ⟨rfl, hb3⟩
      rw [show Dsk.find (Dsk.dir (Dsk.on D)) n = some i from HF.out, num_some]
      have HG := hide (((HR2.out.below hb3).wide w).goes (HO2.out.then_below hb3) HK.out HB.out lim' hfl)
      clear hb3
      go_wp2
      go_ret
      exact ⟨rfl, HG.out⟩
    | none =>
      have e : Dsk.createB n (Dsk.on D) = ({ Dsk.on D with files := (Dsk.on D).files ++ [[[]]], dirs := (Dsk.on D).dirs ++ [Dsk.without (Dsk.dir (Dsk.on D)) n ++ [(n, (Dsk.on D).files.length)]] }, 0) := by unfold Dsk.createB; rw [if_neg (by rw [hnam]; simp), show Dsk.find (Dsk.dir (Dsk.on D)) n = none from hf]
      rw [e] at ok' bud' lim' ⊢
      have HH := hide H
      have HB := hide bud'
      have HK := hide (Dsk.on_ok ok)
      have HK' := hide ok'
      have HNM := hide hnm
      have HNA := hide hnam
      have HF := hide hf
      clear H e bud bud' e0 ok' hnm hnam hf
      go_enter Tryz.func29, Tryz.ntmps29
      go_wp2_with fail
      refine (rbegin_on HH.out h0 h1 h2 (by omega)).mono ?_
      rintro e w1 ⟨rfl, hr1, ho1⟩
      have HR1 := hide hr1
      have HO1 := hide ho1
      clear hr1 ho1
      go_wp2_with fail
      refine (HNM.out w1 hn).mono ?_
      rintro e w2 ⟨rfl, hb2⟩
      rw [HNA.out]
      have HR2 := hide (HR1.out.below hb2)
      have HO2 := hide (HO1.out.then_below hb2)
      clear hb2
      go_wp2_with fail
      refine (rnumber_at HR2.out HK.out (by show D.dirs.length ≤ _; omega) (by show (Dsk.dir D).length ≤ _; omega) n).mono ?_
      rintro e w3 ⟨rfl, hb3⟩
      rw [show Dsk.find (Dsk.dir (Dsk.on D)) n = none from HF.out]
      have hnn : numV none < 0 := by decide
      have HR3 := hide (HR2.out.below hb3)
      have HO3 := hide (HO2.out.then_below hb3)
      clear hb3
      have hk3 := HR3.out.look
      obtain ⟨_, k1, _, _, _, _, kf3, hpl3⟩ := hk3
      have HLs := hide HH.out.lt
      have b34 : Below w3.heap.size w3 (w3.alloc (.cells #[.string ⟨#[]⟩] 9)) := (Below.refl _ w3).alloc (Nat.le_refl _) _
      have hg34 := heap_new w3 (.cells #[.string ⟨#[]⟩] 9)
      have HR34 := hide (HR3.out.below b34)
      have HO34 := hide (HO3.out.then_below b34)
      obtain ⟨w34, hw34⟩ : ∃ W, w3.alloc (.cells #[.string ⟨#[]⟩] 9) = W := ⟨_, rfl⟩
      rw [hw34] at HR34 HO34 hg34
      obtain ⟨fa7, N, fc7, wC, hN, hrC, kC, fC, _, hC, oC⟩ := file_add HR34.out HO34.out HLs.out HO3.out.size (b := []) rfl hg34 (by show D.files.length ≤ _; omega) 59
      obtain ⟨gS, hgS⟩ : ∃ gS, w3.heap.size = gS := ⟨_, rfl⟩
      rw [← hw34, World.size_alloc, hgS] at hrC
      rw [hgS] at hC
      clear hw34
      have HRC := hide hrC
      obtain ⟨wB, hwB⟩ : ∃ W, wC.setCell ⟨p, 1, none⟩ (.slice fa7 N fc7) = W := ⟨_, rfl⟩
      rw [hwB] at hC oC
      obtain ⟨S1, hS1⟩ : ∃ S1, more S w wB = S1 := ⟨_, rfl⟩
      rw [hS1] at hC
      have HRB := hide hC
      have HL1 := hide hC.lt
      have HK1 := hide (ok_addFile HK.out)
      obtain ⟨F, hF⟩ : ∃ F, D.files.length = F := ⟨_, rfl⟩
      have hNF : N = F + 1 := by rw [hN, ← hF]; rfl
      have hfin : ∀ (W : World) (fv dv : Value) (fs ds : List Value), RefAt (more S1 wB W) W p { { Dsk.on D with files := (Dsk.on D).files ++ [[[]]] } with dirs := (Dsk.on D).dirs ++ [Dsk.without (Dsk.dir (Dsk.on D)) n ++ [(n, F)]] } fv dv fs ds → Only S1 wB W →
          RGoes S w W p { Dsk.on D with files := (Dsk.on D).files ++ [[[]]], dirs := (Dsk.on D).dirs ++ [Dsk.without (Dsk.dir (Dsk.on D)) n ++ [(n, (Dsk.on D).files.length)]] } (c + 1) := fun W fv dv fs ds h o => by
        subst hS1
        subst hF
        refine ⟨⟨HK'.out, HB.out, lim', hfl, fv, dv, fs, ds, h.mono (fun b hb => more_trans oC.size o.size hb) (fun b hb => ?_)⟩, oC.trans o⟩
        rcases hb with x | x
        · have := HLs.out b x; have := oC.size; have := o.size; omega
        · exact x.2
      have HFIN := hide hfin
      have HOC := hide oC
      have hwr : IntKind.i64.wrap ((N : Int) - 1) = (F : Int) := by rw [IntKind.wrap_i64]; omega
      clear hN hC oC hfin hrC hF hS1 hNF
      go_wp2_with (at_builtin; refine wpList_app_run rfl _ _ _ _ rfl rfl rfl HRC.out ?_)
      refine wp_region_growF (fun b => b = p) 17 _ [([0, 1, 2, 3, 4, 5, 7, 9, 10, 11, 12, 13, 14, 15, 16], 6), ([], 8)] [([], 18), ([], 19), ([], 20)] [21, 22] [23] rfl (by kernel_rfl) (by kernel_rfl) (by kernel_rfl) (by kernel_rfl) ?_
      intro w4 hb4
      simp only [stagesOfK, getLK, pickLK]
      have HR4 := hide (HRB.out.below hb4)
      have HO4 : Hid (Only S1 wB w4) := hide (Only.of_below hb4)
      obtain ⟨_, k1, k2, _, _, _, _, hpl⟩ := HR4.out.look
      have inh : Nonempty (GrK (fun b => b = p) w4) := GrK.some _ w4
      have q1 := fun x : GrK (fun b => b = p) w4 => x.cell (a := ⟨p, 1, none⟩) rfl k1
      have q2 := fun x : GrK (fun b => b = p) w4 => x.cell (a := ⟨p, 2, none⟩) rfl k2
      refine wpF_stage ?_
      repeat (go_big_quiet_step (fail))
      refine wpQuiet_nil ?_
      clear q1 q2 inh hb4
      refine ⟨?_, ?_⟩
      · go_wp2_with fail
        refine (rdir_at HR4.out HK1.out (by show D.dirs.length ≤ _; omega)).mono ?_
        rintro e w14 ⟨v, rfl, hv, _, hb⟩
        have HR14 := hide (HR4.out.below hb)
        have HO14 := hide (HO4.out.then_below hb)
        have HV14 := hide (hv.keep (T := S1) (w' := w14) (fun _ x => x) (fun g e => hb.block g (HR4.out.lt g (hv.2 g e)))).1
        obtain ⟨va14, vc14, rfl⟩ := own_slice hv.1
        go_wp2
        refine OnToF.mk (Kept.of_below hb (fun b e => by subst e; exact HR4.out.lt b HR4.out.sp)) (Sub.refl _) ?_
        clear hb hv
        refine wpF_stage (wpQuiet_nil ⟨?_, ?_⟩)
        · go_wp2_with fail
          refine (rwithout_at HV14.out (by show (Dsk.dir D).length ≤ _; omega) n).mono ?_
          rintro e w15 ⟨v', rfl, hv', hb⟩
          have HR15 := hide (HR14.out.below hb)
          have HO15 := hide (HO14.out.then_below hb)
          have HV15 := hide hv'
          obtain ⟨va15, vc15, rfl⟩ := own_slice hv'
          go_wp2
          refine OnToF.mk (Kept.of_below hb (fun b e => by subst e; exact HR14.out.lt b HR14.out.sp)) (Sub.refl _) ?_
          have hz15 := HO14.out.size
          have hz9 := hb.size
          clear hb hv'
          refine wpF_last ?_
          refine wpG_stageK (wpQuiet_nil ?_)
          have b16 : Below w15.heap.size w15 (w15.alloc (.cells #[.string n, .int .i64 (F : Int)] 79)) := (Below.refl _ w15).alloc (Nat.le_refl _) _
          obtain ⟨g0, g1⟩ := cells_pair w15 (.string n) (.int .i64 (F : Int)) 79
          have HR16 := hide (HR15.out.below b16)
          have HO16 := hide (HO15.out.then_below b16)
          have HV16 := hide (HV15.out.alloc (.cells #[.string n, .int .i64 (F : Int)] 79))
          go_wp2
          refine OnToK.mk (Kept.of_below b16 (fun b e => by subst e; exact HR15.out.lt b HR15.out.sp)) (Sub.refl _) ?_
          have hz8 : w15.heap.size ≤ (w15.alloc (.cells #[.string n, .int .i64 (F : Int)] 79)).heap.size := by simp
          have hgN : w15.heap.size < (w15.alloc (.cells #[.string n, .int .i64 (F : Int)] 79)).heap.size := by simp
          obtain ⟨w16, hw16⟩ : ∃ W, w15.alloc (.cells #[.string n, .int .i64 (F : Int)] 79) = W := ⟨_, rfl⟩
          obtain ⟨gN, hgE⟩ : ∃ gN, w15.heap.size = gN := ⟨_, rfl⟩
          rw [hw16] at hz8 g0 g1 HR16 HO16 hgN HV16 ⊢
          rw [hgE] at g0 g1 hgN ⊢
          clear b16 hw16 hgE
          have hbz : w14.heap.size ≤ w16.heap.size := by first | exact Nat.le_refl _ | (have h9 := HV16.out; omega)
          have hwz : wB.heap.size ≤ w14.heap.size := by omega
          refine wpG_stageK (wpQuiet_nil ?_)
          obtain ⟨ea, M, ec, wA, hr, hv, hb⟩ := nmd_app2 HV16.out g0 g1 (by exact Nat.le_trans (List.length_filter_le _ _) (by show (Dsk.dir D).length ≤ _; omega)) hbz 77
          have hwS : ∀ b, S1 b → b < w14.heap.size := fun b hx => by have := HL1.out b hx; omega
          have HRA := hide (HR16.out.keep hb.size (fun b hx => hb.block b (hwS b hx)))
          have HOA : Hid (Only S1 wB wA) := hide ⟨hb.os.trans HO16.out.os, hb.tape.trans HO16.out.tape, hb.output.trans HO16.out.output, Nat.le_trans HO16.out.size hb.size, fun b h1 h2 => (hb.block b (by omega)).trans (HO16.out.block b h1 h2)⟩
          have HVA := hide hv
          have HRR := hide hr
          have hpw : p < w14.heap.size := hwS p HR16.out.sp
          clear hr hv
          go_wp2_with (at_builtin; refine wpList_app_run rfl _ _ _ _ rfl rfl rfl HRR.out ?_)
          refine OnToK.mk (Kept.of_below hb (fun b e => by subst e; exact hpw)) (Sub.refl _) ?_
          have hpA := Nat.lt_of_lt_of_le hpw (Nat.le_trans hbz hb.size)
          have hbA := Nat.le_trans hbz hb.size
          clear hb
          refine wpG_stageK (wpQuiet_nil ?_)
          go_wp2
          refine OnToK.mk (Kept.of_below ((Below.refl _ wA).alloc (Nat.le_refl _) _) (fun b e => by subst e; exact hpA)) (Sub.refl _) ?_
          obtain ⟨ea7, N7, ec7, w7, hr7, k7, f7, kp7, h7, o7⟩ := dir_add HRA.out HOA.out HL1.out HVA.out (by omega) (by show D.dirs.length ≤ _; omega) 58
          have HR7 := hide hr7
          have HG := hide (HFIN.out _ _ _ _ _ h7 o7)
          clear hr7 h7 o7
          refine wpG_stageK (wpQuiet_nil ?_)
          go_wp2_with (at_builtin; refine wpList_app_run rfl _ _ _ _ rfl rfl rfl HR7.out ?_)
          refine OnToK.mk kp7 (Sub.refl _) ?_
          have inh : Nonempty (GrK (fun b => b = p) w7) := GrK.some _ w7
          refine wpG_lastK ?_
          repeat (go_big_quiet_step (fail))
          refine wpQuiet_nil ?_
          clear inh kp7
          go_wp2
          go_ret
          exact ⟨rfl, HG.out⟩
        · have b17 : Below w14.heap.size w14 (w14.alloc (.cells #[.string n, .int .i64 (F : Int)] 79)) := (Below.refl _ w14).alloc (Nat.le_refl _) _
          obtain ⟨g0, g1⟩ := cells_pair w14 (.string n) (.int .i64 (F : Int)) 79
          have HR17 := hide (HR14.out.below b17)
          have HO17 := hide (HO14.out.then_below b17)
          have HV17 := hide (HV14.out.alloc (.cells #[.string n, .int .i64 (F : Int)] 79))
          go_wp2
          refine OnToK.mk (Kept.of_below b17 (fun b e => by subst e; exact HR14.out.lt b HR14.out.sp)) (Sub.refl _) ?_
          have hz8 : w14.heap.size ≤ (w14.alloc (.cells #[.string n, .int .i64 (F : Int)] 79)).heap.size := by simp
          have hgN : w14.heap.size < (w14.alloc (.cells #[.string n, .int .i64 (F : Int)] 79)).heap.size := by simp
          obtain ⟨w17, hw17⟩ : ∃ W, w14.alloc (.cells #[.string n, .int .i64 (F : Int)] 79) = W := ⟨_, rfl⟩
          obtain ⟨gN, hgE⟩ : ∃ gN, w14.heap.size = gN := ⟨_, rfl⟩
          rw [hw17] at hz8 g0 g1 HR17 HO17 hgN HV17 ⊢
          rw [hgE] at g0 g1 hgN ⊢
          clear b17 hw17 hgE
          refine wpG_stageK (wpQuiet_nil ?_)
          go_wp2_with fail
          refine (rwithout_at HV17.out (by show (Dsk.dir D).length ≤ _; omega) n).mono ?_
          rintro e w18 ⟨v', rfl, hv', hb⟩
          have HR18 := hide (HR17.out.below hb)
          have HO18 := hide (HO17.out.then_below hb)
          have HV18 := hide hv'
          obtain ⟨va18, vc18, rfl⟩ := own_slice hv'
          have g0 := (hb.cell (p := ⟨gN, 0, none⟩) hgN).trans g0
          have g1 := (hb.cell (p := ⟨gN, 1, none⟩) hgN).trans g1
          have hgN := Nat.lt_of_lt_of_le hgN hb.size
          go_wp2
          refine OnToK.mk (Kept.of_below hb (fun b e => by subst e; exact HR17.out.lt b HR17.out.sp)) (Sub.refl _) ?_
          have hz18 := HO17.out.size
          have hz9 := hb.size
          clear hb hv'
          have hbz : w17.heap.size ≤ w18.heap.size := by first | exact Nat.le_refl _ | (have h9 := HV18.out; omega)
          have hwz : wB.heap.size ≤ w17.heap.size := by omega
          refine wpG_stageK (wpQuiet_nil ?_)
          obtain ⟨ea, M, ec, wA, hr, hv, hb⟩ := nmd_app2 HV18.out g0 g1 (by exact Nat.le_trans (List.length_filter_le _ _) (by show (Dsk.dir D).length ≤ _; omega)) hbz 77
          have hwS : ∀ b, S1 b → b < w17.heap.size := fun b hx => by have := HL1.out b hx; omega
          have HRA := hide (HR18.out.keep hb.size (fun b hx => hb.block b (hwS b hx)))
          have HOA : Hid (Only S1 wB wA) := hide ⟨hb.os.trans HO18.out.os, hb.tape.trans HO18.out.tape, hb.output.trans HO18.out.output, Nat.le_trans HO18.out.size hb.size, fun b h1 h2 => (hb.block b (by omega)).trans (HO18.out.block b h1 h2)⟩
          have HVA := hide hv
          have HRR := hide hr
          have hpw : p < w17.heap.size := hwS p HR18.out.sp
          clear hr hv
          go_wp2_with (at_builtin; refine wpList_app_run rfl _ _ _ _ rfl rfl rfl HRR.out ?_)
          refine OnToK.mk (Kept.of_below hb (fun b e => by subst e; exact hpw)) (Sub.refl _) ?_
          have hpA := Nat.lt_of_lt_of_le hpw (Nat.le_trans hbz hb.size)
          have hbA := Nat.le_trans hbz hb.size
          clear hb
          refine wpG_stageK (wpQuiet_nil ?_)
          go_wp2
          refine OnToK.mk (Kept.of_below ((Below.refl _ wA).alloc (Nat.le_refl _) _) (fun b e => by subst e; exact hpA)) (Sub.refl _) ?_
          obtain ⟨ea7, N7, ec7, w7, hr7, k7, f7, kp7, h7, o7⟩ := dir_add HRA.out HOA.out HL1.out HVA.out (by omega) (by show D.dirs.length ≤ _; omega) 58
          have HR7 := hide hr7
          have HG := hide (HFIN.out _ _ _ _ _ h7 o7)
          clear hr7 h7 o7
          refine wpG_stageK (wpQuiet_nil ?_)
          go_wp2_with (at_builtin; refine wpList_app_run rfl _ _ _ _ rfl rfl rfl HR7.out ?_)
          refine OnToK.mk kp7 (Sub.refl _) ?_
          have inh : Nonempty (GrK (fun b => b = p) w7) := GrK.some _ w7
          refine wpG_lastK ?_
          repeat (go_big_quiet_step (fail))
          refine wpQuiet_nil ?_
          clear inh kp7
          go_wp2
          go_ret
          exact ⟨rfl, HG.out⟩
      · have b11 : Below w4.heap.size w4 (w4.alloc (.cells #[.string n, .int .i64 (F : Int)] 79)) := (Below.refl _ w4).alloc (Nat.le_refl _) _
        obtain ⟨g0, g1⟩ := cells_pair w4 (.string n) (.int .i64 (F : Int)) 79
        have HR11 := hide (HR4.out.below b11)
        have HO11 := hide (HO4.out.then_below b11)
        go_wp2
        refine OnToK.mk (Kept.of_below b11 (fun b e => by subst e; exact HR4.out.lt b HR4.out.sp)) (Sub.refl _) ?_
        have hz8 : w4.heap.size ≤ (w4.alloc (.cells #[.string n, .int .i64 (F : Int)] 79)).heap.size := by simp
        have hgN : w4.heap.size < (w4.alloc (.cells #[.string n, .int .i64 (F : Int)] 79)).heap.size := by simp
        obtain ⟨w11, hw11⟩ : ∃ W, w4.alloc (.cells #[.string n, .int .i64 (F : Int)] 79) = W := ⟨_, rfl⟩
        obtain ⟨gN, hgE⟩ : ∃ gN, w4.heap.size = gN := ⟨_, rfl⟩
        rw [hw11] at hz8 g0 g1 HR11 HO11 hgN ⊢
        rw [hgE] at g0 g1 hgN ⊢
        clear b11 hw11 hgE
        refine wpG_stageK (wpQuiet_nil ?_)
        go_wp2_with fail
        refine (rdir_at HR11.out HK1.out (by show D.dirs.length ≤ _; omega)).mono ?_
        rintro e w12 ⟨v, rfl, hv, _, hb⟩
        have HR12 := hide (HR11.out.below hb)
        have HO12 := hide (HO11.out.then_below hb)
        have HV12 := hide (hv.keep (T := S1) (w' := w12) (fun _ x => x) (fun g e => hb.block g (HR11.out.lt g (hv.2 g e)))).1
        obtain ⟨va12, vc12, rfl⟩ := own_slice hv.1
        have g0 := (hb.cell (p := ⟨gN, 0, none⟩) hgN).trans g0
        have g1 := (hb.cell (p := ⟨gN, 1, none⟩) hgN).trans g1
        have hgN := Nat.lt_of_lt_of_le hgN hb.size
        go_wp2
        refine OnToK.mk (Kept.of_below hb (fun b e => by subst e; exact HR11.out.lt b HR11.out.sp)) (Sub.refl _) ?_
        clear hb hv
        refine wpG_stageK (wpQuiet_nil ?_)
        go_wp2_with fail
        refine (rwithout_at HV12.out (by show (Dsk.dir D).length ≤ _; omega) n).mono ?_
        rintro e w13 ⟨v', rfl, hv', hb⟩
        have HR13 := hide (HR12.out.below hb)
        have HO13 := hide (HO12.out.then_below hb)
        have HV13 := hide hv'
        obtain ⟨va13, vc13, rfl⟩ := own_slice hv'
        have g0 := (hb.cell (p := ⟨gN, 0, none⟩) hgN).trans g0
        have g1 := (hb.cell (p := ⟨gN, 1, none⟩) hgN).trans g1
        have hgN := Nat.lt_of_lt_of_le hgN hb.size
        go_wp2
        refine OnToK.mk (Kept.of_below hb (fun b e => by subst e; exact HR12.out.lt b HR12.out.sp)) (Sub.refl _) ?_
        have hz13 := HO12.out.size
        have hz9 := hb.size
        clear hb hv'
        have hbz : w12.heap.size ≤ w13.heap.size := by first | exact Nat.le_refl _ | (have h9 := HV13.out; omega)
        have hwz : wB.heap.size ≤ w12.heap.size := by omega
        refine wpG_stageK (wpQuiet_nil ?_)
        obtain ⟨ea, M, ec, wA, hr, hv, hb⟩ := nmd_app2 HV13.out g0 g1 (by exact Nat.le_trans (List.length_filter_le _ _) (by show (Dsk.dir D).length ≤ _; omega)) hbz 77
        have hwS : ∀ b, S1 b → b < w12.heap.size := fun b hx => by have := HL1.out b hx; omega
        have HRA := hide (HR13.out.keep hb.size (fun b hx => hb.block b (hwS b hx)))
        have HOA : Hid (Only S1 wB wA) := hide ⟨hb.os.trans HO13.out.os, hb.tape.trans HO13.out.tape, hb.output.trans HO13.out.output, Nat.le_trans HO13.out.size hb.size, fun b h1 h2 => (hb.block b (by omega)).trans (HO13.out.block b h1 h2)⟩
        have HVA := hide hv
        have HRR := hide hr
        have hpw : p < w12.heap.size := hwS p HR13.out.sp
        clear hr hv
        go_wp2_with (at_builtin; refine wpList_app_run rfl _ _ _ _ rfl rfl rfl HRR.out ?_)
        refine OnToK.mk (Kept.of_below hb (fun b e => by subst e; exact hpw)) (Sub.refl _) ?_
        have hpA := Nat.lt_of_lt_of_le hpw (Nat.le_trans hbz hb.size)
        have hbA := Nat.le_trans hbz hb.size
        clear hb
        refine wpG_stageK (wpQuiet_nil ?_)
        go_wp2
        refine OnToK.mk (Kept.of_below ((Below.refl _ wA).alloc (Nat.le_refl _) _) (fun b e => by subst e; exact hpA)) (Sub.refl _) ?_
        obtain ⟨ea7, N7, ec7, w7, hr7, k7, f7, kp7, h7, o7⟩ := dir_add HRA.out HOA.out HL1.out HVA.out (by omega) (by show D.dirs.length ≤ _; omega) 58
        have HR7 := hide hr7
        have HG := hide (HFIN.out _ _ _ _ _ h7 o7)
        clear hr7 h7 o7
        refine wpG_stageK (wpQuiet_nil ?_)
        go_wp2_with (at_builtin; refine wpList_app_run rfl _ _ _ _ rfl rfl rfl HR7.out ?_)
        refine OnToK.mk kp7 (Sub.refl _) ?_
        have inh : Nonempty (GrK (fun b => b = p) w7) := GrK.some _ w7
        refine wpG_lastK ?_
        repeat (go_big_quiet_step (fail))
        refine wpQuiet_nil ?_
        clear inh kp7
        go_wp2
        go_ret
        exact ⟨rfl, HG.out⟩

end Go.Proofs.YtpbiongoigbmpaaGreat
