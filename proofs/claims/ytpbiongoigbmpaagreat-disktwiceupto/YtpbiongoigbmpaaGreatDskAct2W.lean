/-
  Sync, Cut of the program's disk: as the chapter says.
-/
import Derived.Test.YtpbiongoigbmpaaGreatDskActW
namespace Go.Proofs.YtpbiongoigbmpaaGreat
open Go.RowKit
open Dsk (Nm Hold Fl Ct By Dk FRel NRel)

set_option maxRecDepth 100000 in
set_option maxHeartbeats 800000 in
theorem sync_dk {S : Nat → Prop} {w : World} {p : Nat} {D : Dk} {c : Nat} (H : IsDk S w p D c) (n : ByteArray) (hn : n.size ≤ maxLen) (hc : c + 1 ≤ 1000000000) :
    Calls Tryz.prog 19 #[.pointer (some ⟨p, 0, none⟩), .string n] w fun e w' => e = .returned (.int .i64 (Dsk.sync n D).2) ∧ IsDk (more S w w') w' p (Dsk.sync n D).1 (c + 1) ∧ Only S w w' := by
  obtain ⟨ok, bud, lim, h, HD, R, mc, hfl⟩ := H
  obtain ⟨p1, p2, ho, hus, hcs, hfi⟩ := IsDk.nums ok bud lim R (by omega)
  have ok' := Dsk.sync_ok n ok
  have bud' := Dsk.bud_sync n bud ok
  have lim' := lim_sync n lim
  by_cases h0 : D.left = 0
  · have e : Dsk.sync n D = (D, 11) := act_dead h0 _
    rw [e] at ok' bud' lim' ⊢
    have hp0 : h.power = 0 := by rw [R.power]; exact h0
    have HH := hide HD
    have HB := hide bud'
    have HRR := hide R
    clear HD bud' R e ok bud lim
    go_enter Tryz.func19, Tryz.ntmps19
    go_wp2_with fail
    refine (operate_dead HH.out hp0 n).mono ?_
    rintro e w1 ⟨rfl, hw⟩
    rw [hw]
    clear hw
    go_wp2
    go_ret
    exact ⟨rfl, ⟨ok', HB.out, lim', h, HH.out.wide _, HRR.out, by omega, hfl⟩, Only.refl _ _⟩
  have e : Dsk.sync n D = Dsk.syncB n (Dsk.on D) := act_on h0 _
  have hp0 : h.power ≠ 0 := by rw [R.power]; exact h0
  have R1 := R.on
  have ok1 := Dsk.on_ok ok
  rw [e] at ok' bud' lim' ⊢
  clear e
  cases hfd : Dsk.find (Dsk.dir (Dsk.on D)) n with
  | none =>
    have e : Dsk.syncB n (Dsk.on D) = (Dsk.on D, 5) := by unfold Dsk.syncB; rw [hfd]
    rw [e] at ok' bud' lim' ⊢
    have HF : Hid (h.f n = none) := hide ((R.find n).trans hfd)
    have HH := hide HD
    have HB := hide bud'
    have HRR := hide R1
    clear HD bud' R1 e ok1 hfd R
    go_enter Tryz.func19, Tryz.ntmps19
    go_wp2_with fail
    refine (operate_none HH.out hp0 p1 p2 ho n hn HF.out).mono ?_
    rintro e w1 ⟨rfl, H1, hO⟩
    go_wp2
    go_ret
    exact ⟨rfl, ⟨ok', HB.out, lim', h.on, H1.wide _, HRR.out, by show h.mc ≤ _; omega, hfl⟩, hO⟩
  | some i =>
    have hlt := Dsk.find_lt ok1 hfd
    have him : i < h.made := by rw [R.made]; exact hlt
    have HF : Hid (h.f n = some i) := hide ((R.find n).trans hfd)
    obtain ⟨t1, t2, t3⟩ := hfi i him
    have eB : Dsk.syncB n (Dsk.on D) = if D.fail = 1 then ({ Dsk.on D with fail := 0 }, 10) else ({ Dsk.on D with fail := D.fail - 1, files := D.files.set i [Dsk.now D i] }, 0) := by
      unfold Dsk.syncB
      rw [hfd]
      rfl
    have hft := R.fail
    by_cases hf0 : h.fail < 1
    · rw [if_neg (by omega)] at eB
      rw [eB] at ok' bud' lim' ⊢
      have HH := hide HD
      have HRR := hide R1
      have HOK := hide ok1
      have HFD := hide hfd
      have HB := hide bud'
      have HOK' := hide ok'
      have HL' := hide lim'
      clear HD R1 ok1 hfd R bud' ok' lim' bud ok lim eB
      go_enter Tryz.func19, Tryz.ntmps19
      go_wp2_with fail
      refine (operate_some HH.out hp0 p1 p2 ho n hn HF.out).mono ?_
      rintro e w1 ⟨rfl, H1, hO⟩
      have HH1 := hide H1
      have HO1 := hide hO
      clear H1 hO
      go_wp2_with fail
      refine (fails_no HH1.out hf0).mono ?_
      rintro e w3 ⟨rfl, hw⟩
      rw [hw]
      clear hw
      go_wp2_with fail
      refine (fsync_at HH1.out him).mono ?_
      rintro e w4 ⟨rfl, H4, hO4⟩
      have HH4 := hide H4
      have HO4 := hide hO4
      clear H4 hO4
      go_wp2
      go_ret
      have RR := HRR.out.setfile HOK.out HFD.out (FRel.sync (Dsk.now D i) (f := h.fl i) (HRR.out.now him)) (h.tv i) (.slice none 0 0) (u := h.used) (x := h.fail) (k := D.fail - 1) (by simp only [Hd.on]; omega) (by omega)
      exact ⟨rfl, ⟨HOK'.out, HB.out, HL'.out, _, HH4.out.to HO1.out.size (Nat.le_refl _), RR, by show h.mc ≤ _; omega, by show h.fail ≤ _; omega⟩, HO1.out.trans' HO4.out⟩
    by_cases hf1 : h.fail = 1
    · rw [if_pos (by omega)] at eB
      rw [eB] at ok' bud' lim' ⊢
      have hfd1 : (h.fail - 1 == 0) = true := by simp [hf1]
      have HH := hide HD
      have HRR := hide R1
      have HOK := hide ok1
      have HFD := hide hfd
      have HB := hide bud'
      have HOK' := hide ok'
      have HL' := hide lim'
      clear HD R1 ok1 hfd R bud' ok' lim' bud ok lim eB
      go_enter Tryz.func19, Tryz.ntmps19
      go_wp2_with fail
      refine (operate_some HH.out hp0 p1 p2 ho n hn HF.out).mono ?_
      rintro e w1 ⟨rfl, H1, hO⟩
      have HH1 := hide H1
      have HO1 := hide hO
      clear H1 hO
      go_wp2_with fail
      refine (fails_on HH1.out (by show 1 ≤ h.fail; omega) (by show h.fail ≤ _; omega)).mono ?_
      rintro e w3 ⟨rfl, H3, hO3⟩
      simp only [Hd.on] at H3 ⊢
      rw [hfd1]
      have HH3 := hide H3
      clear H3
      go_wp2
      go_ret
      have RR : Rel { h.on with fail := h.fail - 1 } { Dsk.on D with fail := 0 } := ⟨HRR.out.room, HRR.out.used, HRR.out.num, HRR.out.made, HRR.out.ops, HRR.out.power, by show (h.fail - 1).toNat = 0; omega, HRR.out.files, HRR.out.names⟩
      exact ⟨rfl, ⟨HOK'.out, HB.out, HL'.out, _, HH3.out.wide _, RR, by show h.mc ≤ _; omega, by show h.fail - 1 ≤ _; omega⟩, HO1.out.trans' hO3⟩
    · rw [if_neg (by omega)] at eB
      rw [eB] at ok' bud' lim' ⊢
      have hfd1 : (h.fail - 1 == 0) = false := beq_eq_false_iff_ne.2 (by omega)
      have HH := hide HD
      have HRR := hide R1
      have HOK := hide ok1
      have HFD := hide hfd
      have HB := hide bud'
      have HOK' := hide ok'
      have HL' := hide lim'
      clear HD R1 ok1 hfd R bud' ok' lim' bud ok lim eB
      go_enter Tryz.func19, Tryz.ntmps19
      go_wp2_with fail
      refine (operate_some HH.out hp0 p1 p2 ho n hn HF.out).mono ?_
      rintro e w1 ⟨rfl, H1, hO⟩
      have HH1 := hide H1
      have HO1 := hide hO
      clear H1 hO
      go_wp2_with fail
      refine (fails_on HH1.out (by show 1 ≤ h.fail; omega) (by show h.fail ≤ _; omega)).mono ?_
      rintro e w3 ⟨rfl, H3, hO3⟩
      simp only [Hd.on] at H3 ⊢
      rw [hfd1]
      have HH3 := hide H3
      have HO1 := hide (HO1.out.trans' hO3)
      clear H3 hO3
      go_wp2_with fail
      refine (fsync_at HH3.out him).mono ?_
      rintro e w4 ⟨rfl, H4, hO4⟩
      have HH4 := hide H4
      have HO4 := hide hO4
      clear H4 hO4
      go_wp2
      go_ret
      have RR := HRR.out.setfile HOK.out HFD.out (FRel.sync (Dsk.now D i) (f := h.fl i) (HRR.out.now him)) (h.tv i) (.slice none 0 0) (u := h.used) (x := h.fail - 1) (k := D.fail - 1) (by simp only [Hd.on]; omega) (by omega)
      exact ⟨rfl, ⟨HOK'.out, HB.out, HL'.out, _, HH4.out.to HO1.out.size (Nat.le_refl _), RR, by show h.mc ≤ _; omega, by show h.fail - 1 ≤ _; omega⟩, HO1.out.trans' HO4.out⟩

set_option maxRecDepth 100000 in
set_option maxHeartbeats 800000 in
theorem cut_dk {S : Nat → Prop} {w : World} {p : Nat} {D : Dk} {c : Nat} (H : IsDk S w p D c) (n : ByteArray) (to : Int) (hn : n.size ≤ maxLen) (hto : -9223372036854775808 ≤ to ∧ to ≤ 9223372036854775807) (hc : c + 1 ≤ 1000000000) :
    Calls Tryz.prog 31 #[.pointer (some ⟨p, 0, none⟩), .string n, .int .i64 to] w fun e w' => e = .returned (.int .i64 (Dsk.cut n to D).2) ∧ IsDk (more S w w') w' p (Dsk.cut n to D).1 (c + 1) ∧ Only S w w' := by
  obtain ⟨ok, bud, lim, h, HD, R, mc, hfl⟩ := H
  obtain ⟨p1, p2, ho, hus, hcs, hfi⟩ := IsDk.nums ok bud lim R (by omega)
  have ok' := Dsk.cut_ok n to ok
  have bud' := Dsk.bud_cut n to bud ok
  have lim' := lim_cut n to lim
  by_cases h0 : D.left = 0
  · have e : Dsk.cut n to D = (D, 11) := act_dead h0 _
    rw [e] at ok' bud' lim' ⊢
    have hp0 : h.power = 0 := by rw [R.power]; exact h0
    have HH := hide HD
    have HB := hide bud'
    have HRR := hide R
    clear HD bud' R e ok bud lim
    go_enter Tryz.func31, Tryz.ntmps31
    go_wp2_with fail
    refine (operate_dead HH.out hp0 n).mono ?_
    rintro e w1 ⟨rfl, hw⟩
    rw [hw]
    clear hw
    go_wp2
    go_ret
    exact ⟨rfl, ⟨ok', HB.out, lim', h, HH.out.wide _, HRR.out, by omega, hfl⟩, Only.refl _ _⟩
  have e : Dsk.cut n to D = Dsk.cutB n to (Dsk.on D) := act_on h0 _
  have hp0 : h.power ≠ 0 := by rw [R.power]; exact h0
  have R1 := R.on
  have ok1 := Dsk.on_ok ok
  rw [e] at ok' bud' lim' ⊢
  clear e
  cases hfd : Dsk.find (Dsk.dir (Dsk.on D)) n with
  | none =>
    have e : Dsk.cutB n to (Dsk.on D) = (Dsk.on D, 5) := by unfold Dsk.cutB; rw [hfd]
    rw [e] at ok' bud' lim' ⊢
    have HF : Hid (h.f n = none) := hide ((R.find n).trans hfd)
    have HH := hide HD
    have HB := hide bud'
    have HRR := hide R1
    clear HD bud' R1 e ok1 hfd R
    go_enter Tryz.func31, Tryz.ntmps31
    go_wp2_with fail
    refine (operate_none HH.out hp0 p1 p2 ho n hn HF.out).mono ?_
    rintro e w1 ⟨rfl, H1, hO⟩
    go_wp2
    go_ret
    exact ⟨rfl, ⟨ok', HB.out, lim', h.on, H1.wide _, HRR.out, by show h.mc ≤ _; omega, hfl⟩, hO⟩
  | some i =>
    have hlt := Dsk.find_lt ok1 hfd
    have him : i < h.made := by rw [R.made]; exact hlt
    have HF : Hid (h.f n = some i) := hide ((R.find n).trans hfd)
    obtain ⟨t1, t2, t3⟩ := hfi i him
    have hnow : Dsk.now (Dsk.on D) i = (h.fl i).text := R1.now him
    by_cases hneg : to < 0
    · have e : Dsk.cutB n to (Dsk.on D) = (Dsk.on D, 1) := by
        unfold Dsk.cutB
        rw [hfd]
        simp only
        rw [if_pos (.inl hneg)]
      rw [e] at ok' bud' lim' ⊢
      have HH := hide HD
      have HRR := hide R1
      have HOK := hide ok1
      have HFD := hide hfd
      have HB := hide bud'
      have HOK' := hide ok'
      have HL' := hide lim'
      clear HD R1 ok1 hfd R bud' ok' lim' bud ok lim e hnow
      go_enter Tryz.func31, Tryz.ntmps31
      go_wp2_with fail
      refine (operate_some HH.out hp0 p1 p2 ho n hn HF.out).mono ?_
      rintro e w1 ⟨rfl, H1, hO⟩
      have HH1 := hide H1
      have HO1 := hide hO
      clear H1 hO
      go_wp2
      go_ret
      exact ⟨rfl, ⟨HOK'.out, HB.out, HL'.out, h.on, HH1.out.wide _, HRR.out, by show h.mc ≤ _; omega, hfl⟩, HO1.out⟩
    by_cases hbig : ((h.fl i).text.length : Int) < to
    · have e : Dsk.cutB n to (Dsk.on D) = (Dsk.on D, 1) := by
        unfold Dsk.cutB
        rw [hfd]
        simp only
        rw [if_pos (.inr (by rw [hnow]; exact hbig))]
      rw [e] at ok' bud' lim' ⊢
      have HH := hide HD
      have HRR := hide R1
      have HOK := hide ok1
      have HFD := hide hfd
      have HB := hide bud'
      have HOK' := hide ok'
      have HL' := hide lim'
      clear HD R1 ok1 hfd R bud' ok' lim' bud ok lim e hnow
      go_enter Tryz.func31, Tryz.ntmps31
      go_wp2_with fail
      refine (operate_some HH.out hp0 p1 p2 ho n hn HF.out).mono ?_
      rintro e w1 ⟨rfl, H1, hO⟩
      have HH1 := hide H1
      have HO1 := hide hO
      clear H1 hO
      go_wp2_with fail
      refine (size_at HH1.out him).mono ?_
      rintro e w3 ⟨rfl, hw⟩
      simp only [Hd.on]
      rw [hw]
      clear hw
      go_wp2
      go_ret
      exact ⟨rfl, ⟨HOK'.out, HB.out, HL'.out, h.on, HH1.out.wide _, HRR.out, by show h.mc ≤ _; omega, hfl⟩, HO1.out⟩
    · obtain ⟨k, rfl⟩ : ∃ k : Nat, to = (k : Int) := ⟨to.toNat, by omega⟩
      have hkl : k ≤ (h.fl i).text.length := by omega
      have e : Dsk.cutB n (k : Int) (Dsk.on D) = ({ Dsk.on D with files := D.files.set i (Dsk.hist D i ++ [(h.fl i).text.take k]) }, 0) := by
        unfold Dsk.cutB
        rw [hfd]
        simp only
        rw [if_neg (by rw [hnow]; omega), hnow]
        simp only [Int.toNat_natCast]
        rfl
      rw [e] at ok' bud' lim' ⊢
      have hft := R.fail
      have HH := hide HD
      have HRR := hide R1
      have HOK := hide ok1
      have HFD := hide hfd
      have HB := hide bud'
      have HOK' := hide ok'
      have HL' := hide lim'
      clear HD R1 ok1 hfd R bud' ok' lim' bud ok lim e hnow
      go_enter Tryz.func31, Tryz.ntmps31
      go_wp2_with fail
      refine (operate_some HH.out hp0 p1 p2 ho n hn HF.out).mono ?_
      rintro e w1 ⟨rfl, H1, hO⟩
      have HH1 := hide H1
      have HO1 := hide hO
      clear H1 hO
      go_wp2_with fail
      refine (size_at HH1.out him).mono ?_
      rintro e w3 ⟨rfl, hw⟩
      simp only [Hd.on]
      rw [hw]
      clear hw
      obtain ⟨dd, hdd⟩ : ∃ dd, ((h.fl i).text.length : Int) - (k : Int) = dd := ⟨_, rfl⟩
      obtain ⟨uu, huu⟩ : ∃ uu, h.used - dd = uu := ⟨_, rfl⟩
      have hw1 : IntKind.i64.wrap (((h.fl i).text.length : Int) - (k : Int)) = dd := by rw [IntKind.wrap_i64]; omega
      have hw2 : IntKind.i64.wrap (h.used - dd) = uu := by rw [IntKind.wrap_i64]; omega
      have HDD : Hid (uu = h.used - ((h.fl i).text.length : Int) + (k : Int)) := hide (by omega)
      clear hdd huu
      go_wp2_with fail
      refine wp_region_growK S [([0, 1, 2, 3, 4, 6], 5)] [7, 8, 9, 10] [11] (by kernel_rfl) (by kernel_rfl) (by kernel_rfl) (by kernel_rfl) ?_
      intro w2 hb2
      simp only [stagesOfK, getLK, pickLK]
      have H2 := HH1.out.below hb2
      obtain ⟨_, c1, _, _, _, _, _, _, cf⟩ := H2.look
      simp only [Hd.on] at c1
      have inh : Nonempty (GrK S w2) := GrK.some _ w2
      have x1 := fun x : GrK S w2 => x.cell (a := ⟨p, 1, none⟩) H2.sp c1
      have HH2 := hide H2
      have HO2 := hide (HO1.out.then_below hb2)
      clear H2 hb2 HO1 HH1
      refine wpG_stageK ?_
      repeat (go_big_quiet_step (fail))
      refine wpQuiet_nil ?_
      go_wp2_with fail
      refine (size_at HH2.out him).mono ?_
      rintro e w3 ⟨rfl, hw⟩
      simp only [Hd.on]
      rw [hw]
      clear hw
      go_wp2
      refine OnToK.mk (Kept.refl _ _) (Sub.refl _) ?_
      refine wpG_lastK ?_
      repeat (go_big_quiet_step (fail))
      refine wpQuiet_nil ?_
      clear x1 inh hw1 hw2
      obtain ⟨w4, hw4⟩ : ∃ w4, w2.setCell ⟨p, 1, none⟩ (.int .i64 uu) = w4 := ⟨_, rfl⟩
      have H4 : HeapDisk S w4 p { h.on with used := uu } := by rw [← hw4]; exact HH2.out.set { h.on with used := uu } 1 _ rfl rfl
      have HO4 : Hid (Only S w w4) := by rw [← hw4]; exact hide (HO2.out.setCell (p := ⟨p, 1, none⟩) HH2.out.sp _)
      have HH4 := hide H4
      clear H4
      go_wp2_with fail
      clear hw4 c1 cf
      refine (fcut_at HH4.out him k hkl (by show (h.fl i).cuts.length ≤ _; omega)).mono ?_
      rintro e w5 ⟨rfl, ⟨tv, kv, H5⟩, hO5⟩
      have HH5 := hide H5
      have HO5 := hide hO5
      clear H5 hO5
      go_wp2
      go_ret
      have RR := HRR.out.setfile HOK.out HFD.out ((HRR.out.files i him).cut k) tv kv (u := uu) (x := h.fail) (k := D.fail) (by simp only [Hd.on]; rw [HDD.out, List.length_take]; have : min k (h.fl i).text.length = k := by omega
                                                                                                                               rw [this]) hft
      exact ⟨rfl, ⟨HOK'.out, HB.out, HL'.out, _, HH5.out.to HO4.out.size (Nat.le_refl _), RR, by show h.mc ≤ _; omega, hfl⟩, HO4.out.trans' HO5.out⟩

end Go.Proofs.YtpbiongoigbmpaaGreat
