/-
  Sync, Cut of the program's disk: as the chapter says.
-/
import Derived.Test.YtleomppgkikhnaaGreatDskActW
namespace Go.Proofs.YtleomppgkikhnaaGreat
open Go.RowKit
open Dsk (Nm Hold Fl Ct By Dk FRel NRel)

set_option maxRecDepth 100000 in
set_option maxHeartbeats 800000 in
theorem sync_dk {S : Nat → Prop} {w : World} {p : Nat} {D : Dk} {c : Nat} (H : IsDk S w p D c) (n : ByteArray) (hn : n.size ≤ maxLen) (hc : c + 1 ≤ 1000000000) :
    Calls Tryz.prog 81 #[.pointer (some ⟨p, 0, none⟩), .string n] w fun e w' => e = .returned (.int .i64 (Dsk.sync n D).2) ∧ IsDk (more S w w') w' p (Dsk.sync n D).1 (c + 1) ∧ Only S w w' := by
  obtain ⟨ok, bud, lim, h, HD, R, mc, hfl⟩ := H
  obtain ⟨p1, p2, ho, hus, hcs, hfi⟩ := IsDk.nums ok bud lim R (by omega)
  have ok' := Dsk.sync_ok n ok
  have bud' := Dsk.bud_sync n bud ok
  have lim' := lim_sync n lim
  by_cases h0 : D.left = 0
  · have e : Dsk.sync n D = (D, 11) := act_dead h0 _
    rw [e] at ok' bud' lim' ⊢
    have hp0 : h.power = 0 := by rw [R.power]; exact h0
    have HH := hide HD
    have HB := hide bud'
    have HRR := hide R
    clear HD bud' R e ok bud lim
    go_enter Tryz.func81, Tryz.ntmps81
    go_wp2_with fail
    refine (operate_dead HH.out hp0 n).mono ?_
    rintro e w1 ⟨rfl, hw⟩
    rw [hw]
    clear hw
    go_wp2
    go_ret
    exact ⟨rfl, ⟨ok', HB.out, lim', h, HH.out.wide _, HRR.out, by omega, hfl⟩, Only.refl _ _⟩
  have e : Dsk.sync n D = Dsk.syncB n (Dsk.on D) := act_on h0 _
  have hp0 : h.power ≠ 0 := by rw [R.power]; exact h0
  have R1 := R.on
  have ok1 := Dsk.on_ok ok
  rw [e] at ok' bud' lim' ⊢
  clear e
  cases hfd : Dsk.find (Dsk.dir (Dsk.on D)) n with
  | none =>
    have e : Dsk.syncB n (Dsk.on D) = (Dsk.on D, 5) := by unfold Dsk.syncB; rw [hfd]
    rw [e] at ok' bud' lim' ⊢
    have HF : Hid (h.f n = none) := hide ((R.find n).trans hfd)
    have HH := hide HD
    have HB := hide bud'
    have HRR := hide R1
    clear HD bud' R1 e ok1 hfd R
    go_enter Tryz.func81, Tryz.ntmps81
    go_wp2_with fail
    refine (operate_none HH.out hp0 p1 p2 ho n hn HF.out).mono ?_
    rintro e w1 ⟨rfl, H1, hO⟩
    go_wp2
    go_ret
    exact ⟨rfl, ⟨ok', HB.out, lim', h.on, H1.wide _, HRR.out, by show h.mc ≤ _; omega, hfl⟩, hO⟩
  | some i =>
    have hlt := Dsk.find_lt ok1 hfd
    have him : i < h.made := by rw [R.made]; exact hlt
    have HF : Hid (h.f n = some i) := hide ((R.find n).trans hfd)
    obtain ⟨t1, t2, t3⟩ := hfi i him
    have eB : Dsk.syncB n (Dsk.on D) = if D.fail = 1 then ({ Dsk.on D with fail := 0 }, 10) else ({ Dsk.on D with fail := D.fail - 1, files := D.files.set i [Dsk.now D i] }, 0) := by
      unfold Dsk.syncB
      rw [hfd]
      rfl
    have hft := R.fail
    by_cases hf0 : h.fail < 1
    · rw [if_neg (by omega)] at eB
      rw [eB] at ok' bud' lim' ⊢
      have HH := hide HD
      have HRR := hide R1
      have HOK := hide ok1
      have HFD := hide hfd
      have HB := hide bud'
      have HOK' := hide ok'
      have HL' := hide lim'
      clear HD R1 ok1 hfd R bud' ok' lim' bud ok lim eB
      go_enter Tryz.func81, Tryz.ntmps81
      go_wp2_with fail
      refine (operate_some HH.out hp0 p1 p2 ho n hn HF.out).mono ?_
      rintro e w1 ⟨rfl, H1, hO⟩
      have HH1 := hide H1
      have HO1 := hide hO
      clear H1 hO
      go_wp2_with fail
      refine (fails_no HH1.out hf0).mono ?_
      rintro e w3 ⟨rfl, hw⟩
      rw [hw]
      clear hw
      go_wp2_with fail
      refine (fsync_at HH1.out him).mono ?_
      rintro e w4 ⟨rfl, H4, hO4⟩
      have HH4 := hide H4
      have HO4 := hide hO4
      clear H4 hO4
      go_wp2
      go_ret
      have RR := HRR.out.setfile HOK.out HFD.out (FRel.sync (Dsk.now D i) (f := h.fl i) (HRR.out.now him)) (h.tv i) (.slice none 0 0) (u := h.used) (x := h.fail) (k := D.fail - 1) (by simp only [Hd.on]; omega) (by omega)
      exact ⟨rfl, ⟨HOK'.out, HB.out, HL'.out, _, HH4.out.to HO1.out.size (Nat.le_refl _), RR, by show h.mc ≤ _; omega, by show h.fail ≤ _; omega⟩, HO1.out.trans' HO4.out⟩
    by_cases hf1 : h.fail = 1
    · rw [if_pos (by omega)] at eB
      rw [eB] at ok' bud' lim' ⊢
      have hfd1 : (h.fail - 1 == 0) = true := by simp [hf1]
      have HH := hide HD
      have HRR := hide R1
      have HOK := hide ok1
      have HFD := hide hfd
      have HB := hide bud'
      have HOK' := hide ok'
      have HL' := hide lim'
      clear HD R1 ok1 hfd R bud' ok' lim' bud ok lim eB
      go_enter Tryz.func81, Tryz.ntmps81
      go_wp2_with fail
      refine (operate_some HH.out hp0 p1 p2 ho n hn HF.out).mono ?_
      rintro e w1 ⟨rfl, H1, hO⟩
      have HH1 := hide H1
      have HO1 := hide hO
      clear H1 hO
      go_wp2_with fail
      refine (fails_on HH1.out (by show 1 ≤ h.fail; omega) (by show h.fail ≤ _; omega)).mono ?_
      rintro e w3 ⟨rfl, H3, hO3⟩
      simp only [Hd.on] at H3 ⊢
      rw [hfd1]
      have HH3 := hide H3
      clear H3
      go_wp2
      go_ret
      have RR : Rel { h.on with fail := h.fail - 1 } { Dsk.on D with fail := 0 } := ⟨HRR.out.room, HRR.out.used, HRR.out.num, HRR.out.made, HRR.out.ops, HRR.out.power, by show (h.fail - 1).toNat = 0; omega, HRR.out.files, HRR.out.names⟩
      exact ⟨rfl, ⟨HOK'.out, HB.out, HL'.out, _, HH3.out.wide _, RR, by show h.mc ≤ _; omega, by show h.fail - 1 ≤ _; omega⟩, HO1.out.trans' hO3⟩
    · rw [if_neg (by omega)] at eB
      rw [eB] at ok' bud' lim' ⊢
      have hfd1 : (h.fail - 1 == 0) = false := beq_eq_false_iff_ne.2 (by omega)
      have HH := hide HD
      have HRR := hide R1
      have HOK := hide ok1
      have HFD := hide hfd
      have HB := hide bud'
      have HOK' := hide ok'
      have HL' := hide lim'
      clear HD R1 ok1 hfd R bud' ok' lim' bud ok lim eB
      go_enter Tryz.func81, Tryz.ntmps81
      go_wp2_with fail
      refine (operate_some HH.out hp0 p1 p2 ho n hn HF.out).mono ?_
      rintro e w1 ⟨rfl, H1, hO⟩
      have HH1 := hide H1
      have HO1 := hide hO
      clear H1 hO
      go_wp2_with fail
      refine (fails_on HH1.out (by show 1 ≤ h.fail; omega) (by show h.fail ≤ _; omega)).mono ?_
      rintro e w3 ⟨rfl, H3, hO3⟩
      simp only [Hd.on] at H3 ⊢
      rw [hfd1]
      have HH3 := hide H3
      have HO1 := hide (HO1.out.trans' hO3)
      clear H3 hO3
      go_wp2_with fail
      refine (fsync_at HH3.out him).mono ?_
      rintro e w4 ⟨rfl, H4, hO4⟩
      have HH4 := hide H4
      have HO4 := hide hO4
      clear H4 hO4
      go_wp2
      go_ret
      have RR := HRR.out.setfile HOK.out HFD.out (FRel.sync (Dsk.now D i) (f := h.fl i) (HRR.out.now him)) (h.tv i) (.slice none 0 0) (u := h.used) (x := h.fail - 1) (k := D.fail - 1) (by simp only [Hd.on]; omega) (by omega)
      exact ⟨rfl, ⟨HOK'.out, HB.out, HL'.out, _, HH4.out.to HO1.out.size (Nat.le_refl _), RR, by show h.mc ≤ _; omega, by show h.fail - 1 ≤ _; omega⟩, HO1.out.trans' HO4.out⟩

end Go.Proofs.YtleomppgkikhnaaGreat
