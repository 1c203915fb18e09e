/-
  Append, Sync, Cut of the program's disk: as the chapter says.
-/
import Derived.Test.YtleomppgkikhnaaGreatDskRelW
namespace Go.Proofs.YtleomppgkikhnaaGreat
open Go.RowKit
open Dsk (Nm Hold Fl Ct By Dk FRel NRel)

theorem HeapDisk.to {S : Nat → Prop} {w w2 w3 w' : World} {p : Nat} {h : Hd} (H : HeapDisk (more S w2 w3) w' p h) (h1 : w.heap.size ≤ w2.heap.size) (h2 : w3.heap.size ≤ w'.heap.size) : HeapDisk (more S w w') w' p h :=
  H.mono (fun b hb => by
    rcases hb with hb | hb
    · exact .inl hb
    · exact .inr (by omega)) (fun b hb => by
    rcases hb with hb | hb
    · exact H.lt b (.inl hb)
    · exact hb.2)
theorem act_dead {D : Dk} (h : D.left = 0) (f : Dk → Dk × Int) : Dsk.act D f = (D, 11) := by unfold Dsk.act; rw [if_pos h]
theorem act_on {D : Dk} (h : D.left ≠ 0) (f : Dk → Dk × Int) : Dsk.act D f = f (Dsk.on D) := by unfold Dsk.act; rw [if_neg h]
theorem sz_toList (s : ByteArray) : s.data.toList.length = s.size := by simp

set_option maxRecDepth 100000 in
set_option maxHeartbeats 800000 in
theorem append_dk {S : Nat → Prop} {w : World} {p : Nat} {D : Dk} {c : Nat} (H : IsDk S w p D c) (n s : ByteArray) (hn : n.size ≤ maxLen) (hc : c + 1 + s.size ≤ 1000000000) :
    Calls Tryz.prog 23 #[.pointer (some ⟨p, 0, none⟩), .string n, .string s] w fun e w' => e = .returned (.int .i64 (Dsk.append n s.data.toList D).2) ∧ IsDk (more S w w') w' p (Dsk.append n s.data.toList D).1 (c + 1 + s.size) ∧ Only S w w' := by
  obtain ⟨ok, bud, lim, h, HD, R, mc, hfl⟩ := H
  obtain ⟨p1, p2, ho, hus, hcs, hfi⟩ := IsDk.nums ok bud lim R (by omega)
  have ok' := Dsk.append_ok n s.data.toList ok
  have bud' := Dsk.bud_append n s.data.toList bud ok
  rw [sz_toList] at bud'
  have lim' := lim_append n s.data.toList lim
  by_cases h0 : D.left = 0
  · have e : Dsk.append n s.data.toList D = (D, 11) := act_dead h0 _
    rw [e] at ok' bud' lim' ⊢
    have hp0 : h.power = 0 := by rw [R.power]; exact h0
    have HH := hide HD
    have HB := hide bud'
    have HRR := hide R
    clear HD bud' R e ok bud lim
    go_enter Tryz.func23, Tryz.ntmps23
    go_wp2_with fail
    refine (operate_dead HH.out hp0 n).mono ?_
    rintro e w1 ⟨rfl, hw⟩
    rw [hw]
    clear hw
    go_wp2
    go_ret
    exact ⟨rfl, ⟨ok', HB.out, lim', h, HH.out.wide _, HRR.out, by omega, hfl⟩, Only.refl _ _⟩
  have e : Dsk.append n s.data.toList D = Dsk.appendB n s.data.toList (Dsk.on D) := act_on h0 _
  have hp0 : h.power ≠ 0 := by rw [R.power]; exact h0
  have R1 := R.on
  have ok1 := Dsk.on_ok ok
  rw [e] at ok' bud' lim' ⊢
  clear e
  cases hfd : Dsk.find (Dsk.dir (Dsk.on D)) n with
  | none =>
    have e : Dsk.appendB n s.data.toList (Dsk.on D) = (Dsk.on D, 5) := by unfold Dsk.appendB; rw [hfd]
    rw [e] at ok' bud' lim' ⊢
    have HF : Hid (h.f n = none) := hide ((R.find n).trans hfd)
    have HH := hide HD
    have HB := hide bud'
    have HRR := hide R1
    clear HD bud' R1 e ok1 hfd R
    go_enter Tryz.func23, Tryz.ntmps23
    go_wp2_with fail
    refine (operate_none HH.out hp0 p1 p2 ho n hn HF.out).mono ?_
    rintro e w1 ⟨rfl, H1, hO⟩
    go_wp2
    go_ret
    exact ⟨rfl, ⟨ok', HB.out, lim', h.on, H1.wide _, HRR.out, by show h.mc ≤ _; omega, hfl⟩, hO⟩
  | some i =>
    have hlt := Dsk.find_lt ok1 hfd
    have him : i < h.made := by rw [R.made]; exact hlt
    have HF : Hid (h.f n = some i) := hide ((R.find n).trans hfd)
    have hru := R.used
    have hrr := R.room
    have hlr := lim.room
    obtain ⟨t1, t2, t3⟩ := hfi i him
    have hsw : IntKind.i64.wrap (h.used + (s.size : Int)) = h.used + (s.size : Int) := by rw [IntKind.wrap_i64]; omega
    by_cases hroom : D.room < Dsk.used D + s.size
    · have e : Dsk.appendB n s.data.toList (Dsk.on D) = (Dsk.on D, 9) := by
        unfold Dsk.appendB
        rw [hfd]
        simp only
        rw [if_pos (by rw [sz_toList]; exact hroom)]
      rw [e] at ok' bud' lim' ⊢
      have hgt : decide ((h.room : Int) < h.used + (s.size : Int)) = true := decide_eq_true (by omega)
      have HH := hide HD
      have HB := hide bud'
      have HRR := hide R1
      clear HD bud' R1 e ok1 hfd R hroom hru hrr
      go_enter Tryz.func23, Tryz.ntmps23
      go_wp2_with fail
      refine (operate_some HH.out hp0 p1 p2 ho n hn HF.out).mono ?_
      rintro e w1 ⟨rfl, H1, hO⟩
      have HH1 := hide H1
      clear H1
      go_wp2_with fail
      refine wp_region_growK S [] [0, 1, 2, 3, 4, 5, 6, 7, 8, 9, 10, 11] [] (by kernel_rfl) (by kernel_rfl) (by kernel_rfl) (by kernel_rfl) ?_
      intro w2 hb2
      simp only [stagesOfK, getLK, pickLK]
      have H2 := HH1.out.below hb2
      obtain ⟨c0, c1, _, _, _, _, _, _, _⟩ := H2.look
      have inh : Nonempty (GrK S w2) := GrK.some _ w2
      have x0 := fun x : GrK S w2 => x.cell (a := ⟨p, 0, none⟩) H2.sp c0
      have x1 := fun x : GrK S w2 => x.cell (a := ⟨p, 1, none⟩) H2.sp c1
      simp only [Hd.on] at x0 x1
      have HH2 := hide H2
      clear H2 c0 c1
      refine wpG_lastK ?_
      repeat (go_big_quiet_step (fail))
      refine wpQuiet_nil ?_
      clear x0 x1 inh
      go_wp2
      go_ret
      exact ⟨rfl, ⟨ok', HB.out, lim', h.on, HH2.out.wide _, HRR.out, by show h.mc ≤ _; omega, hfl⟩, hO.then_below hb2⟩
    · have hgt : decide ((h.room : Int) < h.used + (s.size : Int)) = false := decide_eq_false (by omega)
      have eB : Dsk.appendB n s.data.toList (Dsk.on D) = if D.fail = 1 then ({ Dsk.on D with fail := 0 }, 10) else ({ Dsk.on D with fail := D.fail - 1, files := D.files.set i (Dsk.hist D i ++ Dsk.fronts (Dsk.now D i) s.data.toList) }, 0) := by
        unfold Dsk.appendB
        rw [hfd]
        simp only
        rw [if_neg (by rw [sz_toList]; exact hroom)]
        rfl
      have hft := R.fail
      by_cases hf0 : h.fail < 1
      · rw [if_neg (by omega)] at eB
        rw [eB] at ok' bud' lim' ⊢
        have HH := hide HD
        have HRR := hide R1
        have HOK := hide ok1
        have HFD := hide hfd
        have HB := hide bud'
        have HOK' := hide ok'
        have HL' := hide lim'
        clear HD R1 ok1 hfd R hroom hru hrr bud' ok' lim' bud ok lim eB
        go_enter Tryz.func23, Tryz.ntmps23
        go_wp2_with fail
        refine (operate_some HH.out hp0 p1 p2 ho n hn HF.out).mono ?_
        rintro e w1 ⟨rfl, H1, hO⟩
        have HH1 := hide H1
        clear H1
        go_wp2_with fail
        refine wp_region_growK S [] [0, 1, 2, 3, 4, 5, 6, 7, 8, 9, 10, 11] [] (by kernel_rfl) (by kernel_rfl) (by kernel_rfl) (by kernel_rfl) ?_
        intro w2 hb2
        simp only [stagesOfK, getLK, pickLK]
        have H2 := HH1.out.below hb2
        obtain ⟨c0, c1, _, _, _, _, _, _, _⟩ := H2.look
        have inh : Nonempty (GrK S w2) := GrK.some _ w2
        have x0 := fun x : GrK S w2 => x.cell (a := ⟨p, 0, none⟩) H2.sp c0
        have x1 := fun x : GrK S w2 => x.cell (a := ⟨p, 1, none⟩) H2.sp c1
        simp only [Hd.on] at x0 x1
        have HH2 := hide H2
        have HO2 := hide (hO.then_below hb2)
        clear H2 c0 c1 hb2 hO HH1
        refine wpG_lastK ?_
        repeat (go_big_quiet_step (fail))
        refine wpQuiet_nil ?_
        clear x0 x1 inh
        go_wp2_with fail
        refine (fails_no HH2.out hf0).mono ?_
        rintro e w3 ⟨rfl, hw⟩
        rw [hw]
        clear hw
        go_wp2_with fail
        refine (grow_at HH2.out him s (by show (h.fl i).text.length + _ ≤ _; omega) (by show (h.fl i).grown + _ ≤ _; omega)).mono ?_
        rintro e w4 ⟨rfl, ⟨v, H4⟩, hO4⟩
        obtain ⟨_, d1, _, _, _, _, _, _, df⟩ := H4.look
        have hsz := hO4.size
        have HH4 := hide H4
        have HO4 := hide hO4
        clear H4 hO4
        simp only [Hd.file] at d1
        try simp only [Hd.on] at d1
        go_wp2
        go_ret
        have RR := HRR.out.setfile HOK.out HFD.out ((HRR.out.files i him).grow s.data.toList) v (h.kv i) (u := h.used + (s.size : Int)) (x := h.fail) (k := D.fail - 1) (by simp only [Hd.on]; rw [List.length_append, sz_toList]; push_cast; omega) (by omega)
        rw [show (Hd.on h).fl i = h.fl i from rfl, sz_toList] at RR
        have hnw : Dsk.now D i = (h.fl i).text := HRR.out.now him
        rw [show Dsk.fronts (h.fl i).text = Dsk.fronts (Dsk.now D i) by rw [hnw]] at RR
        refine ⟨rfl, ⟨HOK'.out, HB.out, HL'.out, _, ((HH4.out.set { (Hd.file h.on i { (h.fl i) with text := (h.fl i).text ++ s.data.toList, grown := (h.fl i).grown + s.size } v (h.kv i)) with used := h.used + (s.size : Int) } 1 _ rfl rfl).to HO2.out.size (by simp [World.setCell])), RR, by show h.mc ≤ _; omega, by show h.fail ≤ _; omega⟩, ?_⟩
        exact (HO2.out.trans' HO4.out).setCell (p := ⟨p, 1, none⟩) HH2.out.sp _
      by_cases hf1 : h.fail = 1
      · rw [if_pos (by omega)] at eB
        rw [eB] at ok' bud' lim' ⊢
        have hfd1 : (h.fail - 1 == 0) = true := by simp [hf1]
        have HH := hide HD
        have HRR := hide R1
        have HOK := hide ok1
        have HFD := hide hfd
        have HB := hide bud'
        have HOK' := hide ok'
        have HL' := hide lim'
        clear HD R1 ok1 hfd R hroom hru hrr bud' ok' lim' bud ok lim eB
        go_enter Tryz.func23, Tryz.ntmps23
        go_wp2_with fail
        refine (operate_some HH.out hp0 p1 p2 ho n hn HF.out).mono ?_
        rintro e w1 ⟨rfl, H1, hO⟩
        have HH1 := hide H1
        clear H1
        go_wp2_with fail
        refine wp_region_growK S [] [0, 1, 2, 3, 4, 5, 6, 7, 8, 9, 10, 11] [] (by kernel_rfl) (by kernel_rfl) (by kernel_rfl) (by kernel_rfl) ?_
        intro w2 hb2
        simp only [stagesOfK, getLK, pickLK]
        have H2 := HH1.out.below hb2
        obtain ⟨c0, c1, _, _, _, _, _, _, _⟩ := H2.look
        have inh : Nonempty (GrK S w2) := GrK.some _ w2
        have x0 := fun x : GrK S w2 => x.cell (a := ⟨p, 0, none⟩) H2.sp c0
        have x1 := fun x : GrK S w2 => x.cell (a := ⟨p, 1, none⟩) H2.sp c1
        simp only [Hd.on] at x0 x1
        have HH2 := hide H2
        have HO2 := hide (hO.then_below hb2)
        clear H2 c0 c1 hb2 hO HH1
        refine wpG_lastK ?_
        repeat (go_big_quiet_step (fail))
        refine wpQuiet_nil ?_
        clear x0 x1 inh
        go_wp2_with fail
        refine (fails_on HH2.out (by show 1 ≤ h.fail; omega) (by show h.fail ≤ _; omega)).mono ?_
        rintro e w3 ⟨rfl, H3, hO3⟩
        simp only [Hd.on] at H3 ⊢
        rw [hfd1]
        have HH3 := hide H3
        clear H3
        go_wp2
        go_ret
        have RR : Rel { h.on with fail := h.fail - 1 } { Dsk.on D with fail := 0 } := ⟨HRR.out.room, HRR.out.used, HRR.out.num, HRR.out.made, HRR.out.ops, HRR.out.power, by show (h.fail - 1).toNat = 0; omega, HRR.out.files, HRR.out.names⟩
        exact ⟨rfl, ⟨HOK'.out, HB.out, HL'.out, _, HH3.out.wide _, RR, by show h.mc ≤ _; omega, by show h.fail - 1 ≤ _; omega⟩, HO2.out.trans' hO3⟩
      · rw [if_neg (by omega)] at eB
        rw [eB] at ok' bud' lim' ⊢
        have hfd1 : (h.fail - 1 == 0) = false := beq_eq_false_iff_ne.2 (by omega)
        have HH := hide HD
        have HRR := hide R1
        have HOK := hide ok1
        have HFD := hide hfd
        have HB := hide bud'
        have HOK' := hide ok'
        have HL' := hide lim'
        clear HD R1 ok1 hfd R hroom hru hrr bud' ok' lim' bud ok lim eB
        go_enter Tryz.func23, Tryz.ntmps23
        go_wp2_with fail
        refine (operate_some HH.out hp0 p1 p2 ho n hn HF.out).mono ?_
        rintro e w1 ⟨rfl, H1, hO⟩
        have HH1 := hide H1
        clear H1
        go_wp2_with fail
        refine wp_region_growK S [] [0, 1, 2, 3, 4, 5, 6, 7, 8, 9, 10, 11] [] (by kernel_rfl) (by kernel_rfl) (by kernel_rfl) (by kernel_rfl) ?_
        intro w2 hb2
        simp only [stagesOfK, getLK, pickLK]
        have H2 := HH1.out.below hb2
        obtain ⟨c0, c1, _, _, _, _, _, _, _⟩ := H2.look
        have inh : Nonempty (GrK S w2) := GrK.some _ w2
        have x0 := fun x : GrK S w2 => x.cell (a := ⟨p, 0, none⟩) H2.sp c0
        have x1 := fun x : GrK S w2 => x.cell (a := ⟨p, 1, none⟩) H2.sp c1
        simp only [Hd.on] at x0 x1
        have HH2 := hide H2
        have HO2 := hide (hO.then_below hb2)
        clear H2 c0 c1 hb2 hO HH1
        refine wpG_lastK ?_
        repeat (go_big_quiet_step (fail))
        refine wpQuiet_nil ?_
        clear x0 x1 inh
        go_wp2_with fail
        refine (fails_on HH2.out (by show 1 ≤ h.fail; omega) (by show h.fail ≤ _; omega)).mono ?_
        rintro e w3 ⟨rfl, H3, hO3⟩
        simp only [Hd.on] at H3 ⊢
        rw [hfd1]
        have HH3 := hide H3
        have HO2 := hide (HO2.out.trans' hO3)
        clear H3 hO3
        go_wp2_with fail
        refine (grow_at HH3.out him s (by show (h.fl i).text.length + _ ≤ _; omega) (by show (h.fl i).grown + _ ≤ _; omega)).mono ?_
        rintro e w4 ⟨rfl, ⟨v, H4⟩, hO4⟩
        obtain ⟨_, d1, _, _, _, _, _, _, df⟩ := H4.look
        have hsz := hO4.size
        have HH4 := hide H4
        have HO4 := hide hO4
        clear H4 hO4
        simp only [Hd.file] at d1
        try simp only [Hd.on] at d1
        go_wp2
        go_ret
        have RR := HRR.out.setfile HOK.out HFD.out ((HRR.out.files i him).grow s.data.toList) v (h.kv i) (u := h.used + (s.size : Int)) (x := h.fail - 1) (k := D.fail - 1) (by simp only [Hd.on]; rw [List.length_append, sz_toList]; push_cast; omega) (by omega)
        rw [show (Hd.on h).fl i = h.fl i from rfl, sz_toList] at RR
        have hnw : Dsk.now D i = (h.fl i).text := HRR.out.now him
        rw [show Dsk.fronts (h.fl i).text = Dsk.fronts (Dsk.now D i) by rw [hnw]] at RR
        refine ⟨rfl, ⟨HOK'.out, HB.out, HL'.out, _, ((HH4.out.set { (Hd.file { h.on with fail := h.fail - 1 } i { (h.fl i) with text := (h.fl i).text ++ s.data.toList, grown := (h.fl i).grown + s.size } v (h.kv i)) with used := h.used + (s.size : Int) } 1 _ rfl rfl).to HO2.out.size (by simp [World.setCell])), RR, by show h.mc ≤ _; omega, by show h.fail - 1 ≤ _; omega⟩, ?_⟩
        exact (HO2.out.trans' HO4.out).setCell (p := ⟨p, 1, none⟩) HH2.out.sp _

end Go.Proofs.YtleomppgkikhnaaGreat
