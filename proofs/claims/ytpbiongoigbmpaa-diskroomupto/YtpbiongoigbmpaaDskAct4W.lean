/-
  Create, SyncDir, Read, Fail, Stop, New of the program's disk: as the chapter says.
-/
import Derived.Test.YtpbiongoigbmpaaDskAct3W
namespace Go.Proofs.Ytpbiongoigbmpaa
open Go.RowKit
open Dsk (Nm Hold Fl Ct By Dk FRel NRel)

/-- A new file. -/
theorem HeapDisk.newFile {S : Nat → Prop} {w : World} {p : Nat} {h : Hd} (H : HeapDisk S w p h) {b : Nat} (hb : w.heap[b]? = some (fileCells h.made (.slice none 0 0) (.slice none 0 0) 0)) :
    HeapDisk (fun x => S x ∨ x = b) w p { h with made := h.made + 1, bl := upd h.bl h.made b, fl := upd h.fl h.made ⟨[], [], 0⟩, tv := upd h.tv h.made (.slice none 0 0), kv := upd h.kv h.made (.slice none 0 0) } := by
  have hbl : ∀ i, i < h.made → upd h.bl h.made b i = h.bl i := fun i hi => upd_ne _ _ (by omega)
  have hv : ∀ (c : List Hold), (∀ x ∈ c, ∀ i, x.2 = some i → i < h.made) → holdV (upd h.bl h.made b) c = holdV h.bl c := fun c hc => by
    unfold holdV
    rw [List.flatMap_def, List.flatMap_def]
    congr 1
    refine List.map_congr_left fun x hx => ?_
    have : x.2.map (upd h.bl h.made b) = x.2.map h.bl := by
      cases e : x.2 with
      | none => rfl
      | some i => simp only [Option.map_some]; rw [hbl i (hc x hx i e)]
    rw [this]
  refine ⟨H.blk, H.map.eq ?_, fun i hi => ?_, fun i j hi hj hn => ?_, ?_, .inl H.sp, .inl H.sm, fun x hx => ?_, fun n i e => Nat.lt_succ_of_lt (H.names n i e), fun c hc => ⟨(H.holds c hc).1, fun x hx => ⟨((H.holds c hc).2 x hx).1, fun i e => Nat.lt_succ_of_lt (((H.holds c hc).2 x hx).2 i e)⟩⟩⟩
  · funext n
    cases e : h.f n with
    | none => rfl
    | some i => simp only [Option.map_some]; rw [hbl i (H.names n i e)]
  · show FileAt _ w (upd h.bl h.made b i) i (upd h.fl h.made ⟨[], [], 0⟩ i) (upd h.tv h.made (.slice none 0 0) i) (upd h.kv h.made (.slice none 0 0) i)
    by_cases e : i = h.made
    · subst e
      rw [upd_at, upd_at, upd_at, upd_at]
      exact ⟨hb, .inl ⟨rfl, none, rfl, fun x e => by cases e⟩, World.ownsRow_nil _ _ _ _, .inr rfl, fun g e => (by cases e), fun g e => (by cases e)⟩
    · rw [upd_ne _ _ e, upd_ne _ _ e, upd_ne _ _ e, upd_ne _ _ e]
      exact (H.files i (by simp only at hi; omega)).mono (fun _ => .inl)
  · simp only at hi hj ⊢
    by_cases e : i = h.made
    · subst e
      rw [upd_at, upd_at]
      exact ⟨fun g e => (by cases e), fun g e => (by cases e)⟩
    · rw [upd_ne _ _ e, upd_ne _ _ e]
      by_cases e2 : j = h.made
      · subst e2
        rw [upd_at, upd_at]
        exact ⟨fun g _ e => (by cases e), fun g _ e => (by cases e)⟩
      · rw [upd_ne _ _ e2, upd_ne _ _ e2]
        exact H.apart i j (by omega) (by omega) hn
  · obtain ⟨⟨vs, h1, h2⟩, h3⟩ := H.chgs
    refine ⟨⟨vs, h1, fun k hk => ?_⟩, fun g e => .inl (h3 g e)⟩
    obtain ⟨v, hv1, hv2⟩ := h2 k hk
    refine ⟨v, hv1, ?_, fun g e => .inl (hv2.2 g e)⟩
    simp only
    rw [hv _ (fun x hx => ((H.holds _ (List.getElem_mem hk)).2 x hx).2)]
    exact hv2.1
  · rcases hx with hx | rfl
    · exact H.lt x hx
    · exact (Array.getElem?_eq_some_iff.1 hb).1
theorem HeapDisk.setNum {S : Nat → Prop} {w : World} {p : Nat} {h : Hd} (H : HeapDisk S w p h) (k : Nat) : HeapDisk S (w.setCell ⟨p, 2, none⟩ (.int .i64 (k : Int))) p { h with num := k } := H.set { h with num := k } 2 _ rfl rfl
theorem Rel.create {h : Hd} {D : Dk} (R : Rel h D) (hk : Dsk.Ok D) {n : ByteArray} (hf : Dsk.find (Dsk.dir D) n = none) (b : Nat) (cv : Value) (mc : Nat) :
    Rel { h with num := h.num + 1, made := h.made + 1, bl := upd h.bl h.made b, fl := upd h.fl h.made ⟨[], [], 0⟩, tv := upd h.tv h.made (.slice none 0 0), kv := upd h.kv h.made (.slice none 0 0), used := usedC (upd h.fl h.made ⟨[], [], 0⟩) [(n, some h.made)] h.f h.used, mc := mc, cv := cv, cs := h.cs ++ [(Dsk.chg [(n, some h.made)] [] h.f).1], f := (Dsk.chg [(n, some h.made)] [] h.f).2 }
      { D with files := D.files ++ [[[]]], dirs := D.dirs ++ [Dsk.without (Dsk.dir D) n ++ [(n, D.files.length)]] } := by
  have hfn : h.f n = none := (R.find n).trans hf
  refine ⟨R.room, ?_, by simp only [List.length_append, List.length_singleton]; rw [R.num], by simp only [List.length_append, List.length_singleton]; rw [R.made], R.ops, R.power, R.fail, fun i hi => ?_, R.names.add (Dsk.chg_undo _ _ _) (fun x => ?_)⟩
  · simp only
    rw [Dsk.used_create hk hf, ← R.used]
    show h.used + (szF _ (some h.made) - szF _ (h.f n)) = h.used
    rw [hfn]
    show h.used + (((upd h.fl h.made ⟨[], [], 0⟩ h.made).text.length : Int) - 0) = h.used
    rw [upd_at]
    simp
  · show FRel (upd h.fl h.made ⟨[], [], 0⟩ i) ((D.files ++ [[[]]]).getD i [])
    by_cases e : i = h.made
    · subst e
      rw [upd_at, R.made, List.getD_eq_getElem?_getD, List.getElem?_concat_length]
      exact FRel.new
    · have hi' : i < h.made := by simp only at hi; omega
      rw [upd_ne _ _ e, List.getD_eq_getElem?_getD, List.getElem?_append_left (by rw [← R.made]; exact hi'), ← List.getD_eq_getElem?_getD]
      exact R.files i hi'
  · rw [Dsk.find_snoc, ← R.find x, ← R.made]
    rfl

set_option maxRecDepth 100000 in
set_option maxHeartbeats 800000 in
theorem create_dk {S : Nat → Prop} {w : World} {p : Nat} {D : Dk} {c : Nat} (H : IsDk S w p D c) (n : ByteArray) (hn : n.size ≤ 9223372036854775807) (hc : c + 1 ≤ 1000000000) :
    Calls Try.prog 11 #[.pointer (some ⟨p, 0, none⟩), .string n] w fun e w' => e = .returned (.int .i64 (Dsk.create n D).2) ∧ IsDk (more S w w') w' p (Dsk.create n D).1 (c + 1) ∧ Only S w w' := by
  obtain ⟨ok, bud, lim, h, HD, R, mc, hfl⟩ := H
  obtain ⟨p1, p2, ho, hus, hcs, hfi⟩ := IsDk.nums ok bud lim R (by omega)
  have ok' := Dsk.create_ok n ok
  have bud' := Dsk.bud_create n bud ok
  have lim' := lim_create n lim
  by_cases h0 : D.left = 0
  · have e : Dsk.create n D = (D, 11) := act_dead h0 _
    rw [e] at ok' bud' lim' ⊢
    have hp0 : h.power = 0 := by rw [R.power]; exact h0
    have HH := hide HD
    have HB := hide bud'
    have HRR := hide R
    clear HD bud' R e ok bud lim
    go_enter Try.func11, Try.ntmps11
    go_wp2_with fail
    refine (count_dead HH.out hp0).mono ?_
    rintro e w1 ⟨rfl, hw⟩
    rw [hw]
    clear hw
    go_wp2
    go_ret
    exact ⟨rfl, ⟨ok', HB.out, lim', h, HH.out.wide _, HRR.out, by omega, hfl⟩, Only.refl _ _⟩
  have e : Dsk.create n D = Dsk.createB n (Dsk.on D) := act_on h0 _
  have hp0 : h.power ≠ 0 := by rw [R.power]; exact h0
  have R1 := R.on
  have ok1 := Dsk.on_ok ok
  rw [e] at ok' bud' lim' ⊢
  clear e
  cases hnm : Dsk.isName n with
  | false =>
    have e : Dsk.createB n (Dsk.on D) = (Dsk.on D, 3) := by
      unfold Dsk.createB
      rw [if_pos hnm]
    rw [e] at ok' bud' lim' ⊢
    have HNM := hide hnm
    have HH := hide HD
    have HRR := hide R1
    have HOK := hide ok1
    have HB := hide bud'
    have HOK' := hide ok'
    have HL' := hide lim'
    clear HD R1 ok1 R bud' ok' lim' bud ok lim e hnm
    go_enter Try.func11, Try.ntmps11
    go_wp2_with fail
    refine (count_on HH.out hp0 p1 p2 ho).mono ?_
    rintro e w1 ⟨rfl, H1, hO⟩
    have HH1 := hide H1
    have HO1 := hide hO
    clear H1 hO
    go_wp2_with fail
    refine (isName_any n _ hn).mono ?_
    rintro e w3 ⟨rfl, hw⟩
    rw [hw, HNM.out]
    clear hw
    go_wp2
    go_ret
    exact ⟨rfl, ⟨HOK'.out, HB.out, HL'.out, h.on, HH1.out.wide _, HRR.out, by show h.mc ≤ _; omega, hfl⟩, HO1.out⟩
  | true =>
    have HNM := hide hnm
    cases hfd : Dsk.find (Dsk.dir (Dsk.on D)) n with
    | some i =>
      have e : Dsk.createB n (Dsk.on D) = (Dsk.on D, 4) := by
        unfold Dsk.createB
        rw [if_neg (by rw [hnm]; decide), hfd]
      rw [e] at ok' bud' lim' ⊢
      have HF : Hid (h.f n = some i) := hide ((R.find n).trans hfd)
      have HH := hide HD
      have HRR := hide R1
      have HOK := hide ok1
      have HB := hide bud'
      have HOK' := hide ok'
      have HL' := hide lim'
      clear HD R1 ok1 R bud' ok' lim' bud ok lim e hnm hfd
      go_enter Try.func11, Try.ntmps11
      go_wp2_with fail
      refine (count_on HH.out hp0 p1 p2 ho).mono ?_
      rintro e w1 ⟨rfl, H1, hO⟩
      have HH1 := hide H1
      have HO1 := hide hO
      clear H1 hO
      go_wp2_with fail
      refine (isName_any n _ hn).mono ?_
      rintro e w3 ⟨rfl, hw⟩
      rw [hw, HNM.out]
      clear hw
      obtain ⟨_, _, _, _, _, _, c6, _, _⟩ := HH1.out.look
      have hl := HH1.out.map.look (n := n) hn
      simp only [Hd.on] at hl c6
      rw [HF.out] at hl
      simp only [Option.map_some, ptrV] at hl
      go_wp2
      go_ret
      exact ⟨rfl, ⟨HOK'.out, HB.out, HL'.out, h.on, HH1.out.wide _, HRR.out, by show h.mc ≤ _; omega, hfl⟩, HO1.out⟩
    | none =>
      have e : Dsk.createB n (Dsk.on D) = ({ Dsk.on D with files := D.files ++ [[[]]], dirs := D.dirs ++ [Dsk.without (Dsk.dir D) n ++ [(n, D.files.length)]] }, 0) := by
        unfold Dsk.createB
        rw [if_neg (by rw [hnm]; decide), hfd]
        rfl
      rw [e] at ok' bud' lim' ⊢
      have HF : Hid (h.f n = none) := hide ((R.find n).trans hfd)
      have HFD := hide hfd
      have hnu : h.num = h.made := by rw [R.num, R.made]
      have hmd : h.made ≤ 1000000000 := by rw [R.made]; have := bud.files; omega
      have HH := hide HD
      have HRR := hide R1
      have HOK := hide ok1
      have HB := hide bud'
      have HOK' := hide ok'
      have HL' := hide lim'
      clear HD R1 ok1 R bud' ok' lim' bud ok lim e hnm hfd
      go_enter Try.func11, Try.ntmps11
      go_wp2_with fail
      refine (count_on HH.out hp0 p1 p2 ho).mono ?_
      rintro e w1 ⟨rfl, H1, hO⟩
      have HH1 := hide H1
      have HO1 := hide hO
      clear H1 hO
      go_wp2_with fail
      refine (isName_any n _ hn).mono ?_
      rintro e w3 ⟨rfl, hw⟩
      rw [hw, HNM.out]
      clear hw
      obtain ⟨_, _, c2, _, _, _, c6, _, _⟩ := HH1.out.look
      have hl := HH1.out.map.look (n := n) hn
      simp only [Hd.on] at hl c6 c2
      rw [HF.out] at hl
      simp only [Option.map_none, ptrV] at hl
      rw [hnu] at c2
      have HNU := hide hnu
      clear hnu
      have hfb : (w1.alloc (.cells #[.int .i64 (h.made : Int), .slice none 0 0, .slice none 0 0, .int .i64 0] 57)).heap[w1.heap.size]? = some (fileCells h.on.made (.slice none 0 0) (.slice none 0 0) 0) := heap_new _ _
      have HA := hide ((HH1.out.below ((Below.refl _ w1).alloc (Nat.le_refl _) (.cells #[.int .i64 (h.made : Int), .slice none 0 0, .slice none 0 0, .int .i64 0] 57))).newFile hfb)
      have HA2 := hide (HA.out.below ((Below.refl _ _).alloc (Nat.le_refl _) (.cells #[.string n, .pointer (some ⟨w1.heap.size, 0, none⟩)] 59)))
      have HNB : Hid (((w1.alloc (.cells #[.int .i64 (h.made : Int), .slice none 0 0, .slice none 0 0, .int .i64 0] 57)).alloc (.cells #[.string n, .pointer (some ⟨w1.heap.size, 0, none⟩)] 59)).heap[w1.heap.size + 1]? = some (.cells #[.string n, .pointer (some ⟨w1.heap.size, 0, none⟩)] 59 (0, 0))) := hide (by
        have := heap_new (w1.alloc (.cells #[.int .i64 (h.made : Int), .slice none 0 0, .slice none 0 0, .int .i64 0] 57)) (.cells #[.string n, .pointer (some ⟨w1.heap.size, 0, none⟩)] 59)
        rw [World.size_alloc] at this
        exact this)
      clear hfb HA
      have hbu : adr ((some h.made).map (upd h.bl h.made w1.heap.size)) = some ⟨w1.heap.size, 0, none⟩ := by
        simp only [Option.map_some, adr, upd_at]
      have HBU := hide hbu
      clear hbu
      go_wp2_with fail
      refine (change_at HA2.out [(n, some h.made)] (w1.heap.size + 1) 0 1 (NowAt.one (o := some h.made) (t := 59) (by simp only [Hd.on]; rw [HBU.out]; exact HNB.out)) (by simp) (fun e => by
        rcases e with e | e
        · have := HH1.out.lt _ e; omega
        · omega) (by simp) (fun x hx j e => by
        simp at hx
        subst hx
        cases e
        exact Nat.lt_succ_self _) (fun x hx => by simp at hx; subst hx; exact hn) (by show h.mc ≤ _; omega) (by show h.cs.length ≤ _; omega) (by show _ ≤ h.used ∧ h.used ≤ _; omega) (fun j hj => by
        show (upd h.fl h.made ⟨[], [], 0⟩ j).text.length ≤ _
        by_cases e : j = h.made
        · subst e; rw [upd_at]; exact Nat.zero_le _
        · rw [upd_ne _ _ e]
          have := (hfi j (by have : j < h.made + 1 := hj; omega)).1
          omega)).mono ?_
      rintro e w3 ⟨rfl, ⟨cv, H3⟩, hO3⟩
      obtain ⟨_, _, d2, _, _, _, _, _, df⟩ := H3.look
      simp only [Hd.on] at d2
      rw [HNU.out] at d2
      have HH3 := hide H3
      have HO3 := hide hO3
      clear H3 hO3
      go_wp2
      go_ret
      have RR := HRR.out.create HOK.out HFD.out w1.heap.size cv (h.mc + 1)
      have hval : (Value.int .i64 ((h.made : Int) + 1)) = .int .i64 ((h.num + 1 : Nat) : Int) := by rw [HNU.out]; rfl
      have hO' : Only S w w3 := by
        refine (HO1.out.then_below (((Below.refl _ w1).alloc (Nat.le_refl _) _).trans ((Below.refl _ _).alloc (by simp) _))).trans (HO3.out.mono (fun b e => ?_))
        rcases e with e | rfl
        · exact .inl e
        · exact .inr ⟨HO1.out.size, by simp; omega⟩
      refine ⟨rfl, ⟨HOK'.out, HB.out, HL'.out, _, ?_, RR, by show h.mc + 1 ≤ _; omega, hfl⟩, hO'.setCell (p := ⟨p, 2, none⟩) HH1.out.sp _⟩
      rw [hval]
      refine (HH3.out.setNum (h.num + 1)).mono (fun b hb => ?_) (fun b hb => ?_)
      · rcases hb with (hb | rfl) | hb
        · exact .inl hb
        · exact .inr ⟨HO1.out.size, by have := hO'.size; have := HO3.out.size; simp [World.setCell] at *; omega⟩
        · exact .inr (by have := HO1.out.size; simp [World.setCell] at *; omega)
      · rcases hb with hb | hb
        · have := HH1.out.lt b hb; have := HO3.out.size; simp [World.setCell] at *; omega
        · exact hb.2

set_option maxRecDepth 100000 in
set_option maxHeartbeats 800000 in
theorem syncDir_dk {S : Nat → Prop} {w : World} {p : Nat} {D : Dk} {c : Nat} (H : IsDk S w p D c) (hc : c + 1 ≤ 1000000000) :
    Calls Try.prog 14 #[.pointer (some ⟨p, 0, none⟩)] w fun e w' => e = .returned (.int .i64 (Dsk.syncDir D).2) ∧ IsDk (more S w w') w' p (Dsk.syncDir D).1 (c + 1) ∧ Only S w w' := by
  obtain ⟨ok, bud, lim, h, HD, R, mc, hfl⟩ := H
  obtain ⟨p1, p2, ho, hus, hcs, hfi⟩ := IsDk.nums ok bud lim R (by omega)
  have ok' := Dsk.syncDir_ok ok
  have bud' := Dsk.bud_syncDir bud ok
  have lim' := lim_syncDir lim
  by_cases h0 : D.left = 0
  · have e : Dsk.syncDir D = (D, 11) := act_dead h0 _
    rw [e] at ok' bud' lim' ⊢
    have hp0 : h.power = 0 := by rw [R.power]; exact h0
    have HH := hide HD
    have HB := hide bud'
    have HRR := hide R
    clear HD bud' R e ok bud lim
    go_enter Try.func14, Try.ntmps14
    go_wp2_with fail
    refine (count_dead HH.out hp0).mono ?_
    rintro e w1 ⟨rfl, hw⟩
    rw [hw]
    clear hw
    go_wp2
    go_ret
    exact ⟨rfl, ⟨ok', HB.out, lim', h, HH.out.wide _, HRR.out, by omega, hfl⟩, Only.refl _ _⟩
  have e : Dsk.syncDir D = ({ Dsk.on D with dirs := [Dsk.dir D] }, 0) := act_on h0 _
  have hp0 : h.power ≠ 0 := by rw [R.power]; exact h0
  rw [e] at ok' bud' lim' ⊢
  have HH := hide HD
  have HRR := hide R.on
  have HB := hide bud'
  clear HD R bud' e ok bud lim
  go_enter Try.func14, Try.ntmps14
  go_wp2_with fail
  refine (count_on HH.out hp0 p1 p2 ho).mono ?_
  rintro e w1 ⟨rfl, H1, hO⟩
  obtain ⟨_, _, _, _, _, _, _, c7, cf⟩ := H1.look
  obtain ⟨vs, hvs, _⟩ := H1.chgs.row
  obtain ⟨ca, cc, hcv⟩ := own_slice hvs
  rw [hcv] at c7
  have HH1 := hide H1
  have HO1 := hide hO
  clear H1 hO hvs hcv
  go_wp2
  go_ret
  have RR : Rel { h.on with cv := .slice none 0 0, cs := [] } { Dsk.on D with dirs := [Dsk.dir D] } := ⟨HRR.out.room, HRR.out.used, HRR.out.num, HRR.out.made, HRR.out.ops, HRR.out.power, HRR.out.fail, HRR.out.files, NRel.one (fun n => HRR.out.find n)⟩
  refine ⟨rfl, ⟨ok', HB.out, lim', _, HeapDisk.wide _ (HH1.out.chg (S' := S) (cv := .slice none 0 0) (cs := []) (fun _ h => h) (fun b hb => by have := HH1.out.lt b hb; simpa [World.setCell] using this) (fun b _ h1 _ => Below.heap_setCell _ _ _ _ h1) ?_ ⟨⟨[], World.ownsRow_nil _ _ _ _, fun k hk => (by simp at hk)⟩, fun g e => (by cases e)⟩ (fun c hc => by simp at hc)), RR, by show h.mc ≤ _; omega, hfl⟩, HO1.out.setCell (p := ⟨p, 7, none⟩) HH1.out.sp _⟩
  rw [heap_setCell_same _ _ _ _ _ _ HH1.out.blk]
  rfl

theorem conv_all {w : World} {v : Value} {t : By} (h : TextAt w v t) : (convert 32 9 v).run Try.prog w = .ok (.string (Num.bs t)) w := by
  obtain ⟨a, c, rfl, _⟩ := h.len
  have := h.conv (n := 0) (Nat.zero_le _) w (fun _ _ => rfl)
  rw [List.drop_zero, Nat.sub_zero, Nat.sub_zero] at this
  have e : (if c = 0 then a else a.map (fun x : Addr => x.add 0)) = a := by
    split
    · rfl
    · cases a with
      | none => rfl
      | some a => cases a; simp [Addr.add]
  rw [e] at this
  exact this

set_option maxRecDepth 100000 in
set_option maxHeartbeats 800000 in
theorem read_dk {S : Nat → Prop} {w : World} {p : Nat} {D : Dk} {c : Nat} (H : IsDk S w p D c) (n : ByteArray) (hn : n.size ≤ maxLen) :
    Calls Try.prog 16 #[.pointer (some ⟨p, 0, none⟩), .string n] w fun e w' => e = .returned (.tuple #[.string (Num.bs (Dsk.read n D).1), .int .i64 (Dsk.read n D).2]) ∧ w' = w := by
  obtain ⟨ok, bud, lim, h, HD, R, mc, hfl⟩ := H
  obtain ⟨_, _, _, _, c4, _, _, _, _⟩ := HD.look
  by_cases h0 : D.left = 0
  · have e : Dsk.read n D = ([], 11) := by unfold Dsk.read; rw [if_pos h0]
    rw [e]
    have hp0 : h.power = 0 := by rw [R.power]; exact h0
    rw [hp0] at c4
    clear HD R e hp0
    go_enter Try.func16, Try.ntmps16
    go_wp2
    go_ret2
    exact ⟨rfl, rfl⟩
  have hp0 : (h.power == 0) = false := beq_eq_false_iff_ne.2 (by rw [R.power]; exact h0)
  cases hfd : Dsk.find (Dsk.dir D) n with
  | none =>
    have e : Dsk.read n D = ([], 5) := by unfold Dsk.read; rw [if_neg h0, hfd]
    rw [e]
    have HF : Hid (h.f n = none) := hide ((R.find n).trans hfd)
    have HH := hide HD
    clear HD R e hfd
    go_enter Try.func16, Try.ntmps16
    go_wp2_with fail
    refine (find_none HH.out n hn HF.out).mono ?_
    rintro e w1 ⟨rfl, hw⟩
    rw [hw]
    clear hw
    go_wp2
    go_ret2
    exact ⟨rfl, rfl⟩
  | some i =>
    have him : i < h.made := by rw [R.made]; exact Dsk.find_lt ok hfd
    have e : Dsk.read n D = ((h.fl i).text, 0) := by unfold Dsk.read; rw [if_neg h0, hfd]; simp only; rw [R.now him]
    rw [e]
    have HF : Hid (h.f n = some i) := hide ((R.find n).trans hfd)
    obtain ⟨_, d1, _, _, _, _⟩ := HD.lookF him
    have hcv := conv_all (HD.files i him).text
    have HH := hide HD
    clear HD R e hfd
    go_enter Try.func16, Try.ntmps16
    go_wp2_with fail
    refine (find_some HH.out n hn HF.out).mono ?_
    rintro e w1 ⟨rfl, hw⟩
    rw [hw]
    clear hw
    go_wp2
    go_ret2
    exact ⟨rfl, rfl⟩

theorem used_dk {S : Nat → Prop} {w : World} {p : Nat} {D : Dk} {c : Nat} (H : IsDk S w p D c) :
    Calls Try.prog 10 #[.pointer (some ⟨p, 0, none⟩)] w fun e w' => e = .returned (.int .i64 ((Dsk.used D : Nat) : Int)) ∧ w' = w := by
  obtain ⟨_, _, _, h, HD, R, _, _⟩ := H
  rw [← R.used]
  exact used_at HD
theorem fail_dk {S : Nat → Prop} {w : World} {p : Nat} {D : Dk} {c : Nat} (H : IsDk S w p D c) (n : Int) (hn : n ≤ 9223372036854775807) :
    Calls Try.prog 8 #[.pointer (some ⟨p, 0, none⟩), .int .i64 n] w fun e w' => e = .returned (.tuple #[]) ∧ IsDk S w' p (Dsk.setFail n D) c ∧ Only S w w' := by
  obtain ⟨ok, bud, lim, h, HD, R, mc, hfl⟩ := H
  exact (fail_at HD n).mono fun e w' ⟨a, H', O⟩ => ⟨a, ⟨Dsk.setFail_ok n ok, Dsk.bud_setFail n bud, ⟨lim.room, lim.left⟩, _, H', ⟨R.room, R.used, R.num, R.made, R.ops, R.power, rfl, R.files, R.names⟩, mc, hn⟩, O⟩
theorem stop_dk {S : Nat → Prop} {w : World} {p : Nat} {D : Dk} {c : Nat} (H : IsDk S w p D c) (n : Int) (hn : n ≤ 9223372036854775807) :
    Calls Try.prog 9 #[.pointer (some ⟨p, 0, none⟩), .int .i64 n] w fun e w' => e = .returned (.tuple #[]) ∧ IsDk S w' p (Dsk.setStop n D) c ∧ Only S w w' := by
  obtain ⟨ok, bud, lim, h, HD, R, mc, hfl⟩ := H
  exact (stop_at HD n).mono fun e w' ⟨a, H', O⟩ => ⟨a, ⟨Dsk.setStop_ok n ok, Dsk.bud_setStop n bud, ⟨lim.room, by show max n (-1) ≤ _; omega⟩, _, H', ⟨R.room, R.used, R.num, R.made, R.ops, rfl, R.fail, R.files, R.names⟩, mc, hfl⟩, O⟩

def noneS : Nat → Prop := fun _ => False
set_option maxRecDepth 100000 in
set_option maxHeartbeats 800000 in
theorem new_dk (room : Int) (w : World) (hr : room ≤ 9223372036854775807) :
    Calls Try.prog 13 #[.int .i64 room] w fun e w' => e = .returned (.pointer (some ⟨w.heap.size + 1, 0, none⟩)) ∧ IsDk (more noneS w w') w' (w.heap.size + 1) (Dsk.fresh room) 0 ∧ Below w.heap.size w w' := by
  have fin : ∀ (r : Nat), r = room.toNat → IsDk (more noneS w ((w.alloc (.map #[] 0)).alloc (.cells #[.int .i64 (r : Int), .int .i64 0, .int .i64 0, .int .i64 0, .int .i64 (-1), .int .i64 0, .map (some w.heap.size), .slice none 0 0] 51)))
      ((w.alloc (.map #[] 0)).alloc (.cells #[.int .i64 (r : Int), .int .i64 0, .int .i64 0, .int .i64 0, .int .i64 (-1), .int .i64 0, .map (some w.heap.size), .slice none 0 0] 51)) (w.heap.size + 1) (Dsk.fresh room) 0 := by
    intro r hrr
    refine ⟨Dsk.fresh_ok room, Dsk.bud_fresh room, ⟨by show room.toNat ≤ _; omega, by show (-1 : Int) ≤ _; omega⟩, ⟨r, 0, 0, 0, 0, -1, 0, w.heap.size, 0, .slice none 0 0, [], fun _ => none, fun _ => 0, fun _ => ⟨[], [], 0⟩, fun _ => .slice none 0 0, fun _ => .slice none 0 0⟩, ?_, ?_, Nat.zero_le _, by show (0 : Int) ≤ _; omega⟩
    · refine ⟨?_, ?_, fun i hi => absurd hi (Nat.not_lt_zero _), fun i j hi => absurd hi (Nat.not_lt_zero _), ⟨⟨[], World.ownsRow_nil _ _ _ _, fun k hk => absurd hk (Nat.not_lt_zero _)⟩, fun g e => (by cases e)⟩, .inr (by simp), .inr (by simp; omega), fun b hb => ?_, fun n i e => (by cases e), fun c hc => (by simp at hc)⟩
      · have := heap_new (w.alloc (.map #[] 0)) (.cells #[.int .i64 (r : Int), .int .i64 0, .int .i64 0, .int .i64 0, .int .i64 (-1), .int .i64 0, .map (some w.heap.size), .slice none 0 0] 51)
        rw [World.size_alloc] at this
        exact this
      · exact (MapIs.made w).keep (Below.heap_alloc _ _ _ (by simp))
      · rcases hb with hb | hb
        · exact hb.elim
        · exact hb.2
    · exact ⟨hrr, rfl, rfl, rfl, rfl, rfl, rfl, fun i hi => absurd hi (Nat.not_lt_zero _), NRel.one (fun n => rfl)⟩
  have hmm := @run_makeMap Try.prog
  have bel : ∀ o1 o2, Below w.heap.size w ((w.alloc o1).alloc o2) := fun o1 o2 => ((Below.refl _ w).alloc (Nat.le_refl _) _).alloc (by simp) _
  have FIN := hide fin
  have BEL := hide bel
  clear fin bel
  by_cases h0 : room < 0
  · go_enter Try.func13, Try.ntmps13
    go_wp2
    go_ret
    exact ⟨rfl, FIN.out 0 (by omega), BEL.out _ _⟩
  · obtain ⟨r, rfl⟩ : ∃ r : Nat, room = (r : Int) := ⟨room.toNat, by omega⟩
    go_enter Try.func13, Try.ntmps13
    go_wp2
    go_ret
    exact ⟨rfl, FIN.out r (by omega), BEL.out _ _⟩

end Go.Proofs.Ytpbiongoigbmpaa
