/-
  The document's Crash.
-/
import Derived.Test.YtleomppgkikhnaaGreatRefDisk
import Derived.Test.YtleomppgkikhnaaGreatPlain
namespace Go.Proofs.YtleomppgkikhnaaGreat
open Go.RowKit
open Dsk (By Dk)

theorem RefAt.rowAt {S : Nat → Prop} {w : World} {p : Nat} {D : Dk} {fv dv : Value} {fs ds : List Value} (H : RefAt S w p D fv dv fs ds) (ok : Dsk.Ok D) (k : Int) : ∃ (i : Nat) (v : Value), max 0 (min k ((D.dirs.length : Int) - 1)) = (i : Int) ∧ i < D.dirs.length ∧ ds[i]? = some v ∧ NmdAt S w v (Dsk.rowAt D k) := by
  have hl : 0 < D.dirs.length := List.length_pos_iff.2 ok.some
  obtain ⟨i, hi⟩ : ∃ i : Nat, (min k ((D.dirs.length : Int) - 1)).toNat = i := ⟨_, rfl⟩
  have hil : i < D.dirs.length := by omega
  obtain ⟨v, h1, h2⟩ := H.dir i hil
  refine ⟨i, v, by omega, hil, h1, ?_⟩
  unfold Dsk.rowAt
  rw [hi, List.getD_eq_getElem?_getD, List.getElem?_eq_getElem hil]
  exact h2
theorem mom_at {D : Dk} (ok : Dsk.Ok D) (ks : List Int) {n : Nat} (hn : n < D.files.length) : ∃ i : Nat, i < (Dsk.hist D n).length ∧ (strsV (Dsk.hist D n))[i]? = some (.string (Num.bs (Dsk.momAt D ks n))) ∧
    (n < ks.length → max 0 (min (ks.getD n 0) (((Dsk.hist D n).length : Int) - 1)) = (i : Int)) ∧ (¬ n < ks.length → i = 0) := by
  have h := ok.hists _ (Dsk.hist_mem hn)
  have hl : 0 < (Dsk.hist D n).length := List.length_pos_iff.2 h
  have fin : ∀ i, i < (Dsk.hist D n).length → (strsV (Dsk.hist D n))[i]? = some (.string (Num.bs ((Dsk.hist D n).getD i []))) := fun i hi => by
    unfold strsV
    rw [List.getElem?_map, List.getElem?_eq_getElem hi, List.getD_eq_getElem?_getD, List.getElem?_eq_getElem hi]
    rfl
  by_cases hk : n < ks.length
  · refine ⟨(min (ks.getD n 0) (((Dsk.hist D n).length : Int) - 1)).toNat, by omega, ?_, fun _ => by omega, fun h => absurd hk h⟩
    have := fin (min (ks.getD n 0) (((Dsk.hist D n).length : Int) - 1)).toNat (by omega)
    unfold Dsk.momAt
    rw [if_pos hk]
    exact this
  · refine ⟨0, hl, ?_, fun h => absurd h hk, fun _ => rfl⟩
    have := fin 0 hl
    unfold Dsk.momAt
    rw [if_neg hk]
    exact this
/-- The disk that is being made, and the row of its names beside it. -/
structure Mk (w : World) (q : Nat) (T : Nat → Prop) (wr : World) (D : Dk) (ps : List (ByteArray × By)) (fv dv : Value) (fs ds : List Value) (rv : Value) : Prop where
  ref : RefAt T wr q (Dsk.half D ps) fv dv fs ds
  row : wr.ownsRow w.heap.size 77 2 rv ps.length (nmdV (Dsk.numbered 0 ps))
  ap : ∀ g, rv.ownBlock = some g → ¬ T g
  ge : ∀ b, T b → w.heap.size ≤ b
  bel : Below w.heap.size w wr
/-- 'append(row, Named{..})': what grows is the row alone. -/
theorem nmd_appG {w : World} {base : Nat} {v : Value} {l : Dsk.Row} (h : w.ownsRow base 77 2 v l.length (nmdV l)) (n : ByteArray) (i : Nat) (hl : l.length ≤ 1000000000000) (hb : base ≤ w.heap.size) (ty : TypeId) :
    ∃ v' w', (Builtin.append_ #[75, 75] ty #[v, .slice (some ⟨w.heap.size, 0, none⟩) 1 1]).run Tryz.prog (w.alloc (.cells #[.string n, .int .i64 (i : Int)] 77)) = .ok v' w' ∧
      w'.ownsRow base 77 2 v' (l ++ [(n, i)]).length (nmdV (l ++ [(n, i)])) ∧ (w.alloc (.cells #[.string n, .int .i64 (i : Int)] 77)).grownBy w' v.ownBlock ∧ (v'.ownBlock = v.ownBlock ∨ ∀ g, v'.ownBlock = some g → w.heap.size ≤ g) := by
  obtain ⟨ti, hi, hz, hs, hby⟩ := nmd_info
  obtain ⟨v', w', hr, ho, hg, hob⟩ := app_own (w.alloc (.cells #[.string n, .int .i64 (i : Int)] 77)) base 75 ty 77 ti _ 2 24 unmds hi hz hs hby rfl (by decide) v l.length (nmdV l) (h.alloc _) ⟨w.heap.size, 0, none⟩ 1 1
    [.string n, .int .i64 (i : Int)] rfl (two_new2 _ _ _ _) (fun u hu => by simp at hu; rcases hu with rfl | rfl <;> rfl) (by unfold maxLen; omega) (by omega) (by simp; omega)
  refine ⟨v', w', hr, ?_, hg, ?_⟩
  · rw [nmdV_app, List.length_append]
    exact ho
  · rcases hob with e | e
    · exact .inl e
    · refine .inr fun g k => ?_
      rw [e] at k
      cases k
      simp
/-- A name more in the row. -/
theorem Mk.addName {w : World} {q : Nat} {T : Nat → Prop} {wr : World} {D : Dk} {ps : List (ByteArray × By)} {fv dv : Value} {fs ds : List Value} {rv : Value} (M : Mk w q T wr D ps fv dv fs ds rv) (n : ByteArray) (hl : ps.length ≤ 1000000000000) (ty : TypeId) :
    ∃ rv' w2, (Builtin.append_ #[75, 75] ty #[rv, .slice (some ⟨wr.heap.size, 0, none⟩) 1 1]).run Tryz.prog (wr.alloc (.cells #[.string n, .int .i64 (ps.length : Int)] 77)) = .ok rv' w2 ∧
      RefAt T w2 q (Dsk.half D ps) fv dv fs ds ∧ w2.ownsRow w.heap.size 77 2 rv' (ps.length + 1) (nmdV (Dsk.numbered 0 ps ++ [(n, ps.length)])) ∧ (∀ g, rv'.ownBlock = some g → ¬ T g) ∧ Below w.heap.size w w2 := by
  have hb := M.bel.size
  have hrow := M.row
  have hnl : (Dsk.numbered 0 ps).length = ps.length := Dsk.numbered_length 0 ps
  rw [← hnl] at hrow
  obtain ⟨rv', w2, hr, ho, hg, hob⟩ := nmd_appG hrow n ps.length (by rw [hnl]; exact hl) hb ty
  have hsz : wr.heap.size + 1 ≤ w2.heap.size := by have := hg.size; simpa using this
  refine ⟨rv', w2, hr, M.ref.keep (by omega) (fun b hb' => ?_), ?_, fun g e hT => ?_, M.bel.trans (grown_below hb hg (fun g e => (M.row.lt g e).1))⟩
  · have hlt := M.ref.lt b hb'
    rw [hg.block b (by simp; omega) (fun e => M.ap b e.symm hb'), Below.heap_alloc _ _ b hlt]
  · rw [List.length_append, hnl] at ho
    exact ho
  · rcases hob with x | x
    · exact M.ap g (x ▸ e) hT
    · have := x g e; have := M.ref.lt g hT; omega
theorem Mk.then {w : World} {q : Nat} {T : Nat → Prop} {wr w' : World} {D : Dk} {ps : List (ByteArray × By)} {fv dv : Value} {fs ds : List Value} {rv : Value} (M : Mk w q T wr D ps fv dv fs ds rv) (hb : Below wr.heap.size wr w') : Mk w q T w' D ps fv dv fs ds rv :=
  ⟨M.ref.below hb, own_keep M.row (fun g e => hb.block g (own_lt M.row e)), M.ap, M.ge, bl M.bel hb⟩
/-- A file more, behind the name. -/
theorem Mk.addFile {w : World} {q : Nat} {T : Nat → Prop} {w2 : World} {D : Dk} {ps : List (ByteArray × By)} {fv dv : Value} {fs ds : List Value} {rv : Value} {n : ByteArray} (h1 : RefAt T w2 q (Dsk.half D ps) fv dv fs ds) (h2 : w2.ownsRow w.heap.size 77 2 rv (ps.length + 1) (nmdV (Dsk.numbered 0 ps ++ [(n, ps.length)])))
    (h3 : ∀ g, rv.ownBlock = some g → ¬ T g) (h4 : Below w.heap.size w w2) (h5 : ∀ b, T b → w.heap.size ≤ b) (m : By) (hl : ps.length ≤ 1000000000000) (ty : TypeId) :
    ∃ (ea : Option Addr) (N ec : Nat) (w' : World), N = ps.length + 1 ∧ (Builtin.append_ #[51, 51] ty #[fv, .slice (some ⟨w2.heap.size + 1, 0, none⟩) 1 1]).run Tryz.prog ((w2.alloc (.cells #[.string (Num.bs m)] 9)).alloc (.cells #[.slice (some ⟨w2.heap.size, 0, none⟩) 1 1] 44)) = .ok (.slice ea N ec) w' ∧
      w'.cell? ⟨q, 1, none⟩ = some fv ∧ (∀ j, w'.frozen? ⟨q, j, none⟩ = false) ∧ Kept (fun b => b < w.heap.size ∨ b = q) ((w2.alloc (.cells #[.string (Num.bs m)] 9)).alloc (.cells #[.slice (some ⟨w2.heap.size, 0, none⟩) 1 1] 44)) w' ∧
      ∃ T' fs', Mk w q T' (w'.setCell ⟨q, 1, none⟩ (.slice ea N ec)) D (ps ++ [(n, m)]) (.slice ea N ec) dv fs' ds rv := by
  have b6 : Below w2.heap.size w2 (w2.alloc (.cells #[.string (Num.bs m)] 9)) := (Below.refl _ w2).alloc (Nat.le_refl _) _
  have hg6 := heap_new w2 (.cells #[.string (Num.bs m)] 9)
  have hwz := h4.size
  obtain ⟨ea, N, ec, w', hN, hr, k1, kf, kp, hR, hO⟩ := file_add (h1.below b6) (Only.of_below b6) h1.lt (Nat.le_refl _) (b := m) rfl hg6 (by show ((ps.map _).length) ≤ _; rw [List.length_map]; exact hl) ty
  rw [World.size_alloc] at hr
  have hql := h1.lt q h1.sp
  have hz : (w'.setCell ⟨q, 1, none⟩ (.slice ea N ec)).heap.size = w'.heap.size := by simp [World.setCell]
  refine ⟨ea, N, ec, w', by rw [hN]; show (ps.map _).length + 1 = _; rw [List.length_map], hr, k1, kf, ⟨kp.os, kp.tape, kp.output, kp.size, fun b hb => ?_⟩, more T w2 (w'.setCell ⟨q, 1, none⟩ (.slice ea N ec)), fs ++ [.slice (some ⟨w2.heap.size, 0, none⟩) 1 1], ⟨?_, ?_, fun g e hT => ?_, fun b hb => ?_, ?_⟩⟩
  · rcases hb with hb | hb
    · have hT : ¬ T b := fun x => by have := h5 b x; omega
      have hbq : b ≠ q := fun e => hT (e ▸ h1.sp)
      have e1 := hO.block b (by omega) hT
      rw [Below.heap_setCell _ _ _ _ hbq] at e1
      rw [e1, Below.heap_alloc _ _ b (by simp; omega), Below.heap_alloc _ _ b (by omega)]
    · exact kp.block b hb
  · rw [Dsk.half_app]
    exact hR
  · rw [Dsk.numbered_app, Nat.zero_add, List.length_append]
    exact own_keep h2 (fun g e => hO.block g (own_lt h2 e) (h3 g e))
  · rcases hT with x | x
    · exact h3 g e x
    · have := own_lt h2 e; omega
  · rcases hb with x | x
    · exact h5 b x
    · have := x.1; omega
  · exact h4.trans (hO.below hwz h5)
/-- All names and files are there: the row of names is the disk's. -/
theorem Mk.done {w : World} {q : Nat} {T : Nat → Prop} {wr : World} {D : Dk} {ps : List (ByteArray × By)} {fv dv : Value} {fs ds : List Value} {rv : Value} (M : Mk w q T wr D ps fv dv fs ds rv) {w6 : World} (h6 : wr.alloc (.cells #[rv] 75) = w6) :
    RefAt (more noneS w (w6.setCell ⟨q, 2, none⟩ (.slice (some ⟨wr.heap.size, 0, none⟩) 1 1))) (w6.setCell ⟨q, 2, none⟩ (.slice (some ⟨wr.heap.size, 0, none⟩) 1 1)) q { Dsk.half D ps with dirs := [Dsk.numbered 0 ps] } fv (.slice (some ⟨wr.heap.size, 0, none⟩) 1 1) fs [rv] ∧
      Below w.heap.size w (w6.setCell ⟨q, 2, none⟩ (.slice (some ⟨wr.heap.size, 0, none⟩) 1 1)) ∧ w6.cell? ⟨q, 2, none⟩ = some dv ∧ (∀ j, w6.frozen? ⟨q, j, none⟩ = false) ∧ q < wr.heap.size := by
  subst h6
  have hb := M.bel.size
  have hr := M.ref.mono (T := fun b => T b ∨ rv.ownBlock = some b) (fun _ h => .inl h) (fun b h => by
    rcases h with h | h
    · exact M.ref.lt b h
    · exact own_lt M.row h)
  have hnl : (Dsk.numbered 0 ps).length = ps.length := Dsk.numbered_length 0 ps
  have hv : NmdAt (fun b => T b ∨ rv.ownBlock = some b) wr rv (Dsk.numbered 0 ps) := ⟨by rw [hnl]; exact own_base M.row, fun g e => .inr e⟩
  obtain ⟨r6, o6⟩ := hr.oneDir hv
  obtain ⟨_, _, k2, _, _, _, kf, hql⟩ := M.ref.look
  have hge : ∀ b, (T b ∨ rv.ownBlock = some b) → w.heap.size ≤ b := fun b h => by
    rcases h with h | h
    · exact M.ge b h
    · exact (M.row.lt b h).1
  refine ⟨r6.mono (fun b h => ?_) (fun b h => ?_), M.bel.trans (o6.below hb hge), ((Below.refl _ wr).alloc (Nat.le_refl _) _ |>.cell (p := ⟨q, 2, none⟩) hql).trans k2, fun j => ((Below.refl _ wr).alloc (Nat.le_refl _) _ |>.frozen (p := ⟨q, j, none⟩) hql).trans (kf j), hql⟩
  · have := o6.size
    rcases h with h | h
    · refine .inr ⟨hge b h, ?_⟩
      rcases h with h | h
      · have := M.ref.lt b h; simp [World.setCell]; omega
      · have := own_lt M.row h; simp [World.setCell]; omega
    · have := h.2
      refine .inr ⟨by have := h.1; omega, ?_⟩
      simpa [World.setCell] using this
  · rcases h with h | h
    · exact h.elim
    · exact h.2
set_option maxRecDepth 100000 in
set_option maxHeartbeats 800000 in
theorem rcrash_dk {S : Nat → Prop} {w : World} {p : Nat} {D : Dk} {c : Nat} (H : IsRef S w p D c) (hc : c ≤ 10000000) (k : Int) (a : Option Addr) (cap : Nat) (ks : List Int) (hks : KeepAt w a ks) (hl : ks.length ≤ 9223372036854775807) :
    Calls Tryz.prog 11 #[.pointer (some ⟨p, 0, none⟩), .int .i64 k, .slice a ks.length cap] w fun e w' => ∃ q, e = .returned (.pointer (some ⟨q, 0, none⟩)) ∧ IsRef (more noneS w w') w' q (Dsk.crash k ks D) c ∧ Below w.heap.size w w' := by
  obtain ⟨ok, bud, lim, fl, fv, dv, fs, ds, H⟩ := H
  obtain ⟨i0, nv, hi0, hil, hds, hnv⟩ := H.rowAt ok k
  have hdl := bud.dirs
  have hrl := bud.rows _ (Dsk.rowAt_mem ok k)
  have hfl := bud.files
  have hhs : ∀ i, i < D.files.length → (Dsk.hist D i).length ≤ 1000000000000 := fun i hi => by have := bud.hists _ (Dsk.hist_mem hi); omega
  have hlim := lim.room
  have hok' := Dsk.crash_ok ok k ks
  have hbud' := Dsk.bud_crash k ks bud ok
  obtain ⟨gd, cd, rfl, hgd, hcd, _, _⟩ := own_view H.dirs (by omega)
  obtain ⟨fa, fc, rfl⟩ := own_slice H.files
  obtain ⟨na, nc, rfl⟩ := own_slice hnv.1
  obtain ⟨c0, c1, c2, _, _, _, _, hpl⟩ := H.look
  have v0 := hcd _ _ hds
  have HH := hide H
  have HOK := hide ok
  have HHS := hide hhs
  have HOK' := hide hok'
  have HBU' := hide hbud'
  have HNV := hide hnv
  have HKS := hide hks
  obtain ⟨NF, hNF⟩ : ∃ NF, D.files.length = NF := ⟨_, rfl⟩
  obtain ⟨ND, hND⟩ : ∃ ND, D.dirs.length = ND := ⟨_, rfl⟩
  rw [hND] at c2 hi0 hil hdl
  rw [hNF] at c1 hfl
  obtain ⟨NR, hNR⟩ : ∃ NR, (Dsk.rowAt D k).length = NR := ⟨_, rfl⟩
  rw [hNR] at v0 hrl
  have HNF := hide hNF
  have HNR := hide hNR
  obtain ⟨L1, hL1⟩ : ∃ L1 : Nat, L1 = ND - 1 := ⟨_, rfl⟩
  have hW : IntKind.i64.wrap ((ND : Int) - 1) = (L1 : Int) := by rw [IntKind.wrap_i64]; omega
  obtain ⟨m1, hm1⟩ : ∃ m1 : Int, (if (L1 : Int) < k then (L1 : Int) else k) = m1 := ⟨_, rfl⟩
  have hm2 : (if 0 < m1 then m1 else 0) = (i0 : Int) := by rw [← hi0, ← hm1]; split <;> split <;> omega
  have hiI : (i0 : Int) < (ND : Int) := by omega
  clear hL1 hi0
  have hri : D.room ≤ 9223372036854775807 := hlim
  clear H bud lim hhs hok' hbud' hnv hks hcd hds hND hNF hNR hlim
  go_enter Tryz.func11, Tryz.ntmps11
  go_wp2_with fail
  go_quiet (fail)
  go_wp2_with fail
  refine (rnew_dk (D.room : Int) _ (by omega)).mono ?_
  rintro e w1 ⟨q, rfl, hd1, hb1⟩
  have hfr : Dsk.fresh (D.room : Int) = Dsk.half D [] := by simp [Dsk.fresh, Dsk.half]
  rw [hfr] at hd1
  obtain ⟨_, _, _, _, fv1, dv1, fs1, ds1, hq1⟩ := hd1
  have hmk : Mk w q (more noneS w w1) w1 D (Dsk.pkN D k ks 0) fv1 dv1 fs1 ds1 (.slice none 0 0) :=
    ⟨hq1, World.ownsRow_nil _ _ _ _, fun g e => (by cases e), fun b hb => (by rcases hb with x | x; exact x.elim; exact x.1), bl (dn_below (Below.refl _ w) _) hb1⟩
  have HM1 := hide hmk
  clear hfr hq1 hmk hb1
  go_wp2
  go_loopw [9, 10] (fun v7 v8 wr => ∃ (n : Nat) (T : Nat → Prop) (fv : Value) (fs : List Value), n ≤ NF ∧ v8 = .int .i64 (n : Int) ∧ Hid (Mk w q T wr D (Dsk.pkN D k ks n) fv dv1 fs ds1 v7)) (fun _ v8 _ => NF - (intOf v8).toNat)
  case atStart => exact ⟨0, _, _, _, Nat.zero_le _, rfl, HM1⟩
  case round =>
    obtain ⟨n, T, fv, fs, hn, rfl, HM⟩ := hrel
    clear HM1
    by_cases hlt : n < NF
    · obtain ⟨wo, hwo⟩ : ∃ wo, wo = wr := ⟨_, rfl⟩
      subst hwo
      have c1' := (HM.out.bel.cell (p := ⟨p, 1, none⟩) hpl).trans c1
      have hnD : n < D.files.length := by rw [HNF.out]; exact hlt
      have hm0 := HM.out
      rw [← Dsk.pkI_zero] at hm0
      have HM0 := hide hm0
      clear hm0
      go_wp2
      go_loopw [9, 11] (fun v7 v9 wr => ∃ (i : Nat) (T : Nat → Prop) (fv : Value) (fs : List Value), i ≤ NR ∧ v9 = .int .i64 (i : Int) ∧ Hid (Mk w q T wr D (Dsk.pkI D k ks n i) fv dv1 fs ds1 v7)) (fun _ v9 _ => NR - (intOf v9).toNat)
      case atStart => exact ⟨0, _, _, _, Nat.zero_le _, rfl, HM0⟩
      case round =>
        obtain ⟨i, T', fv', fs', hi, rfl, HMI⟩ := hrel
        clear HM0 HM c1'
        by_cases hilt : i < NR
        · have hir : i < (Dsk.rowAt D k).length := by rw [HNR.out]; exact hilt
          obtain ⟨gn, cn, en, hgn, hcn, _, _⟩ := own_view HNV.out.1 (by omega)
          rw [HNR.out] at en
          simp only [Value.slice.injEq] at en
          obtain ⟨rfl, _, rfl⟩ := en
          obtain ⟨n1, n2⟩ := nmdV_at hir
          have u0 := hcn _ _ n1
          have u1 := (HMI.out.bel.cell (p := ⟨gn, i * 2, none⟩) hgn).trans u0
          have u2 := (HMI.out.bel.cell (p := ⟨gn, i * 2 + 1, none⟩) hgn).trans (hcn _ _ n2)
          have hyes := fun h => Dsk.pkI_yes (d := D) (k := k) (ks := ks) (n := n) hir h
          have hno := fun h => Dsk.pkI_no (d := D) (k := k) (ks := ks) (n := n) hir h
          obtain ⟨x, hx⟩ : ∃ x, (Dsk.rowAt D k)[i].1 = x := ⟨_, rfl⟩
          obtain ⟨y, hy⟩ : ∃ y, (Dsk.rowAt D k)[i].2 = y := ⟨_, rfl⟩
          rw [hx] at u0 u1 hyes
          rw [hy] at u2 hyes hno
          have HYES := hide hyes
          have HNO := hide hno
          clear hcn n1 n2 hx hy hyes hno
          by_cases hyn : y = n
          · subst hyn
            obtain ⟨j, hjl, hjs, hj1, hj0⟩ := mom_at HOK.out ks hnD
            obtain ⟨hv0, hh1, hh2⟩ := HH.out.hist hnD
            obtain ⟨gh, ch, rfl, hgh, hch, _, _⟩ := own_view hh2.1 (by omega)
            obtain ⟨gf, cf, ef, hgf, hcf, _, _⟩ := own_view HH.out.files (by omega)
            rw [HNF.out] at ef
            simp only [Value.slice.injEq] at ef
            obtain ⟨rfl, _, rfl⟩ := ef
            have t1 := hcf _ _ hh1
            have t2 := hch _ _ hjs
            have hhl := HHS.out y hnD
            obtain ⟨LH, hLH⟩ : ∃ LH, (Dsk.hist D y).length = LH := ⟨_, rfl⟩
            rw [hLH] at t1 hjl hj1 hhl
            obtain ⟨mm, hmm⟩ : ∃ mm, Dsk.momAt D ks y = mm := ⟨_, rfl⟩
            have hpy := HYES.out rfl
            rw [hmm] at t2 hpy
            have HPY := hide hpy
            have hpl9 := Dsk.pkI_len D k ks y i
            rw [HNR.out] at hpl9
            obtain ⟨PL, hPL⟩ : ∃ PL, (Dsk.pkI D k ks y i).length = PL := ⟨_, rfl⟩
            rw [hPL] at hpl9
            have HPL := hide hPL
            have c1' := (HMI.out.bel.cell (p := ⟨p, 1, none⟩) hpl).trans c1
            have t1' := (HMI.out.bel.cell (p := ⟨gf, y, none⟩) hgf).trans t1
            have t2' := (HMI.out.bel.cell (p := ⟨gh, j, none⟩) hgh).trans t2
            clear hcf hch hh1 hh2 hjs hLH hmm hpy hPL HYES HNO
            by_cases hkn : y < ks.length
            · obtain ⟨gk, ok', hk1, hk2⟩ := HKS.out
              obtain ⟨rfl, hgk⟩ := hk1 (by omega)
              have hkc := (HMI.out.bel.cell (p := ⟨gk, ok' + y, none⟩) hgk).trans (hk2 y hkn)
              have hkd : ks.getD y 0 = ks[y] := by rw [List.getD_eq_getElem?_getD, List.getElem?_eq_getElem hkn]; rfl
              have hj1' := hj1 hkn
              rw [hkd] at hj1'
              obtain ⟨kv, hkv⟩ : ∃ kv, ks[y] = kv := ⟨_, rfl⟩
              rw [hkv] at hkc hj1'
              obtain ⟨l1, hl1⟩ : ∃ l1 : Nat, l1 = LH - 1 := ⟨_, rfl⟩
              have hWl : IntKind.i64.wrap ((LH : Int) - 1) = (l1 : Int) := by rw [IntKind.wrap_i64]; omega
              obtain ⟨m2, hm2'⟩ : ∃ m2 : Int, (if (l1 : Int) < kv then (l1 : Int) else kv) = m2 := ⟨_, rfl⟩
              have hm3 : (if 0 < m2 then m2 else 0) = (j : Int) := by rw [← hj1', ← hm2']; split <;> split <;> omega
              have hji : (j : Int) < (LH : Int) := by omega
              clear hk1 hk2 hkd hj1 hj1' hkv hl1 hj0
              go_wp2_with fail
              go_quiet (fail)
              go_wp2_with fail
              have HMD : Hid (Mk w q T' (wr.drewN nq) D (Dsk.pkI D k ks y i) fv' dv1 fs' ds1 u9) := hide (HMI.out.then (dn_below (Below.refl _ _) _))
              refine wp_region_growK (fun b => b < w.heap.size ∨ b = q) [([0, 1, 2, 3, 4, 5, 6, 7, 8, 9, 10, 11], 12)] [] [13, 14] (by kernel_rfl) (by kernel_rfl) (by kernel_rfl) (by kernel_rfl) ?_
              intro w4 hb4
              simp only [stagesOfK, getLK, pickLK]
              have HM4 := hide (HMD.out.then hb4)
              obtain ⟨rv2, w5, hr5, hR5, hN5, hA5, hB5⟩ := HM4.out.addName x (by rw [HPL.out]; omega) 75
              rw [HPL.out] at hr5
              obtain ⟨ra5, rc5, he5⟩ := own_slice hN5
              subst he5
              have HR5 := hide hr5
              have HX5 := hide (And.intro hR5 (And.intro hN5 (And.intro hA5 hB5)))
              obtain ⟨_, kq, _, _, _, _, _, hql⟩ := HM4.out.ref.look
              obtain ⟨fa4, fc4, hf4⟩ := own_slice HM4.out.ref.files
              have hfl4 : (Dsk.half D (Dsk.pkI D k ks y i)).files.length = PL := by show ((Dsk.pkI D k ks y i).map _).length = _; rw [List.length_map]; exact HPL.out
              rw [hfl4] at hf4
              subst hf4
              have hbw := HM4.out.bel.size
              have kx := (HM4.out.bel.cell (p := ⟨gn, i * 2, none⟩) hgn).trans u0
              have inh : Nonempty (GrK (fun b => b < w.heap.size ∨ b = q) w4) := GrK.some _ w4
              have q1 := fun z : GrK (fun b => b < w.heap.size ∨ b = q) w4 => z.cell (a := ⟨gn, i * 2, none⟩) (.inl hgn) kx
              have q2 := fun z : GrK (fun b => b < w.heap.size ∨ b = q) w4 => z.cell (a := ⟨q, 1, none⟩) (.inr rfl) kq
              clear hr5 hR5 hN5 hA5 hB5 hfl4
              refine wpG_stageK ?_
              repeat (go_big_quiet_step (fail))
              refine wpQuiet_nil ?_
              clear q1 q2 inh hb4 kx
              go_wp2
              refine OnToK.mk (Kept.of_below ((Below.refl _ w4).alloc (Nat.le_refl _) _) (fun b e => by rcases e with e | e; omega; subst e; exact hql)) (Sub.refl _) ?_
              refine wpG_lastK (wpQuiet_nil ?_)
              go_wp2_with (at_builtin; refine wpList_app_run rfl _ _ _ _ rfl rfl rfl HR5.out ?_)
              have HGE := hide HM4.out.ge
              clear HR5 HM4 HMD kq hql
              refine wp_region_growK (fun b => b < w.heap.size ∨ b = q) [([0, 1, 2, 3, 4, 5, 6, 7, 8, 9, 10, 11, 12, 13, 14], 15), ([], 16), ([], 17)] [18, 19] [20] (by kernel_rfl) (by kernel_rfl) (by kernel_rfl) (by kernel_rfl) ?_
              intro w6 hb6
              simp only [stagesOfK, getLK, pickLK]
              have hr6 := HX5.out.1.below hb6
              have hn6 := own_keep (w' := w6) HX5.out.2.1 (fun g e => hb6.block g (own_lt HX5.out.2.1 e))
              have hB6 := bl HX5.out.2.2.2 hb6
              obtain ⟨_, kq, _, _, _, _, _, hql⟩ := hr6.look
              have hw6 := hB6.size
              obtain ⟨ea, N, ec, wA, hNe, hrA, kA, fA, kpA, T2, fs2, hMA⟩ := Mk.addFile hr6 hn6 HX5.out.2.2.1 hB6 HGE.out mm (by rw [HPL.out]; omega) 51
              have HRA := hide hrA
              have HMA := hide hMA
              have r1 := (hB6.cell (p := ⟨p, 1, none⟩) hpl).trans c1
              have r2 := (hB6.cell (p := ⟨gf, y, none⟩) hgf).trans t1
              have r3 := (hB6.cell (p := ⟨gh, j, none⟩) hgh).trans t2
              have inh : Nonempty (GrK (fun b => b < w.heap.size ∨ b = q) w6) := GrK.some _ w6
              have q1 := fun z : GrK (fun b => b < w.heap.size ∨ b = q) w6 => z.cell (a := ⟨p, 1, none⟩) (.inl hpl) r1
              have q2 := fun z : GrK (fun b => b < w.heap.size ∨ b = q) w6 => z.cell (a := ⟨gf, y, none⟩) (.inl hgf) r2
              have q3 := fun z : GrK (fun b => b < w.heap.size ∨ b = q) w6 => z.cell (a := ⟨gh, j, none⟩) (.inl hgh) r3
              have q4 := fun z : GrK (fun b => b < w.heap.size ∨ b = q) w6 => z.cell (a := ⟨q, 1, none⟩) (.inr rfl) kq
              clear hr6 hn6 hB6 hrA hMA hNe r1 r2 r3
              refine wpG_stageK ?_
              repeat (go_big_quiet_step (fail))
              refine wpQuiet_nil ?_
              clear q1 q2 q3 q4 inh hb6 kq
              go_wp2
              refine OnToK.mk (Kept.of_below ((Below.refl _ w6).alloc (Nat.le_refl _) _) (fun b e => by rcases e with e | e; omega; subst e; exact hql)) (Sub.refl _) ?_
              refine wpG_stageK (wpQuiet_nil ?_)
              go_wp2
              refine OnToK.mk (Kept.of_below ((Below.refl _ _).alloc (Nat.le_refl _) _) (fun b e => by rw [World.size_alloc]; rcases e with e | e; omega; subst e; omega)) (Sub.refl _) ?_
              refine wpG_stageK (wpQuiet_nil ?_)
              go_wp2_with (at_builtin; refine wpList_app_run rfl _ _ _ _ rfl rfl rfl HRA.out ?_)
              refine OnToK.mk kpA (Sub.refl _) ?_
              clear kpA HRA
              have inh : Nonempty (GrK (fun b => b < w.heap.size ∨ b = q) wA) := GrK.some _ wA
              refine wpG_lastK ?_
              repeat (go_big_quiet_step (fail))
              refine wpQuiet_nil ?_
              clear inh
              go_wp2
              go_roundw
              case rel => exact ⟨i + 1, _, _, _, by omega, by go_num, by rw [HPY.out]; exact HMA⟩
              case measure => simp [intOf]; omega
            · have hj00 := hj0 hkn
              subst hj00
              clear hj1 hj0
              have hkni : ¬ ((y : Int) < (ks.length : Int)) := by omega
              go_wp2_with fail
              have HMD := HMI
              refine wp_region_growK (fun b => b < w.heap.size ∨ b = q) [([0, 1, 2, 3, 4, 5, 6, 7, 8, 9, 10, 11], 12)] [] [13, 14] (by kernel_rfl) (by kernel_rfl) (by kernel_rfl) (by kernel_rfl) ?_
              intro w4 hb4
              simp only [stagesOfK, getLK, pickLK]
              have HM4 := hide (HMD.out.then hb4)
              obtain ⟨rv2, w5, hr5, hR5, hN5, hA5, hB5⟩ := HM4.out.addName x (by rw [HPL.out]; omega) 75
              rw [HPL.out] at hr5
              obtain ⟨ra5, rc5, he5⟩ := own_slice hN5
              subst he5
              have HR5 := hide hr5
              have HX5 := hide (And.intro hR5 (And.intro hN5 (And.intro hA5 hB5)))
              obtain ⟨_, kq, _, _, _, _, _, hql⟩ := HM4.out.ref.look
              obtain ⟨fa4, fc4, hf4⟩ := own_slice HM4.out.ref.files
              have hfl4 : (Dsk.half D (Dsk.pkI D k ks y i)).files.length = PL := by show ((Dsk.pkI D k ks y i).map _).length = _; rw [List.length_map]; exact HPL.out
              rw [hfl4] at hf4
              subst hf4
              have hbw := HM4.out.bel.size
              have kx := (HM4.out.bel.cell (p := ⟨gn, i * 2, none⟩) hgn).trans u0
              have inh : Nonempty (GrK (fun b => b < w.heap.size ∨ b = q) w4) := GrK.some _ w4
              have q1 := fun z : GrK (fun b => b < w.heap.size ∨ b = q) w4 => z.cell (a := ⟨gn, i * 2, none⟩) (.inl hgn) kx
              have q2 := fun z : GrK (fun b => b < w.heap.size ∨ b = q) w4 => z.cell (a := ⟨q, 1, none⟩) (.inr rfl) kq
              clear hr5 hR5 hN5 hA5 hB5 hfl4
              refine wpG_stageK ?_
              repeat (go_big_quiet_step (fail))
              refine wpQuiet_nil ?_
              clear q1 q2 inh hb4 kx
              go_wp2
              refine OnToK.mk (Kept.of_below ((Below.refl _ w4).alloc (Nat.le_refl _) _) (fun b e => by rcases e with e | e; omega; subst e; exact hql)) (Sub.refl _) ?_
              refine wpG_lastK (wpQuiet_nil ?_)
              go_wp2_with (at_builtin; refine wpList_app_run rfl _ _ _ _ rfl rfl rfl HR5.out ?_)
              have HGE := hide HM4.out.ge
              clear HR5 HM4 HMD kq hql
              refine wp_region_growK (fun b => b < w.heap.size ∨ b = q) [([0, 1, 2, 3, 4, 5, 6, 7, 8, 9, 10, 11, 12, 13, 14], 15), ([], 16), ([], 17)] [18, 19] [20] (by kernel_rfl) (by kernel_rfl) (by kernel_rfl) (by kernel_rfl) ?_
              intro w6 hb6
              simp only [stagesOfK, getLK, pickLK]
              have hr6 := HX5.out.1.below hb6
              have hn6 := own_keep (w' := w6) HX5.out.2.1 (fun g e => hb6.block g (own_lt HX5.out.2.1 e))
              have hB6 := bl HX5.out.2.2.2 hb6
              obtain ⟨_, kq, _, _, _, _, _, hql⟩ := hr6.look
              have hw6 := hB6.size
              obtain ⟨ea, N, ec, wA, hNe, hrA, kA, fA, kpA, T2, fs2, hMA⟩ := Mk.addFile hr6 hn6 HX5.out.2.2.1 hB6 HGE.out mm (by rw [HPL.out]; omega) 51
              have HRA := hide hrA
              have HMA := hide hMA
              have r1 := (hB6.cell (p := ⟨p, 1, none⟩) hpl).trans c1
              have r2 := (hB6.cell (p := ⟨gf, y, none⟩) hgf).trans t1
              have r3 := (hB6.cell (p := ⟨gh, 0, none⟩) hgh).trans t2
              have inh : Nonempty (GrK (fun b => b < w.heap.size ∨ b = q) w6) := GrK.some _ w6
              have q1 := fun z : GrK (fun b => b < w.heap.size ∨ b = q) w6 => z.cell (a := ⟨p, 1, none⟩) (.inl hpl) r1
              have q2 := fun z : GrK (fun b => b < w.heap.size ∨ b = q) w6 => z.cell (a := ⟨gf, y, none⟩) (.inl hgf) r2
              have q3 := fun z : GrK (fun b => b < w.heap.size ∨ b = q) w6 => z.cell (a := ⟨gh, 0, none⟩) (.inl hgh) r3
              have q4 := fun z : GrK (fun b => b < w.heap.size ∨ b = q) w6 => z.cell (a := ⟨q, 1, none⟩) (.inr rfl) kq
              clear hr6 hn6 hB6 hrA hMA hNe r1 r2 r3
              refine wpG_stageK ?_
              repeat (go_big_quiet_step (fail))
              refine wpQuiet_nil ?_
              clear q1 q2 q3 q4 inh hb6 kq
              go_wp2
              refine OnToK.mk (Kept.of_below ((Below.refl _ w6).alloc (Nat.le_refl _) _) (fun b e => by rcases e with e | e; omega; subst e; exact hql)) (Sub.refl _) ?_
              refine wpG_stageK (wpQuiet_nil ?_)
              go_wp2
              refine OnToK.mk (Kept.of_below ((Below.refl _ _).alloc (Nat.le_refl _) _) (fun b e => by rw [World.size_alloc]; rcases e with e | e; omega; subst e; omega)) (Sub.refl _) ?_
              refine wpG_stageK (wpQuiet_nil ?_)
              go_wp2_with (at_builtin; refine wpList_app_run rfl _ _ _ _ rfl rfl rfl HRA.out ?_)
              refine OnToK.mk kpA (Sub.refl _) ?_
              clear kpA HRA
              have inh : Nonempty (GrK (fun b => b < w.heap.size ∨ b = q) wA) := GrK.some _ wA
              refine wpG_lastK ?_
              repeat (go_big_quiet_step (fail))
              refine wpQuiet_nil ?_
              clear inh
              go_wp2
              go_roundw
              case rel => exact ⟨i + 1, _, _, _, by omega, by go_num, by rw [HPY.out]; exact HMA⟩
              case measure => simp [intOf]; omega
          · have hyi : ((y : Int) == (n : Int)) = false := beq_eq_false_iff_ne.2 (by omega)
            go_wp2
            go_roundw
            case rel => exact ⟨i + 1, _, _, _, by omega, by go_num, by rw [HNO.out hyn]; exact HMI⟩
            case measure => simp [intOf]; omega
        · have hm9 := HMI.out
          rw [show i = (Dsk.rowAt D k).length by rw [HNR.out]; omega, Dsk.pkI_last] at hm9
          have HM9 := hide hm9
          clear hm9
          go_wp2
          go_roundw
          case rel => exact ⟨n + 1, _, _, _, by omega, by go_num, HM9⟩
          case measure => simp [intOf]; omega
    · obtain rfl : n = NF := by omega
      obtain ⟨ra, rc, hrv⟩ := own_slice HM.out.row
      subst hrv
      have c1' := (HM.out.bel.cell (p := ⟨p, 1, none⟩) hpl).trans c1
      obtain ⟨W6, hW6⟩ : ∃ W, wr.alloc (.cells #[.slice ra (Dsk.pkN D k ks n).length rc] 75) = W := ⟨_, rfl⟩
      obtain ⟨hR, hB, k2, k4, hqr⟩ := HM.out.done hW6
      have HREF := hide hR
      have HB9 := hide hB
      clear hR hB
      go_wp2
      go_ret
      have h9 := HREF.out
      rw [← HNF.out, Dsk.pkN_all, Dsk.half_all] at h9
      exact ⟨q, rfl, ⟨HOK'.out, HBU'.out, ⟨hri, by show (-1 : Int) ≤ _; omega⟩, by show (0 : Nat) ≤ _; omega, _, _, _, _, h9⟩, HB9.out⟩

end Go.Proofs.YtleomppgkikhnaaGreat
