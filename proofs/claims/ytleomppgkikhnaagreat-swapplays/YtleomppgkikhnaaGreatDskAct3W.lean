/-
  Rename, Remove, SyncDir, Create of the program's disk: as the chapter says.
-/
import Derived.Test.YtleomppgkikhnaaGreatDskActW
namespace Go.Proofs.YtleomppgkikhnaaGreat
open Go.RowKit
open Dsk (Nm Hold Fl Ct By Dk FRel NRel)

theorem NowAt.one {w : World} {b : Nat} {bl : Nat → Nat} {n : ByteArray} {o : Option Nat} {t : TypeId} (h : w.heap[b]? = some (.cells #[.string n, .pointer (adr (o.map bl))] t (0, 0))) : NowAt w b 0 bl [(n, o)] := by
  intro k hk
  have hk0 : k = 0 := by simpa using hk
  subst hk0
  exact ⟨cell_of h 0 rfl, cell_of h 1 rfl⟩
theorem NowAt.two {w : World} {b : Nat} {bl : Nat → Nat} {n m : ByteArray} {o q : Option Nat} {t : TypeId} (h : w.heap[b]? = some (.cells #[.string n, .pointer (adr (o.map bl)), .string m, .pointer (adr (q.map bl))] t (0, 0))) : NowAt w b 0 bl [(n, o), (m, q)] := by
  intro k hk
  match k, hk with
  | 0, _ => exact ⟨cell_of h 0 rfl, cell_of h 1 rfl⟩
  | 1, _ => exact ⟨cell_of h 2 rfl, cell_of h 3 rfl⟩
theorem heap_new (w : World) (o : Obj) : (w.alloc o).heap[w.heap.size]? = some o := by
  show (w.heap.push o)[w.heap.size]? = some o
  simp

set_option maxRecDepth 100000 in
set_option maxHeartbeats 800000 in
theorem remove_dk {S : Nat → Prop} {w : World} {p : Nat} {D : Dk} {c : Nat} (H : IsDk S w p D c) (n : ByteArray) (hn : n.size ≤ maxLen) (hc : c + 1 ≤ 1000000000) :
    Calls Tryz.prog 87 #[.pointer (some ⟨p, 0, none⟩), .string n] w fun e w' => e = .returned (.int .i64 (Dsk.remove n D).2) ∧ IsDk (more S w w') w' p (Dsk.remove n D).1 (c + 1) ∧ Only S w w' := by
  obtain ⟨ok, bud, lim, h, HD, R, mc, hfl⟩ := H
  obtain ⟨p1, p2, ho, hus, hcs, hfi⟩ := IsDk.nums ok bud lim R (by omega)
  have ok' := Dsk.remove_ok n ok
  have bud' := Dsk.bud_remove n bud ok
  have lim' := lim_remove n lim
  by_cases h0 : D.left = 0
  · have e : Dsk.remove n D = (D, 11) := act_dead h0 _
    rw [e] at ok' bud' lim' ⊢
    have hp0 : h.power = 0 := by rw [R.power]; exact h0
    have HH := hide HD
    have HB := hide bud'
    have HRR := hide R
    clear HD bud' R e ok bud lim
    go_enter Tryz.func87, Tryz.ntmps87
    go_wp2_with fail
    refine (operate_dead HH.out hp0 n).mono ?_
    rintro e w1 ⟨rfl, hw⟩
    rw [hw]
    clear hw
    go_wp2
    go_ret
    exact ⟨rfl, ⟨ok', HB.out, lim', h, HH.out.wide _, HRR.out, by omega, hfl⟩, Only.refl _ _⟩
  have e : Dsk.remove n D = Dsk.removeB n (Dsk.on D) := act_on h0 _
  have hp0 : h.power ≠ 0 := by rw [R.power]; exact h0
  have R1 := R.on
  have ok1 := Dsk.on_ok ok
  rw [e] at ok' bud' lim' ⊢
  clear e
  cases hfd : Dsk.find (Dsk.dir (Dsk.on D)) n with
  | none =>
    have e : Dsk.removeB n (Dsk.on D) = (Dsk.on D, 5) := by unfold Dsk.removeB; rw [hfd]
    rw [e] at ok' bud' lim' ⊢
    have HF : Hid (h.f n = none) := hide ((R.find n).trans hfd)
    have HH := hide HD
    have HB := hide bud'
    have HRR := hide R1
    clear HD bud' R1 e ok1 hfd R
    go_enter Tryz.func87, Tryz.ntmps87
    go_wp2_with fail
    refine (operate_none HH.out hp0 p1 p2 ho n hn HF.out).mono ?_
    rintro e w1 ⟨rfl, H1, hO⟩
    go_wp2
    go_ret
    exact ⟨rfl, ⟨ok', HB.out, lim', h.on, H1.wide _, HRR.out, by show h.mc ≤ _; omega, hfl⟩, hO⟩
  | some i =>
    have hlt := Dsk.find_lt ok1 hfd
    have him : i < h.made := by rw [R.made]; exact hlt
    have HF : Hid (h.f n = some i) := hide ((R.find n).trans hfd)
    have e : Dsk.removeB n (Dsk.on D) = ({ Dsk.on D with dirs := D.dirs ++ [Dsk.without (Dsk.dir D) n] }, 0) := by
      unfold Dsk.removeB
      rw [hfd]
      rfl
    rw [e] at ok' bud' lim' ⊢
    have HH := hide HD
    have HRR := hide R1
    have HOK := hide ok1
    have HFD := hide hfd
    have HB := hide bud'
    have HOK' := hide ok'
    have HL' := hide lim'
    clear HD R1 ok1 hfd R bud' ok' lim' bud ok lim e
    go_enter Tryz.func87, Tryz.ntmps87
    go_wp2_with fail
    refine (operate_some HH.out hp0 p1 p2 ho n hn HF.out).mono ?_
    rintro e w1 ⟨rfl, H1, hO⟩
    have HH1 := hide H1
    have HO1 := hide hO
    clear H1 hO
    have HA := hide (HH1.out.below ((Below.refl _ w1).alloc (Nat.le_refl _) (.cells #[.string n, .pointer none] 68)))
    go_wp2_with fail
    refine (change_at HA.out [(n, none)] w1.heap.size 0 1 (NowAt.one (o := none) (heap_new w1 _)) (by simp) (fun e => Nat.lt_irrefl _ (HH1.out.lt _ e)) (by simp) (fun x hx i e => by simp at hx; subst hx; cases e) (fun x hx => by simp at hx; subst hx; exact hn) (by show h.mc ≤ _; omega) (by show h.cs.length ≤ _; omega) (by show _ ≤ h.used ∧ h.used ≤ _; omega) (fun j hj => by have := (hfi j hj).1; show (h.fl j).text.length ≤ _; omega)).mono ?_
    rintro e w3 ⟨rfl, ⟨cv, H3⟩, hO3⟩
    have HH3 := hide H3
    have HO3 := hide hO3
    clear H3 hO3
    go_wp2
    go_ret
    have hz : szF h.fl (h.f n) = ((Dsk.szN (Dsk.on D) (Dsk.find (Dsk.dir (Dsk.on D)) n) : Nat) : Int) := by
      have := szF_szN HRR.out (h.f n) (fun j e => HH1.out.names n j e)
      rw [← HRR.out.find n]
      exact this
    have RR := HRR.out.chg (c := (Dsk.chg [(n, none)] [] h.f).1) (f := (Dsk.chg [(n, none)] [] h.f).2) (row := Dsk.without (Dsk.dir (Dsk.on D)) n) (u := usedC h.fl [(n, none)] h.f h.used) (Dsk.chg_undo _ _ _) (fun m => by
      rw [Dsk.find_without, ← HRR.out.find m]
      rfl) (by
      have h1 := Dsk.used_remove HOK.out n
      have h2 := HRR.out.used
      show h.used + (0 - szF h.fl (h.f n)) = _
      rw [hz, show h.used = _ from h2]
      omega) cv (h.mc + 1)
    exact ⟨rfl, ⟨HOK'.out, HB.out, HL'.out, _, HH3.out.to (by have := HO1.out.size; simp; omega) (Nat.le_refl _), RR, by show h.mc + 1 ≤ _; omega, hfl⟩, (HO1.out.then_below ((Below.refl _ w1).alloc (Nat.le_refl _) _)).trans' HO3.out⟩

set_option maxRecDepth 100000 in
set_option maxHeartbeats 800000 in
theorem rename_dk {S : Nat → Prop} {w : World} {p : Nat} {D : Dk} {c : Nat} (H : IsDk S w p D c) (n m : ByteArray) (hn : n.size ≤ 9223372036854775807) (hm : m.size ≤ 9223372036854775807) (hc : c + 1 ≤ 1000000000) :
    Calls Tryz.prog 82 #[.pointer (some ⟨p, 0, none⟩), .string n, .string m] w fun e w' => e = .returned (.int .i64 (Dsk.rename n m D).2) ∧ IsDk (more S w w') w' p (Dsk.rename n m D).1 (c + 1) ∧ Only S w w' := by
  obtain ⟨ok, bud, lim, h, HD, R, mc, hfl⟩ := H
  obtain ⟨p1, p2, ho, hus, hcs, hfi⟩ := IsDk.nums ok bud lim R (by omega)
  have ok' := Dsk.rename_ok n m ok
  have bud' := Dsk.bud_rename n m bud ok
  have lim' := lim_rename n m lim
  by_cases h0 : D.left = 0
  · have e : Dsk.rename n m D = (D, 11) := act_dead h0 _
    rw [e] at ok' bud' lim' ⊢
    have hp0 : h.power = 0 := by rw [R.power]; exact h0
    have HH := hide HD
    have HB := hide bud'
    have HRR := hide R
    clear HD bud' R e ok bud lim
    go_enter Tryz.func82, Tryz.ntmps82
    go_wp2_with fail
    refine (operate_dead HH.out hp0 n).mono ?_
    rintro e w1 ⟨rfl, hw⟩
    rw [hw]
    clear hw
    go_wp2
    go_ret
    exact ⟨rfl, ⟨ok', HB.out, lim', h, HH.out.wide _, HRR.out, by omega, hfl⟩, Only.refl _ _⟩
  have e : Dsk.rename n m D = Dsk.renameB n m (Dsk.on D) := act_on h0 _
  have hp0 : h.power ≠ 0 := by rw [R.power]; exact h0
  have R1 := R.on
  have ok1 := Dsk.on_ok ok
  rw [e] at ok' bud' lim' ⊢
  clear e
  cases hfd : Dsk.find (Dsk.dir (Dsk.on D)) n with
  | none =>
    have e : Dsk.renameB n m (Dsk.on D) = (Dsk.on D, 5) := by unfold Dsk.renameB; rw [hfd]
    rw [e] at ok' bud' lim' ⊢
    have HF : Hid (h.f n = none) := hide ((R.find n).trans hfd)
    have HH := hide HD
    have HB := hide bud'
    have HRR := hide R1
    clear HD bud' R1 e ok1 hfd R
    go_enter Tryz.func82, Tryz.ntmps82
    go_wp2_with fail
    refine (operate_none HH.out hp0 p1 p2 ho n hn HF.out).mono ?_
    rintro e w1 ⟨rfl, H1, hO⟩
    go_wp2
    go_ret
    exact ⟨rfl, ⟨ok', HB.out, lim', h.on, H1.wide _, HRR.out, by show h.mc ≤ _; omega, hfl⟩, hO⟩
  | some i =>
    have hlt := Dsk.find_lt ok1 hfd
    have him : i < h.made := by rw [R.made]; exact hlt
    have HF : Hid (h.f n = some i) := hide ((R.find n).trans hfd)
    cases hnm : Dsk.isName m with
    | false =>
      have e : Dsk.renameB n m (Dsk.on D) = (Dsk.on D, 3) := by
        unfold Dsk.renameB
        rw [hfd]
        simp only
        rw [if_pos hnm]
      rw [e] at ok' bud' lim' ⊢
      have HNM := hide hnm
      have HH := hide HD
      have HRR := hide R1
      have HOK := hide ok1
      have HFD := hide hfd
      have HB := hide bud'
      have HOK' := hide ok'
      have HL' := hide lim'
      clear HD R1 ok1 hfd R bud' ok' lim' bud ok lim e hnm
      go_enter Tryz.func82, Tryz.ntmps82
      go_wp2_with fail
      refine (operate_some HH.out hp0 p1 p2 ho n hn HF.out).mono ?_
      rintro e w1 ⟨rfl, H1, hO⟩
      have HH1 := hide H1
      have HO1 := hide hO
      clear H1 hO
      go_wp2_with fail
      refine (isName_any m _ hm).mono ?_
      rintro e w3 ⟨rfl, hw⟩
      rw [hw, HNM.out]
      clear hw
      go_wp2
      go_ret
      exact ⟨rfl, ⟨HOK'.out, HB.out, HL'.out, h.on, HH1.out.wide _, HRR.out, by show h.mc ≤ _; omega, hfl⟩, HO1.out⟩
    | true =>
      have e : Dsk.renameB n m (Dsk.on D) = ({ Dsk.on D with dirs := D.dirs ++ [Dsk.without (Dsk.without (Dsk.dir D) n) m ++ [(m, i)]] }, 0) := by
        unfold Dsk.renameB
        rw [hfd]
        simp only
        rw [if_neg (by rw [hnm]; decide)]
        rfl
      rw [e] at ok' bud' lim' ⊢
      have HNM := hide hnm
      have HH := hide HD
      have HRR := hide R1
      have HOK := hide ok1
      have HFD := hide hfd
      have HB := hide bud'
      have HOK' := hide ok'
      have HL' := hide lim'
      clear HD R1 ok1 hfd R bud' ok' lim' bud ok lim e hnm
      go_enter Tryz.func82, Tryz.ntmps82
      go_wp2_with fail
      refine (operate_some HH.out hp0 p1 p2 ho n hn HF.out).mono ?_
      rintro e w1 ⟨rfl, H1, hO⟩
      have HH1 := hide H1
      have HO1 := hide hO
      clear H1 hO
      have HA := hide (HH1.out.below ((Below.refl _ w1).alloc (Nat.le_refl _) (.cells #[.string n, .pointer none, .string m, .pointer (some ⟨h.bl i, 0, none⟩)] 68)))
      go_wp2_with fail
      refine (isName_any m _ hm).mono ?_
      rintro e w3 ⟨rfl, hw⟩
      rw [hw, HNM.out]
      clear hw
      go_wp2_with fail
      refine (change_at HA.out [(n, none), (m, some i)] w1.heap.size 0 2 (NowAt.two (o := none) (q := some i) (heap_new w1 _)) (by simp) (fun e => Nat.lt_irrefl _ (HH1.out.lt _ e)) (by simp) (fun x hx j e => by
        simp at hx
        rcases hx with rfl | rfl
        · cases e
        · cases e; exact him) (fun x hx => by
        simp at hx
        rcases hx with rfl | rfl
        · exact hn
        · exact hm) (by show h.mc ≤ _; omega) (by show h.cs.length ≤ _; omega) (by show _ ≤ h.used ∧ h.used ≤ _; omega) (fun j hj => by have := (hfi j hj).1; show (h.fl j).text.length ≤ _; omega)).mono ?_
      rintro e w4 ⟨rfl, ⟨cv, H3⟩, hO3⟩
      have HH3 := hide H3
      have HO3 := hide hO3
      clear H3 hO3
      go_wp2
      go_ret
      have hz : szF h.fl (h.f n) = ((Dsk.szN (Dsk.on D) (Dsk.find (Dsk.dir (Dsk.on D)) n) : Nat) : Int) := by
        have := szF_szN HRR.out (h.f n) (fun j e => HH1.out.names n j e)
        rw [← HRR.out.find n]
        exact this
      have hpf : ∀ x, Dsk.putN (n, none) h.f x = Dsk.find (Dsk.without (Dsk.dir (Dsk.on D)) n) x := fun x => by
        rw [Dsk.find_without, ← HRR.out.find x]
        rfl
      have hz2 : szF h.fl (Dsk.putN (n, none) h.f m) = ((Dsk.szN (Dsk.on D) (Dsk.find (Dsk.without (Dsk.dir (Dsk.on D)) n) m) : Nat) : Int) := by
        have := szF_szN HRR.out (Dsk.putN (n, none) h.f m) (fun j e => by
          unfold Dsk.putN at e
          simp only at e
          split at e
          · cases e
          · exact HH1.out.names m j e)
        rw [← hpf m]
        exact this
      have hz3 : szF h.fl (some i) = ((Dsk.szN (Dsk.on D) (some i) : Nat) : Int) := szF_szN HRR.out (some i) (fun j e => by cases e; exact him)
      have RR := HRR.out.chg (c := (Dsk.chg [(n, none), (m, some i)] [] h.f).1) (f := (Dsk.chg [(n, none), (m, some i)] [] h.f).2) (row := Dsk.without (Dsk.without (Dsk.dir (Dsk.on D)) n) m ++ [(m, i)]) (u := usedC h.fl [(n, none), (m, some i)] h.f h.used) (Dsk.chg_undo _ _ _) (fun x => by
        rw [Dsk.find_snoc, ← hpf x]
        rfl) (by
        have h1 := Dsk.used_rename HOK.out n m i
        have h2 := HRR.out.used
        show h.used + (0 - szF h.fl (h.f n)) + (szF h.fl (some i) - szF h.fl (Dsk.putN (n, none) h.f m)) = _
        rw [hz, hz2, hz3, show h.used = _ from h2]
        omega) cv (h.mc + 2)
      exact ⟨rfl, ⟨HOK'.out, HB.out, HL'.out, _, HH3.out.to (by have := HO1.out.size; simp; omega) (Nat.le_refl _), RR, by show h.mc + 2 ≤ _; omega, hfl⟩, (HO1.out.then_below ((Below.refl _ w1).alloc (Nat.le_refl _) _)).trans' HO3.out⟩

end Go.Proofs.YtleomppgkikhnaaGreat
