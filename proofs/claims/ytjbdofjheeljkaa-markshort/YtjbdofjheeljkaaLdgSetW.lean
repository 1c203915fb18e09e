/-
  Low moves up to the first number that is not done.
-/
import Derived.Test.YtjbdofjheeljkaaLdgOwnW
namespace Go.Proofs.Ytjbdofjheeljkaa
open Go.RowKit
open Ldg (De Le Rd Rl)

theorem own_len {w : World} {B g n c : Nat} {ps : List DV} (h : OwnD w B (.slice (some ⟨g, 0, none⟩) n c) ps) : n = ps.length := by
  rcases h.row.2 with ⟨h0, _⟩ | ⟨g', cap, cur, e1, _⟩
  · cases h0
  · simp only [Value.slice.injEq] at e1; exact e1.2.1
/-- One field of one destination is another. -/
theorem OwnD.one {w : World} {B g n c : Nat} {ps : List DV} (h : OwnD w B (.slice (some ⟨g, 0, none⟩) n c) ps) {k : Nat} (hk : k < ps.length) {i : Nat} (hi : i < 7) (u : Value) (q : DV) (hq : drow q = (drow ps[k]).set i u) (hs : SlIn (fun b => B ≤ b ∧ b ≠ g) w q.2 q.1.above) :
    OwnD (w.setCell ⟨g, k * 7 + i, none⟩ u) B (.slice (some ⟨g, 0, none⟩) n c) (ps.set k q) := by
  have hn := own_len h
  subst hn
  have hb : ∀ b, b ≠ g → (w.setCell ⟨g, k * 7 + i, none⟩ u).heap[b]? = w.heap[b]? := fun b hb => Below.heap_setCell _ _ _ _ hb
  have hsz : (w.setCell ⟨g, k * 7 + i, none⟩ u).heap.size = w.heap.size := by simp [World.setCell]
  refine ⟨?_, fun p hp => ?_⟩
  · rw [List.length_set, ← drows_set ps k i u q hk hi hq]
    exact lown_set h.row _ _
  · rcases List.mem_or_eq_of_mem_set hp with hp | rfl
    · exact (h.sls p hp).keep (by omega) (fun b _ hx => hb b (fun e => hx.2 (by rw [e]; rfl)))
    · exact (hs.mono (Y := fun b => B ≤ b ∧ (Value.slice (some ⟨g, 0, none⟩) ps.length c).ownBlock ≠ some b) (fun b _ hx => ⟨hx.1, fun e => hx.2 (by simp [Value.ownBlock] at e; exact e.symm)⟩)).keep (by omega) (fun b _ hx => hb b (fun e => hx.2 (by rw [e]; rfl)))
def But (w : World) (g : Nat) : Nat → Prop := fun b => b < w.heap.size ∧ b ≠ g
theorem dn_below10 {n : Nat} {a w : World} (h : Below n a w) (k : Nat) : Below n a (w.drewN k) := ⟨h.os, h.tape, h.output, h.size, h.block⟩
theorem dn_kept (P : Nat → Prop) (w : World) (q : Nat) : Kept P w (w.drewN q) := ⟨rfl, rfl, rfl, Nat.le_refl _, fun _ _ => rfl⟩
theorem OwnD.drewN {w : World} {B : Nat} {v : Value} {ps : List DV} (h : OwnD w B v ps) (q : Nat) : OwnD (w.drewN q) B v ps := h.keep (Nat.le_refl _) (fun _ _ _ => rfl)
theorem But.set {w wr : World} {g : Nat} (h : Kept (But w g) w wr) (i : Nat) (u : Value) : Kept (But w g) w (wr.setCell ⟨g, i, none⟩ u) := h.setCell (fun _ hx e => hx.2 e) u
theorem But.then {w wr w1 : World} {g : Nat} (h : Kept (But w g) w wr) (hb : Below wr.heap.size wr w1) : Kept (But w g) w w1 :=
  h.trans (Kept.of_below hb (fun _ hx => Nat.lt_of_lt_of_le hx.1 h.size))
theorem But.trans {w w1 w2 : World} {g : Nat} (h : Kept (But w g) w w1) (k : Kept (But w1 g) w1 w2) : Kept (But w g) w w2 :=
  h.trans (k.mono (fun _ hx => ⟨Nat.lt_of_lt_of_le hx.1 h.size, hx.2⟩))
set_option maxRecDepth 100000 in
set_option maxHeartbeats 1600000 in
theorem settle_any {w : World} {B g n c : Nat} {ps : List DV} (h : OwnD w B (.slice (some ⟨g, 0, none⟩) n c) ps) {k : Nat} (hk : k < ps.length) (h1 : ps[k].1.low ≤ 1000000000) (h2 : ps[k].1.above.length ≤ 1000000000) :
    Calls Try.prog 81 #[.pointer (some ⟨g, k * 7, none⟩)] w fun e w' => ∃ sv, e = .returned (.tuple #[]) ∧ OwnD w' B (.slice (some ⟨g, 0, none⟩) n c) (ps.set k (ps[k].1.settled, sv)) ∧ Kept (But w g) w w' := by
  rcases hp : ps[k] with ⟨⟨nm, s, lo, ab, ak, ev, rj⟩, v⟩
  rw [hp] at h1 h2
  simp only at h1 h2 ⊢
  have HP := hide hp
  have HH := hide h
  have H2 := hide h2
  clear hp h h2
  go_enter Try.func81, Try.ntmps81
  go_wp2_with fail
  go_loopw [2] (fun vi wr => ∃ m : Nat, vi = .int .i64 (m : Int) ∧ m ≤ ab.length ∧ OwnD wr B (.slice (some ⟨g, 0, none⟩) n c) (ps.set k (⟨nm, s, lo + m, ab, ak, ev, rj⟩, v)) ∧ Ldg.settle (lo + m) (ab.drop m) = Ldg.settle lo ab ∧ Kept (But w g) w wr)
    (fun vi _ => ab.length - (intOf vi).toNat)
  case atStart =>
    refine ⟨0, rfl, Nat.zero_le _, ?_, rfl, Kept.refl _ _⟩
    have : ps.set k (⟨nm, s, lo + 0, ab, ak, ev, rj⟩, v) = ps := by rw [Nat.add_zero, ← HP.out, List.set_getElem_self]
    rw [this]; exact HH.out
  case round =>
    obtain ⟨m, rfl, hm, hown, hst, hkp⟩ := hrel
    have hk' : k < (ps.set k (⟨nm, s, lo + m, ab, ak, ev, rj⟩, v)).length := by rw [List.length_set]; exact hk
    have hwhat := hown.get hk'
    rw [List.getElem_set_self] at hwhat
    obtain ⟨nm', s', lo', ab', ak', ev', rj', va, vc, e, hsl, k0, k1, k2, k3, k4, k5, k6, fz, hgl, hBg⟩ := hwhat
    simp only [Prod.mk.injEq, De.mk.injEq] at e
    obtain ⟨⟨rfl, rfl, e3, rfl, rfl, rfl, rfl⟩, rfl⟩ := e
    subst e3
    have HO := hide hown
    have HST := hide hst
    have HK := hide hkp
    have HSL := hide hsl
    obtain ⟨an, han⟩ : ∃ x, ab.length = x := ⟨_, rfl⟩
    have h2 := H2.out
    rw [han] at k3 hm h2
    have HAN := hide han
    clear hown hst hkp hsl hk' k0 k1 k4 k5 k6 han
    have q3 : ∀ nq, (wr.drewN nq).cell? ⟨g, k * 7 + 3, none⟩ = _ := fun _ => k3
    have q2 : ∀ nq, (wr.drewN nq).cell? ⟨g, k * 7 + 2, none⟩ = _ := fun _ => k2
    by_cases hlt : m < an
    · obtain ⟨a', c', e1, _, _, hu⟩ := HSL.out
      simp only [Value.slice.injEq] at e1
      obtain ⟨rfl, e5, rfl⟩ := e1
      clear e5
      obtain ⟨b, off, x, rfl, hbl, hx, hc⟩ := hu.get (Below.refl _ _) (k := m) (by have := HAN.out; omega)
      have HX := hide hx
      clear hx hu
      have qx : ∀ nq, (wr.drewN nq).cell? ⟨b, off + m, none⟩ = _ := fun _ => hc
      by_cases hxl : x = lo + m
      · subst hxl
        have hst2 := Ldg.settle_go (lo := lo) (l := ab) (m := m) (by have := HAN.out; omega) HX.out
        have HST2 := hide (hst2.symm.trans HST.out)
        clear hst2
        go_wp2_with fail
        go_quiet (fail)
        obtain ⟨wd, hwd⟩ : ∃ W, wr.drewN nq = W := ⟨_, rfl⟩
        have HOd := hide (HO.out.drewN nq)
        have HSd := hide (HSL.out.keep (w' := wr.drewN nq) (Nat.le_refl _) (fun _ _ _ => rfl))
        have HKd := hide (HK.out.trans (dn_kept _ wr nq))
        have d2 := q2 nq
        have fd : ∀ j, wd.frozen? ⟨g, j, none⟩ = false := by rw [← hwd]; exact fz
        rw [hwd] at HOd HKd HSd d2 ⊢
        clear hwd q2 q3 qx k2 k3 fz
        go_wp2_with fail
        have hone := HOd.out.one (k := k) (by rw [List.length_set]; exact hk) (i := 2) (by omega) (.int .u64 ((lo : Int) + (m : Int) + 1)) (⟨nm, s, lo + (m + 1), ab, ak, ev, rj⟩, .slice (some ⟨b, off, none⟩) ab.length vc) (by rw [List.getElem_set_self]; simp [drow]; omega) HSd.out
        rw [List.set_set] at hone
        refine ⟨⟨m + 1, by go_num, by have := HAN.out; omega, hone, HST2.out, But.set HKd.out _ _⟩, by have := HAN.out; simp [intOf]; omega⟩
      · have hst2 := Ldg.settle_stop (lo := lo) (l := ab) (m := m) (fun hm => by rw [HX.out]; exact hxl)
        have HST2 := hide (hst2.symm.trans HST.out)
        have hxl' : ((x : Int) == (lo : Int) + (m : Int)) = false := beq_eq_false_iff_ne.2 (fun e => hxl (by omega))
        clear hst2
        go_wp2_with fail
        go_quiet (fail)
        obtain ⟨wd, hwd⟩ : ∃ W, wr.drewN nq = W := ⟨_, rfl⟩
        have HOd := hide (HO.out.drewN nq)
        have HSd := hide (HSL.out.keep (w' := wr.drewN nq) (Nat.le_refl _) (fun _ _ _ => rfl))
        have HKd := hide (HK.out.trans (dn_kept _ wr nq))
        have d3 := q3 nq
        have fd : ∀ j, wd.frozen? ⟨g, j, none⟩ = false := by rw [← hwd]; exact fz
        have hgl' : g < wd.heap.size := by rw [← hwd]; exact hgl
        rw [hwd] at HOd HKd HSd d3 ⊢
        clear hwd q2 q3 k2 k3 fz hgl
        obtain ⟨hsl, hs2⟩ := from_u64 (n := m) HSd.out (by have := HAN.out; omega)
        rw [HAN.out] at hsl hs2
        obtain ⟨ra, hra⟩ : ∃ r, (if vc = m then (some ⟨b, off, none⟩ : Option Addr) else Option.map (fun x : Addr => x.add m) (some ⟨b, off, none⟩)) = r := ⟨_, rfl⟩
        rw [hra] at hsl hs2
        obtain ⟨rn, hrn⟩ : ∃ r, an - m = r := ⟨_, rfl⟩
        obtain ⟨rc, hrc⟩ : ∃ r, vc - m = r := ⟨_, rfl⟩
        rw [hrn, hrc] at hsl hs2
        have HS2 := hide hs2
        clear hra hrn hrc hs2
        go_wp2_with fail
        refine (numbers_any HS2.out (by rw [List.length_drop]; have := HAN.out; omega)).mono ?_
        rintro e w1 ⟨sv, rfl, hs3, hb1⟩
        have HS3 := hide hs3
        obtain ⟨sa, sc, esv, _⟩ := hs3
        subst esv
        obtain ⟨dl, hdl⟩ : ∃ x, (ab.drop m).length = x := ⟨_, rfl⟩
        rw [hdl] at HS3 ⊢
        clear hdl
        have HO1 := hide (HOd.out.below hb1)
        have HK1 := hide (But.then HKd.out hb1)
        have hsz1 := hb1.size
        have t3 := (hb1.cell (p := ⟨g, k * 7 + 3, none⟩) hgl').trans d3
        have f1 : ∀ j, w1.frozen? ⟨g, j, none⟩ = false := fun j => (hb1.frozen (p := ⟨g, j, none⟩) hgl').trans (fd j)
        clear hb1 d3 fd hsl
        go_wp2_with fail
        have hone := HO1.out.one (k := k) (by rw [List.length_set]; exact hk) (i := 3) (by omega) (.slice sa dl sc) (⟨nm, s, lo + m, ab.drop m, ak, ev, rj⟩, .slice sa dl sc) (by rw [List.getElem_set_self]; simp [drow]) (HS3.out.mono (fun b _ hx => by
          have hxx : wd.heap.size ≤ b := hx
          constructor <;> omega))
        rw [List.set_set] at hone
        have hset : De.settled ⟨nm, s, lo, ab, ak, ev, rj⟩ = ⟨nm, s, lo + m, ab.drop m, ak, ev, rj⟩ := by
          unfold De.settled
          simp only
          rw [← HST2.out]
        rw [hset]
        refine bodyPost_end (v := .tuple #[]) (results_none rfl _ _ _) rfl ?_
        exact ⟨_, rfl, hone, But.set HK1.out _ _⟩
    · have hst2 := Ldg.settle_stop (lo := lo) (l := ab) (m := m) (fun hm => by have := HAN.out; omega)
      have HST2 := hide (hst2.symm.trans HST.out)
      clear hst2
      go_wp2_with fail
      go_quiet (fail)
      obtain ⟨wd, hwd⟩ : ∃ W, wr.drewN nq = W := ⟨_, rfl⟩
      have HOd := hide (HO.out.drewN nq)
      have HSd := hide (HSL.out.keep (w' := wr.drewN nq) (Nat.le_refl _) (fun _ _ _ => rfl))
      have HKd := hide (HK.out.trans (dn_kept _ wr nq))
      have d3 := q3 nq
      have fd : ∀ j, wd.frozen? ⟨g, j, none⟩ = false := by rw [← hwd]; exact fz
      have hgl' : g < wd.heap.size := by rw [← hwd]; exact hgl
      rw [hwd] at HOd HKd HSd d3 ⊢
      clear hwd q2 q3 k2 k3 fz hgl
      obtain ⟨hsl, hs2⟩ := from_u64 (n := m) HSd.out (by have := HAN.out; omega)
      rw [HAN.out] at hsl hs2
      obtain ⟨ra, hra⟩ : ∃ r, (if vc = m then va else Option.map (fun x : Addr => x.add m) va) = r := ⟨_, rfl⟩
      rw [hra] at hsl hs2
      obtain ⟨rn, hrn⟩ : ∃ r, an - m = r := ⟨_, rfl⟩
      obtain ⟨rc, hrc⟩ : ∃ r, vc - m = r := ⟨_, rfl⟩
      rw [hrn, hrc] at hsl hs2
      have HS2 := hide hs2
      clear hra hrn hrc hs2
      go_wp2_with fail
      refine (numbers_any HS2.out (by rw [List.length_drop]; have := HAN.out; omega)).mono ?_
      rintro e w1 ⟨sv, rfl, hs3, hb1⟩
      have HS3 := hide hs3
      obtain ⟨sa, sc, esv, _⟩ := hs3
      subst esv
      obtain ⟨dl, hdl⟩ : ∃ x, (ab.drop m).length = x := ⟨_, rfl⟩
      rw [hdl] at HS3 ⊢
      clear hdl
      have HO1 := hide (HOd.out.below hb1)
      have HK1 := hide (But.then HKd.out hb1)
      have hsz1 := hb1.size
      have t3 := (hb1.cell (p := ⟨g, k * 7 + 3, none⟩) hgl').trans d3
      have f1 : ∀ j, w1.frozen? ⟨g, j, none⟩ = false := fun j => (hb1.frozen (p := ⟨g, j, none⟩) hgl').trans (fd j)
      clear hb1 d3 fd hsl
      go_wp2_with fail
      have hone := HO1.out.one (k := k) (by rw [List.length_set]; exact hk) (i := 3) (by omega) (.slice sa dl sc) (⟨nm, s, lo + m, ab.drop m, ak, ev, rj⟩, .slice sa dl sc) (by rw [List.getElem_set_self]; simp [drow]) (HS3.out.mono (fun b _ hx => by
        have hxx : wd.heap.size ≤ b := hx
        constructor <;> omega))
      rw [List.set_set] at hone
      have hset : De.settled ⟨nm, s, lo, ab, ak, ev, rj⟩ = ⟨nm, s, lo + m, ab.drop m, ak, ev, rj⟩ := by
        unfold De.settled
        simp only
        rw [← HST2.out]
      rw [hset]
      refine bodyPost_end (v := .tuple #[]) (results_none rfl _ _ _) rfl ?_
      exact ⟨_, rfl, hone, But.set HK1.out _ _⟩
end Go.Proofs.Ytjbdofjheeljkaa
