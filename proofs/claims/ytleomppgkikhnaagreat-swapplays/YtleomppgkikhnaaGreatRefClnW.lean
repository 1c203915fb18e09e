/-
  The document's Clean.
-/
import Derived.Test.YtleomppgkikhnaaGreatRefSwpW
import Derived.Test.YtleomppgkikhnaaGreatDskTwoW
namespace Go.Proofs.YtleomppgkikhnaaGreat
open Go.RowKit
open Dsk (By Dk)

theorem RGoes.after {S : Nat → Prop} {w w0 w' : World} {p : Nat} {D : Dk} {c : Nat} (hb : Below w.heap.size w w0) (h : RGoes S w0 w' p D c) : RGoes S w w' p D c :=
  ⟨h.ref.widen (fun b hb' => by
    rcases hb' with k | k
    · exact .inl k
    · exact .inr ⟨Nat.le_trans hb.size k.1, k.2⟩) (fun b hb' => by
    rcases hb' with k | k
    · exact h.ref.lt b (.inl k)
    · exact k.2), h.only.after_below hb⟩
theorem TxK.sub {S T : Nat → Prop} {w : World} {a : Option Addr} {l : List ByteArray} (h : TxK S w a l) (k : ∀ b, T b → S b) : TxK T w a l := by
  obtain ⟨g, o, h1, h2⟩ := h
  exact ⟨g, o, fun x => ⟨(h1 x).1, (h1 x).2.1, fun z => (h1 x).2.2 (k g z)⟩, h2⟩
theorem TxK.then {S : Nat → Prop} {w w' : World} {a : Option Addr} {l : List ByteArray} (h : TxK S w a l) (hb : Below w.heap.size w w') : TxK S w' a l := by
  obtain ⟨g, o, h1, h2⟩ := h
  exact ⟨g, o, fun x => ⟨(h1 x).1, Nat.lt_of_lt_of_le (h1 x).2.1 hb.size, (h1 x).2.2⟩, fun j hj => (hb.cell (p := ⟨g, o + j, none⟩) (h1 (by omega)).2.1).trans (h2 j hj)⟩
def restL (l : List ByteArray) : List (Dk → Dk × Int) := (l.filter Dsk.endsT).map Dsk.remove ++ [Dsk.syncDir]
theorem restL_no {x : ByteArray} {l : List ByteArray} (h : Dsk.endsT x = false) : restL (x :: l) = restL l := by unfold restL; rw [List.filter_cons_of_neg (by rw [h]; simp)]
theorem restL_yes {x : ByteArray} {l : List ByteArray} (h : Dsk.endsT x = true) : restL (x :: l) = Dsk.remove x :: restL l := by unfold restL; rw [List.filter_cons_of_pos h]; rfl
theorem restL_nil (D : Dk) : Dsk.inOrd (restL []) D = Dsk.syncDir D := by
  show Dsk.inOrd [Dsk.syncDir] D = _
  by_cases h : (Dsk.syncDir D).2 = 0
  · rw [Dsk.inOrd_ok h]; unfold Dsk.inOrd; rw [← h]
  · rw [Dsk.inOrd_err h]
set_option maxRecDepth 100000 in
set_option maxHeartbeats 800000 in
theorem rclean_dk {S : Nat → Prop} {w : World} {p : Nat} {D : Dk} {c m : Nat} (H : IsRef S w p D c) (hm : (Dsk.list D).length ≤ m) (hc : c + (m + 1) ≤ 10000000) :
    Calls Tryz.prog 20 #[.pointer (some ⟨p, 0, none⟩)] w fun e w' => e = .returned (.int .i64 (Dsk.clean D).2) ∧ RGoes S w w' p (Dsk.clean D).1 (c + (m + 1)) := by
  have hnm : ∀ x ∈ Dsk.list D, 1 ≤ x.size ∧ x.size ≤ 24 := fun x hx => by
    obtain ⟨f, hf⟩ := Dsk.mem_list.1 hx
    have := (H.ok.row.1 _ hf).1
    unfold Dsk.isName at this
    rw [decide_eq_true_eq] at this
    exact this.2
  obtain ⟨E, hE⟩ : ∃ E, Dsk.clean D = E := ⟨_, rfl⟩
  have e0 : Dsk.inOrd (restL ((Dsk.list D).drop 0)) D = E := by rw [← hE]; rfl
  rw [hE]
  obtain ⟨Ea, Eb⟩ := E
  simp only
  obtain ⟨L, hL⟩ : ∃ L, Dsk.list D = L := ⟨_, rfl⟩
  have hlt0 := H.lt
  have HNM := hide hnm
  have HE0 := hide e0
  have HH := hide H
  have HLT := hide hlt0
  rw [hL] at HNM HE0 hm
  have HLE := hide hL
  clear H hnm e0 hE hL hlt0
  go_enter Tryz.func20, Tryz.ntmps20
  go_wp2_with fail
  refine (rlist_dk HH.out (by omega)).mono ?_
  rintro e w1 ⟨v, rfl, ho, hb1⟩
  rw [HLE.out] at ho
  obtain ⟨ta, tc, rfl, htx⟩ := txk_of ho HLT.out
  have HB1 := hide hb1
  have HG1 := hide (RGoes.of_below (HH.out.below hb1) (Below.refl _ w1))
  have HT1 : Hid (TxK (more S w1 w1) w1 ta L) := hide (htx.sub (fun b hb => by rcases hb with x | x; exact x; omega))
  clear ho hb1 htx
  go_wp2
  go_loopw [4] (fun v2 wr => ∃ (j : Nat) (Dj : Dk), j ≤ L.length ∧ v2 = .int .i64 (j : Int) ∧ Hid (RGoes S w1 wr p Dj (c + j)) ∧ Hid (TxK (more S w1 wr) wr ta L) ∧ Hid (Dsk.inOrd (restL (L.drop j)) Dj = (Ea, Eb))) (fun v2 _ => L.length - (intOf v2).toNat)
  case atStart => exact ⟨0, _, Nat.zero_le _, rfl, HG1, HT1, HE0⟩
  case round =>
    obtain ⟨j, Dj, hj, rfl, HG, HT, HE⟩ := hrel
    by_cases hlt : j < L.length
    · obtain ⟨tg, to, t1, t2⟩ := HT.out
      obtain ⟨rfl, hg, _⟩ := t1 (by omega)
      have hcy := t2 j hlt
      have hxn := HNM.out _ (List.getElem_mem hlt)
      have hdr : L.drop j = L[j] :: L.drop (j + 1) := List.drop_eq_getElem_cons hlt
      obtain ⟨x, hx⟩ : ∃ x, L[j] = x := ⟨_, rfl⟩
      rw [hx] at hcy hxn hdr
      obtain ⟨q, hq⟩ : ∃ q, x.size = q + 1 := ⟨x.size - 1, by omega⟩
      have hqs : q < x.size := by omega
      have hqi : ((x.size : Nat) : Int) - 1 = (q : Int) := by omega
      have hwq : IntKind.i64.wrap ((q : Nat) : Int) = (q : Int) := by rw [IntKind.wrap_i64]; omega
      have hen := ends_at hq hqs
      have hbt : (x[q]).toNat < 256 := (x[q]).toNat_lt
      have hee := HE.out
      rw [hdr] at hee
      have hcq : ∀ nq, (wr.drewN nq).cell? ⟨tg, to + j, none⟩ = some (.string x) := fun _ => hcy
      clear t1 t2 hx hdr
      by_cases h126 : (x[q]).toNat = 126
      · have hen1 : Dsk.endsT x = true := by rw [hen]; exact decide_eq_true h126
        rw [restL_yes hen1] at hee
        have HEE := hide hee
        clear hen hen1 hee
        go_wp2_with fail
        go_quiet (fail)
        go_wp2_with fail
        have HGQ : Hid (RGoes S w1 (wr.drewN nq) p Dj (c + j)) := hide (HG.out.then (dn_below (Below.refl _ _) _))
        have HTQ : Hid (TxK (more S w1 (wr.drewN nq)) (wr.drewN nq) _ L) := hide (HT.out.then (dn_below (Below.refl _ _) _))
        refine (rremove_dk HGQ.out.ref x (by omega)).mono ?_
        rintro e w2 ⟨rfl, hg2⟩
        have HT2 : Hid (TxK (more S w1 w2) w2 _ L) := hide ((HTQ.out.only hg2.only).sub (fun b hb => by
          rcases hb with y | y
          · exact .inl (.inl y)
          · by_cases h : b < (wr.drewN nq).heap.size
            · exact .inl (.inr ⟨y.1, h⟩)
            · exact .inr ⟨by omega, y.2⟩))
        have HG2 := hide (HGQ.out.trans hg2)
        clear hg2
        by_cases hr0 : (Dsk.remove x Dj).2 = 0
        · have hee := HEE.out
          rw [Dsk.inOrd_ok hr0] at hee
          have HE2 := hide hee
          rw [hr0]
          clear hee
          go_wp2
          go_roundw
          case rel => exact ⟨j + 1, _, by omega, by go_num, HG2, HT2, HE2⟩
          case measure => simp [intOf]; omega
        · have hee := HEE.out
          rw [Dsk.inOrd_err hr0] at hee
          have b1 := bz hr0
          have b1' := hr0
          rw [show (Dsk.remove x Dj).2 = Eb from congrArg Prod.snd hee] at b1 b1' ⊢
          have d1 : (Eb != 0) = true := by simp [b1']
          rw [show (Dsk.remove x Dj).1 = Ea from congrArg Prod.fst hee] at HG2
          have HGF := hide ((HG2.out.after HB1.out).mono (c' := c + (m + 1)) (by omega))
          clear hee hr0
          go_wp2
          go_ret
          exact ⟨rfl, HGF.out⟩
      · have hen1 : Dsk.endsT x = false := by rw [hen]; exact decide_eq_false h126
        rw [restL_no hen1] at hee
        have HEE := hide hee
        obtain ⟨bq, hbq⟩ : ∃ bq : Nat, (x[q]).toNat = bq := ⟨_, rfl⟩
        have h126b : ((bq : Int) != 126) = true := by simp; omega
        have h126c : ¬ (bq : Int) = 126 := by omega
        clear h126
        clear hen hen1 hee
        go_wp2_with fail
        go_quiet (fail)
        have HGQ : Hid (RGoes S w1 (wr.drewN nq) p Dj (c + j)) := hide (HG.out.then (dn_below (Below.refl _ _) _))
        have HTQ : Hid (TxK (more S w1 (wr.drewN nq)) (wr.drewN nq) _ L) := hide (HT.out.then (dn_below (Below.refl _ _) _))
        go_wp2
        go_roundw
        case rel => exact ⟨j + 1, _, by omega, by go_num, hide (HGQ.out.mono (by omega)), HTQ, HEE⟩
        case measure => simp [intOf]; omega
    · have hee := HE.out
      rw [List.drop_of_length_le (by omega), restL_nil] at hee
      have HEE := hide hee
      clear hee
      go_wp2_with fail
      refine (rsyncDir_dk HG.out.ref (by omega)).mono ?_
      rintro e w2 ⟨rfl, hg2⟩
      rw [show (Dsk.syncDir Dj).1 = Ea from congrArg Prod.fst HEE.out] at hg2
      rw [show (Dsk.syncDir Dj).2 = Eb from congrArg Prod.snd HEE.out]
      have HGF := hide (((HG.out.trans hg2).after HB1.out).mono (c' := c + (m + 1)) (by omega))
      clear hg2
      go_wp2
      go_ret
      exact ⟨rfl, HGF.out⟩

end Go.Proofs.YtleomppgkikhnaaGreat
