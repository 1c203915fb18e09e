/-
  The document's Name, Write and Clean of chapter 8, on the document's disk.
-/
import Derived.Test.YtleomppgkikhnaaGreatRefDisk
import Derived.Test.YtleomppgkikhnaaGreatRefListW
import Derived.Test.YtleomppgkikhnaaGreatSwpNameW
namespace Go.Proofs.YtleomppgkikhnaaGreat
open Go.RowKit
open Dsk (By Dk)

theorem RGoes.of_below {S : Nat → Prop} {w w' : World} {p : Nat} {D : Dk} {c : Nat} (h : IsRef S w p D c) (hb : Below w.heap.size w w') : RGoes S w w' p D c := ⟨(h.below hb).grow w, Only.of_below hb⟩
theorem RGoes.then {S : Nat → Prop} {w w1 w' : World} {p : Nat} {D : Dk} {c : Nat} (h : RGoes S w w1 p D c) (hb : Below w1.heap.size w1 w') : RGoes S w w' p D c :=
  ⟨(h.ref.below hb).widen (fun b hb' => by
    rcases hb' with k | k
    · exact .inl k
    · exact .inr ⟨k.1, Nat.lt_of_lt_of_le k.2 hb.size⟩) (fun b hb' => by
    rcases hb' with k | k
    · exact Nat.lt_of_lt_of_le (h.ref.lt b (.inl k)) hb.size
    · exact k.2), h.only.then_below hb⟩
theorem RGoes.trans {S : Nat → Prop} {w w1 w' : World} {p : Nat} {D D' : Dk} {c c' : Nat} (h : RGoes S w w1 p D c) (k : RGoes (more S w w1) w1 w' p D' c') : RGoes S w w' p D' c' :=
  ⟨k.ref.widen (fun _ hb => more_trans h.only.size k.only.size hb) (fun b hb => by
    rcases hb with x | x
    · exact k.ref.lt b (.inl (.inl x))
    · exact x.2), h.only.trans k.only⟩
theorem RGoes.mono {S : Nat → Prop} {w w' : World} {p : Nat} {D : Dk} {c c' : Nat} (h : RGoes S w w' p D c) (k : c ≤ c') : RGoes S w w' p D c' := ⟨h.ref.mono k, h.only⟩
theorem ends_at {n : ByteArray} {k : Nat} (h : n.size = k + 1) (hk : k < n.size) : Dsk.endsT n = decide ((n[k]).toNat = 126) := by
  have hl : n.data.toList.length = k + 1 := by simpa using h
  have e2 : n.data.toList.getLast? = some n.data.toList[k] := by
    rw [List.getLast?_eq_getElem?, hl, Nat.add_sub_cancel, List.getElem?_eq_getElem (by omega)]
  unfold Dsk.endsT
  rw [e2]
  refine decide_eq_decide.2 ⟨fun e => ?_, fun e => ?_⟩
  · have := Option.some.inj e
    show (n.data.toList[k]).toNat = 126
    rw [this]; rfl
  · have e : (n.data.toList[k]).toNat = 126 := e
    have : n.data.toList[k] = 126 := UInt8.toNat_inj.1 e
    rw [this]
set_option maxRecDepth 100000 in
set_option maxHeartbeats 800000 in
theorem rname8_any (s : ByteArray) (w : World) (hs : s.size ≤ 9223372036854775807) :
    Calls Tryz.prog 49 #[.string s] w fun e w' => e = .returned (.bool (Dsk.maySwap s)) ∧ Below w.heap.size w w' := by
  cases hnm : Dsk.isName s with
  | false =>
    rw [maySwap_no hnm]
    have HN := hide hnm
    clear hnm
    go_enter Tryz.func49, Tryz.ntmps49
    go_wp2_with fail
    refine (rname_any s w hs).mono ?_
    rintro e w1 ⟨rfl, hb⟩
    rw [HN.out]
    go_wp2
    go_ret
    exact ⟨rfl, hb⟩
  | true =>
    have h1 := (of_decide_eq_true (show decide ((∀ b ∈ s.data.toList, 33 ≤ b.toNat ∧ b.toNat ≤ 126) ∧ 1 ≤ s.size ∧ s.size ≤ 24) = true from hnm)).2
    by_cases h23 : 23 < s.size
    · rw [maySwap_long h23]
      have HN := hide hnm
      clear hnm
      go_enter Tryz.func49, Tryz.ntmps49
      go_wp2_with fail
      refine (rname_any s w hs).mono ?_
      rintro e w1 ⟨rfl, hb⟩
      rw [HN.out]
      go_wp2
      go_ret
      exact ⟨by simp, hb⟩
    · obtain ⟨k, hk⟩ : ∃ k, s.size = k + 1 := ⟨s.size - 1, by omega⟩
      have hks : k < s.size := by omega
      have hki : ((s.size : Nat) : Int) - 1 = (k : Int) := by omega
      have hen := ends_at hk hks
      have hma : Dsk.maySwap s = !Dsk.endsT s := by unfold Dsk.maySwap; rw [hnm, decide_eq_true (by omega)]; simp
      rw [hma, hen]
      have hbt : (s[k]).toNat < 256 := (s[k]).toNat_lt
      by_cases h126 : (s[k]).toNat = 126
      · rw [decide_eq_true h126]
        have HN := hide hnm
        clear hnm hma hen
        go_enter Tryz.func49, Tryz.ntmps49
        go_wp2_with fail
        refine (rname_any s w hs).mono ?_
        rintro e w1 ⟨rfl, hb⟩
        rw [HN.out]
        go_wp2
        go_ret
        exact ⟨by simp, hb⟩
      · rw [decide_eq_false h126]
        have h126i : ¬ (((s[k]).toNat : Nat) : Int) = 126 := by omega
        have HN := hide hnm
        clear hnm hma hen
        go_enter Tryz.func49, Tryz.ntmps49
        go_wp2_with fail
        refine (rname_any s w hs).mono ?_
        rintro e w1 ⟨rfl, hb⟩
        rw [HN.out]
        go_wp2
        go_ret
        exact ⟨by simp; omega, hb⟩

theorem bz {e : Int} (h : e ≠ 0) : (e == 0) = false := beq_eq_false_iff_ne.2 h
set_option maxRecDepth 100000 in
set_option maxHeartbeats 1600000 in
theorem rwrite_dk {S : Nat → Prop} {w : World} {p : Nat} {D : Dk} {c : Nat} (H : IsRef S w p D c) (n s : ByteArray) (hn : n.size ≤ 9223372036854775807) (hc : c + (s.size + 8) ≤ 10000000) :
    Calls Tryz.prog 18 #[.pointer (some ⟨p, 0, none⟩), .string n, .string s] w fun e w' => e = .returned (.int .i64 (Dsk.write n s.data.toList D).2) ∧ RGoes S w w' p (Dsk.write n s.data.toList D).1 (c + (s.size + 8)) := by
  have HH := hide H
  clear H
  cases hm : Dsk.maySwap n with
  | false =>
    have e : Dsk.write n s.data.toList D = (D, 3) := by unfold Dsk.write; rw [hm]; rfl
    rw [e]
    have HM := hide hm
    clear hm e
    go_enter Tryz.func18, Tryz.ntmps18
    go_wp2_with fail
    refine (rname8_any n _ hn).mono ?_
    rintro e w1 ⟨rfl, hb⟩
    rw [HM.out]
    have HG := hide ((RGoes.of_below HH.out hb).mono (c' := c + (s.size + 8)) (by omega))
    clear hb
    go_wp2
    go_ret
    exact ⟨rfl, HG.out⟩
  | true =>
    have h23 := (Dsk.maySwap_iff.1 hm).2.1
    obtain ⟨E, hE⟩ : ∃ E, Dsk.write n s.data.toList D = E := ⟨_, rfl⟩
    have e0 : Dsk.write n s.data.toList D = Dsk.inOrd (Dsk.writeL n s.data.toList) D := by unfold Dsk.write; rw [hm]; rfl
    rw [hE] at e0 ⊢
    obtain ⟨Ea, Eb⟩ := E
    simp only at e0 ⊢
    unfold Dsk.writeL at e0
    obtain ⟨o, ho⟩ : ∃ o, Dsk.tilde n = o := ⟨_, rfl⟩
    have hos : o.size ≤ 24 := by rw [← ho, Dsk.tilde_size]; omega
    rw [ho] at e0
    have hcat : n ++ (⟨#[126]⟩ : ByteArray) = o := ho
    have HE0 := hide e0
    have HM := hide hm
    clear hm e0 hE ho
    go_enter Tryz.func18, Tryz.ntmps18
    go_wp2_with fail
    refine (rname8_any n _ hn).mono ?_
    rintro e w1 ⟨rfl, hb⟩
    rw [HM.out]
    have HG1 := hide (RGoes.of_below HH.out hb)
    clear hb
    go_wp2_with fail
    refine (rremove_dk HG1.out.ref o (by omega)).mono ?_
    rintro e w2 ⟨rfl, hg⟩
    have HG2 := hide (HG1.out.trans hg)
    clear hg
    by_cases hR0 : (Dsk.remove o D).2 ≠ 0 ∧ (Dsk.remove o D).2 ≠ 5
    · have hcl : Dsk.clearA o D = Dsk.remove o D := by
        unfold Dsk.clearA
        rw [if_neg hR0.2]
      have hfin := HE0.out
      rw [Dsk.inOrd_err (by rw [hcl]; exact hR0.1), hcl] at hfin
      have b1 := bz hR0.1
      have b1' := hR0.1
      have b2' := hR0.2
      have b2 : ((Dsk.remove o D).2 == 5) = false := beq_eq_false_iff_ne.2 hR0.2
      rw [show (Dsk.remove o D).2 = Eb from (congrArg Prod.snd hfin).symm] at b1 b2 b1' b2' ⊢
      have d1 : (Eb != 0) = true := by simp [b1']
      have d2 : (Eb != 5) = true := by simp [b2']
      rw [show (Dsk.remove o D).1 = Ea from (congrArg Prod.fst hfin).symm] at HG2
      have HG := hide (HG2.out.mono (c' := c + (s.size + 8)) (by omega))
      clear hR0 hcl hfin
      go_wp2
      go_ret
      exact ⟨rfl, HG.out⟩
    · have hcl0 : (Dsk.clearA o D).2 = 0 := by
        unfold Dsk.clearA
        simp only
        split
        · rfl
        · rename_i h5
          by_cases h : (Dsk.remove o D).2 = 0
          · exact h
          · exact absurd ⟨h, h5⟩ hR0
      have hcl1 : (Dsk.clearA o D).1 = (Dsk.remove o D).1 := rfl
      have hE1 := HE0.out
      rw [Dsk.inOrd_ok hcl0, hcl1] at hE1
      obtain ⟨D1, hD1⟩ : ∃ D1, (Dsk.remove o D).1 = D1 := ⟨_, rfl⟩
      rw [hD1] at hE1 HG2
      have HE1 := hide hE1
      have hor : (Dsk.remove o D).2 = 0 ∨ (Dsk.remove o D).2 = 5 := by
        by_cases h : (Dsk.remove o D).2 = 0
        · exact .inl h
        · exact .inr (by by_cases h5 : (Dsk.remove o D).2 = 5; exact h5; exact absurd ⟨h, h5⟩ hR0)
      clear hR0 hcl0 hcl1 hE1 hD1 HE0 HG1
      rcases hor with hor | hor
      · have HOR := hide hor
        clear hor
        rw [HOR.out]
        go_wp2_with fail
        refine (rcreate_dk HG2.out.ref o (by omega) (by omega)).mono ?_
        rintro e w3 ⟨rfl, hg⟩
        have HG3 := hide (HG2.out.trans hg)
        clear hg
        by_cases hc0 : (Dsk.create o D1).2 = 0
        case neg =>
          have hfin := HE1.out
          rw [Dsk.inOrd_err hc0] at hfin
          have b1 := bz hc0
          have b1' := hc0
          rw [show (Dsk.create o D1).2 = Eb from (congrArg Prod.snd hfin).symm] at b1 b1' ⊢
          have d1 : (Eb != 0) = true := by simp [b1']
          rw [show (Dsk.create o D1).1 = Ea from (congrArg Prod.fst hfin).symm] at HG3
          have HG := hide (HG3.out.mono (c' := c + (s.size + 8)) (by omega))
          clear hc0 hfin
          go_wp2
          go_ret
          exact ⟨rfl, HG.out⟩
        have hE2 := HE1.out
        rw [Dsk.inOrd_ok hc0] at hE2
        rw [hc0]
        obtain ⟨D2, hD2⟩ : ∃ D2, (Dsk.create o D1).1 = D2 := ⟨_, rfl⟩
        rw [hD2] at hE2 HG3
        have HE2 := hide hE2
        clear hc0 hE2 hD2 HE1 HG2
        go_wp2_with fail
        refine (rappend_dk HG3.out.ref o s (by omega)).mono ?_
        rintro e w4 ⟨rfl, hg⟩
        have HG4 := hide (HG3.out.trans hg)
        clear hg
        by_cases hc0 : (Dsk.append o s.data.toList D2).2 = 0
        case neg =>
          have hfa : Dsk.fillA o s.data.toList D2 = ((Dsk.remove o (Dsk.append o s.data.toList D2).1).1, (Dsk.append o s.data.toList D2).2) := Dsk.orRem_err hc0
          have hfin := HE2.out
          rw [Dsk.inOrd_err (by rw [hfa]; exact hc0), hfa] at hfin
          have b1 := bz hc0
          have b1' := hc0
          have e1 : (Dsk.remove o (Dsk.append o s.data.toList D2).1).1 = Ea := (congrArg Prod.fst hfin).symm
          have e2 : (Dsk.append o s.data.toList D2).2 = Eb := (congrArg Prod.snd hfin).symm
          rw [e2] at b1 b1' ⊢
          have d1 : (Eb != 0) = true := by simp [b1']
          have E1 := hide e1
          clear hc0 hfin hfa e1 e2
          go_wp2_with fail
          refine (rremove_dk HG4.out.ref o (by omega)).mono ?_
          rintro e w5 ⟨rfl, hg⟩
          rw [E1.out] at hg
          have HG := hide ((HG4.out.trans hg).mono (c' := c + (s.size + 8)) (by omega))
          clear hg
          go_wp2
          go_ret
          exact ⟨rfl, HG.out⟩
        have hfa : Dsk.fillA o s.data.toList D2 = Dsk.append o s.data.toList D2 := Dsk.orRem_ok hc0
        have hE3 := HE2.out
        rw [Dsk.inOrd_ok (by rw [hfa]; exact hc0), hfa] at hE3
        rw [hc0]
        obtain ⟨D3, hD3⟩ : ∃ D3, (Dsk.append o s.data.toList D2).1 = D3 := ⟨_, rfl⟩
        rw [hD3] at hE3 HG4
        have HE3 := hide hE3
        clear hc0 hE3 hD3 HE2 HG3 hfa
        go_wp2_with fail
        refine (rsync_dk HG4.out.ref o (by omega)).mono ?_
        rintro e w6 ⟨rfl, hg⟩
        have HG5 := hide (HG4.out.trans hg)
        clear hg
        by_cases hc0 : (Dsk.sync o D3).2 = 0
        case neg =>
          have hfa : Dsk.syncA o D3 = ((Dsk.remove o (Dsk.sync o D3).1).1, (Dsk.sync o D3).2) := Dsk.orRem_err hc0
          have hfin := HE3.out
          rw [Dsk.inOrd_err (by rw [hfa]; exact hc0), hfa] at hfin
          have b1 := bz hc0
          have b1' := hc0
          have e1 : (Dsk.remove o (Dsk.sync o D3).1).1 = Ea := (congrArg Prod.fst hfin).symm
          have e2 : (Dsk.sync o D3).2 = Eb := (congrArg Prod.snd hfin).symm
          rw [e2] at b1 b1' ⊢
          have d1 : (Eb != 0) = true := by simp [b1']
          have E1 := hide e1
          clear hc0 hfin hfa e1 e2
          go_wp2_with fail
          refine (rremove_dk HG5.out.ref o (by omega)).mono ?_
          rintro e w5 ⟨rfl, hg⟩
          rw [E1.out] at hg
          have HG := hide ((HG5.out.trans hg).mono (c' := c + (s.size + 8)) (by omega))
          clear hg
          go_wp2
          go_ret
          exact ⟨rfl, HG.out⟩
        have hfa : Dsk.syncA o D3 = Dsk.sync o D3 := Dsk.orRem_ok hc0
        have hE4 := HE3.out
        rw [Dsk.inOrd_ok (by rw [hfa]; exact hc0), hfa] at hE4
        rw [hc0]
        obtain ⟨D4, hD4⟩ : ∃ D4, (Dsk.sync o D3).1 = D4 := ⟨_, rfl⟩
        rw [hD4] at hE4 HG5
        have HE4 := hide hE4
        clear hc0 hE4 hD4 HE3 HG4 hfa
        go_wp2_with fail
        refine (rrename_dk HG5.out.ref o n hn (by omega)).mono ?_
        rintro e w7 ⟨rfl, hg⟩
        have HG6 := hide (HG5.out.trans hg)
        clear hg
        by_cases hc0 : (Dsk.rename o n D4).2 = 0
        case neg =>
          have hfin := HE4.out
          rw [Dsk.inOrd_err hc0] at hfin
          have b1 := bz hc0
          have b1' := hc0
          rw [show (Dsk.rename o n D4).2 = Eb from (congrArg Prod.snd hfin).symm] at b1 b1' ⊢
          have d1 : (Eb != 0) = true := by simp [b1']
          rw [show (Dsk.rename o n D4).1 = Ea from (congrArg Prod.fst hfin).symm] at HG6
          have HG := hide (HG6.out.mono (c' := c + (s.size + 8)) (by omega))
          clear hc0 hfin
          go_wp2
          go_ret
          exact ⟨rfl, HG.out⟩
        have hE5 := HE4.out
        rw [Dsk.inOrd_ok hc0] at hE5
        rw [hc0]
        obtain ⟨D5, hD5⟩ : ∃ D5, (Dsk.rename o n D4).1 = D5 := ⟨_, rfl⟩
        rw [hD5] at hE5 HG6
        have hlast : Dsk.inOrd [Dsk.syncDir] D5 = Dsk.syncDir D5 := by
          by_cases h : (Dsk.syncDir D5).2 = 0
          · rw [Dsk.inOrd_ok h]; unfold Dsk.inOrd; rw [← h]
          · rw [Dsk.inOrd_err h]
        rw [hlast] at hE5
        have HE5 := hide hE5
        clear hc0 hE5 hD5 HE4 HG5 hlast
        go_wp2_with fail
        refine (rsyncDir_dk HG6.out.ref (by omega)).mono ?_
        rintro e w8 ⟨rfl, hg⟩
        rw [show (Dsk.syncDir D5).1 = Ea from (congrArg Prod.fst HE5.out).symm] at hg
        rw [show (Dsk.syncDir D5).2 = Eb from (congrArg Prod.snd HE5.out).symm]
        have HG := hide ((HG6.out.trans hg).mono (c' := c + (s.size + 8)) (by omega))
        clear hg
        go_wp2
        go_ret
        exact ⟨rfl, HG.out⟩
      · have HOR := hide hor
        clear hor
        rw [HOR.out]
        go_wp2_with fail
        refine (rcreate_dk HG2.out.ref o (by omega) (by omega)).mono ?_
        rintro e w3 ⟨rfl, hg⟩
        have HG3 := hide (HG2.out.trans hg)
        clear hg
        by_cases hc0 : (Dsk.create o D1).2 = 0
        case neg =>
          have hfin := HE1.out
          rw [Dsk.inOrd_err hc0] at hfin
          have b1 := bz hc0
          have b1' := hc0
          rw [show (Dsk.create o D1).2 = Eb from (congrArg Prod.snd hfin).symm] at b1 b1' ⊢
          have d1 : (Eb != 0) = true := by simp [b1']
          rw [show (Dsk.create o D1).1 = Ea from (congrArg Prod.fst hfin).symm] at HG3
          have HG := hide (HG3.out.mono (c' := c + (s.size + 8)) (by omega))
          clear hc0 hfin
          go_wp2
          go_ret
          exact ⟨rfl, HG.out⟩
        have hE2 := HE1.out
        rw [Dsk.inOrd_ok hc0] at hE2
        rw [hc0]
        obtain ⟨D2, hD2⟩ : ∃ D2, (Dsk.create o D1).1 = D2 := ⟨_, rfl⟩
        rw [hD2] at hE2 HG3
        have HE2 := hide hE2
        clear hc0 hE2 hD2 HE1 HG2
        go_wp2_with fail
        refine (rappend_dk HG3.out.ref o s (by omega)).mono ?_
        rintro e w4 ⟨rfl, hg⟩
        have HG4 := hide (HG3.out.trans hg)
        clear hg
        by_cases hc0 : (Dsk.append o s.data.toList D2).2 = 0
        case neg =>
          have hfa : Dsk.fillA o s.data.toList D2 = ((Dsk.remove o (Dsk.append o s.data.toList D2).1).1, (Dsk.append o s.data.toList D2).2) := Dsk.orRem_err hc0
          have hfin := HE2.out
          rw [Dsk.inOrd_err (by rw [hfa]; exact hc0), hfa] at hfin
          have b1 := bz hc0
          have b1' := hc0
          have e1 : (Dsk.remove o (Dsk.append o s.data.toList D2).1).1 = Ea := (congrArg Prod.fst hfin).symm
          have e2 : (Dsk.append o s.data.toList D2).2 = Eb := (congrArg Prod.snd hfin).symm
          rw [e2] at b1 b1' ⊢
          have d1 : (Eb != 0) = true := by simp [b1']
          have E1 := hide e1
          clear hc0 hfin hfa e1 e2
          go_wp2_with fail
          refine (rremove_dk HG4.out.ref o (by omega)).mono ?_
          rintro e w5 ⟨rfl, hg⟩
          rw [E1.out] at hg
          have HG := hide ((HG4.out.trans hg).mono (c' := c + (s.size + 8)) (by omega))
          clear hg
          go_wp2
          go_ret
          exact ⟨rfl, HG.out⟩
        have hfa : Dsk.fillA o s.data.toList D2 = Dsk.append o s.data.toList D2 := Dsk.orRem_ok hc0
        have hE3 := HE2.out
        rw [Dsk.inOrd_ok (by rw [hfa]; exact hc0), hfa] at hE3
        rw [hc0]
        obtain ⟨D3, hD3⟩ : ∃ D3, (Dsk.append o s.data.toList D2).1 = D3 := ⟨_, rfl⟩
        rw [hD3] at hE3 HG4
        have HE3 := hide hE3
        clear hc0 hE3 hD3 HE2 HG3 hfa
        go_wp2_with fail
        refine (rsync_dk HG4.out.ref o (by omega)).mono ?_
        rintro e w6 ⟨rfl, hg⟩
        have HG5 := hide (HG4.out.trans hg)
        clear hg
        by_cases hc0 : (Dsk.sync o D3).2 = 0
        case neg =>
          have hfa : Dsk.syncA o D3 = ((Dsk.remove o (Dsk.sync o D3).1).1, (Dsk.sync o D3).2) := Dsk.orRem_err hc0
          have hfin := HE3.out
          rw [Dsk.inOrd_err (by rw [hfa]; exact hc0), hfa] at hfin
          have b1 := bz hc0
          have b1' := hc0
          have e1 : (Dsk.remove o (Dsk.sync o D3).1).1 = Ea := (congrArg Prod.fst hfin).symm
          have e2 : (Dsk.sync o D3).2 = Eb := (congrArg Prod.snd hfin).symm
          rw [e2] at b1 b1' ⊢
          have d1 : (Eb != 0) = true := by simp [b1']
          have E1 := hide e1
          clear hc0 hfin hfa e1 e2
          go_wp2_with fail
          refine (rremove_dk HG5.out.ref o (by omega)).mono ?_
          rintro e w5 ⟨rfl, hg⟩
          rw [E1.out] at hg
          have HG := hide ((HG5.out.trans hg).mono (c' := c + (s.size + 8)) (by omega))
          clear hg
          go_wp2
          go_ret
          exact ⟨rfl, HG.out⟩
        have hfa : Dsk.syncA o D3 = Dsk.sync o D3 := Dsk.orRem_ok hc0
        have hE4 := HE3.out
        rw [Dsk.inOrd_ok (by rw [hfa]; exact hc0), hfa] at hE4
        rw [hc0]
        obtain ⟨D4, hD4⟩ : ∃ D4, (Dsk.sync o D3).1 = D4 := ⟨_, rfl⟩
        rw [hD4] at hE4 HG5
        have HE4 := hide hE4
        clear hc0 hE4 hD4 HE3 HG4 hfa
        go_wp2_with fail
        refine (rrename_dk HG5.out.ref o n hn (by omega)).mono ?_
        rintro e w7 ⟨rfl, hg⟩
        have HG6 := hide (HG5.out.trans hg)
        clear hg
        by_cases hc0 : (Dsk.rename o n D4).2 = 0
        case neg =>
          have hfin := HE4.out
          rw [Dsk.inOrd_err hc0] at hfin
          have b1 := bz hc0
          have b1' := hc0
          rw [show (Dsk.rename o n D4).2 = Eb from (congrArg Prod.snd hfin).symm] at b1 b1' ⊢
          have d1 : (Eb != 0) = true := by simp [b1']
          rw [show (Dsk.rename o n D4).1 = Ea from (congrArg Prod.fst hfin).symm] at HG6
          have HG := hide (HG6.out.mono (c' := c + (s.size + 8)) (by omega))
          clear hc0 hfin
          go_wp2
          go_ret
          exact ⟨rfl, HG.out⟩
        have hE5 := HE4.out
        rw [Dsk.inOrd_ok hc0] at hE5
        rw [hc0]
        obtain ⟨D5, hD5⟩ : ∃ D5, (Dsk.rename o n D4).1 = D5 := ⟨_, rfl⟩
        rw [hD5] at hE5 HG6
        have hlast : Dsk.inOrd [Dsk.syncDir] D5 = Dsk.syncDir D5 := by
          by_cases h : (Dsk.syncDir D5).2 = 0
          · rw [Dsk.inOrd_ok h]; unfold Dsk.inOrd; rw [← h]
          · rw [Dsk.inOrd_err h]
        rw [hlast] at hE5
        have HE5 := hide hE5
        clear hc0 hE5 hD5 HE4 HG5 hlast
        go_wp2_with fail
        refine (rsyncDir_dk HG6.out.ref (by omega)).mono ?_
        rintro e w8 ⟨rfl, hg⟩
        rw [show (Dsk.syncDir D5).1 = Ea from (congrArg Prod.fst HE5.out).symm] at hg
        rw [show (Dsk.syncDir D5).2 = Eb from (congrArg Prod.snd HE5.out).symm]
        have HG := hide ((HG6.out.trans hg).mono (c' := c + (s.size + 8)) (by omega))
        clear hg
        go_wp2
        go_ret
        exact ⟨rfl, HG.out⟩

end Go.Proofs.YtleomppgkikhnaaGreat
