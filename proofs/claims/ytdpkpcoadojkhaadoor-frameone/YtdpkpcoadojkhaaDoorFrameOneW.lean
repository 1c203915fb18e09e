/-
  FrameOne: the walk.
-/
import Derived.Test.YtdpkpcoadojkhaaDoorFrmOfW
namespace Go.Proofs.YtdpkpcoadojkhaaDoor
open Go.RowKit
open Frm (Fr)

theorem put_eq_iff {a b : Nat} {s t : List UInt8} (hf : Frm.Ok (a, s)) (hg : Frm.Ok (b, t)) : (Frm.put (a, s) = Frm.put (b, t)) ↔ (a = b ∧ s = t) := by
  constructor
  · intro h
    have := (Frm.put_inj (x := []) (y := []) hf hg (by rw [h])).1
    simp only [Prod.mk.injEq] at this
    exact this
  · rintro ⟨rfl, rfl⟩; rfl

theorem two_of {w : World} {B : Nat} {v : Value} {a b : Nat} {s t : List UInt8} (h : OwnF 28 w B v [(b, t), (a, s)]) :
    ∃ g cap, v = .slice (some ⟨g, 0, none⟩) 2 cap ∧ w.cell? ⟨g, 0, none⟩ = some (.int .u64 (b : Int)) ∧ w.cell? ⟨g, 1, none⟩ = some (.string (Num.bs t)) ∧ w.cell? ⟨g, 3, none⟩ = some (.int .u64 (a : Int)) ∧ w.cell? ⟨g, 4, none⟩ = some (.string (Num.bs s)) := by
  rcases h.2 with ⟨rfl, h1⟩ | ⟨g, cap, cur, rfl, hB, hg, hnc, hcm, hcs, htake⟩
  · simp at h1
  · have hp := fcells_at [(b, t), (a, s)] 0 (by simp)
    have hq := fcells_at [(b, t), (a, s)] 1 (by simp)
    refine ⟨g, cap, rfl, ?_, ?_, ?_, ?_⟩
    · rw [World.ownsRow.cellAt h 0 (by simp)]; exact hp.1
    · rw [World.ownsRow.cellAt h 1 (by simp)]; exact hp.2.1
    · rw [World.ownsRow.cellAt h 3 (by simp)]; exact hq.1
    · rw [World.ownsRow.cellAt h 4 (by simp)]; exact hq.2.1

set_option maxRecDepth 100000 in
set_option maxHeartbeats 3200000 in
theorem walkFrameOne (x y : Int) (s0 t0 : ByteArray) (w : World) (hx : 0 ≤ x ∧ x ≤ 18446744073709551615) (hy : 0 ≤ y ∧ y ≤ 18446744073709551615) (hb : s0.size ≤ maxLen) (hr : t0.size ≤ maxLen) (hT : Tab w) :
    Calls Tryd.prog 9 #[.int .u64 x, .int .u64 y, .string s0, .string t0] w fun e w' => e = .returned (.bool true) ∧ Below w.heap.size w w' := by
  obtain ⟨a, rfl⟩ := Int.eq_ofNat_of_zero_le hx.1
  obtain ⟨b, rfl⟩ := Int.eq_ofNat_of_zero_le hy.1
  have ha : a < 18446744073709551616 := by omega
  have hb' : b < 18446744073709551616 := by omega
  have HT := hide hT
  clear hT hx hy
  unfold maxLen at hb hr
  by_cases h1 : s0.size ≤ 2000
  · by_cases h2 : t0.size ≤ 2000
    · obtain ⟨s, rfl⟩ : ∃ s, s0 = Num.bs s := ⟨s0.data.toList, (Num.bs_of s0).symm⟩
      obtain ⟨t, rfl⟩ : ∃ t, t0 = Num.bs t := ⟨t0.data.toList, (Num.bs_of t0).symm⟩
      rw [Num.bs_size] at h1 h2
      have hss : (Num.bs s).size = s.length := Num.bs_size _
      have hts : (Num.bs t).size = t.length := Num.bs_size _
      have hf : Frm.Ok (a, s) := ⟨ha, h1⟩
      have hg : Frm.Ok (b, t) := ⟨hb', h2⟩
      have hzf := Frm.size_le hf
      have hzg := Frm.size_le hg
      have hpf : (Num.bs (Frm.put (a, s))).size = Frm.size (a, s) := Num.bs_size _
      have hpg : (Num.bs (Frm.put (b, t))).size = Frm.size (b, t) := Num.bs_size _
      have HP1 := hide (fun wx hTx => fput_ok a s wx ha h1 hTx)
      have HP2 := hide (fun wx hTx => fput_ok b t wx hb' h2 hTx)
      have HF := hide (fun wx hTx => ffirst_any (Frm.put (a, s) ++ Frm.put (b, t)) wx (by rw [List.length_append]; unfold maxLen; unfold Frm.size at hzf hzg; omega) hTx)
      unfold firstV at HF
      rw [Frm.first_put hf, ← app_bs] at HF
      unfold someV fq fb fz at HF
      have hsc : Frm.scan (Frm.put (b, t) ++ Frm.put (a, s)) = [(b, t), (a, s)] := by
        refine Frm.scan_unique (r := []) ?_ ?_ (by decide +kernel)
        · simp [Frm.bytes]
        · intro f hf'; simp at hf'; rcases hf' with rfl | rfl <;> assumption
      have htot : total [(b, t), (a, s)] = Frm.size (b, t) + Frm.size (a, s) := by unfold total; simp [Frm.bytes, Frm.size]
      have HS := hide (fun wx hTx => scan_any (Frm.put (b, t) ++ Frm.put (a, s)) wx (by rw [List.length_append]; unfold Frm.size at hzf hzg; omega) hTx)
      unfold Scans at HS
      rw [hsc, htot, ← app_bs] at HS
      have HQ := put_eq_iff hf hg
      have hq1 : ((Num.bs (Frm.put (a, s))).toList == (Num.bs (Frm.put (b, t))).toList) = ((a : Int) == (b : Int) && (Num.bs s).toList == (Num.bs t).toList) := by
        rw [ByteArray.toList_eq, ByteArray.toList_eq, ByteArray.toList_eq, ByteArray.toList_eq, Num.bs_toList, Num.bs_toList, Num.bs_toList, Num.bs_toList, Bool.eq_iff_iff]
        simp only [beq_iff_eq, Bool.and_eq_true]
        rw [HQ]
        constructor
        · rintro ⟨rfl, rfl⟩; exact ⟨rfl, rfl⟩
        · rintro ⟨h, rfl⟩; exact ⟨by omega, rfl⟩
      clear hsc htot HQ
      obtain ⟨p1, hp1⟩ : ∃ p1, ((a : Int) == (b : Int)) = p1 := ⟨_, rfl⟩
      obtain ⟨p2, hp2⟩ : ∃ p2, ((Num.bs s).toList == (Num.bs t).toList) = p2 := ⟨_, rfl⟩
      rw [hp1, hp2] at hq1
      rcases p1 with _ | _ <;> rcases p2 with _ | _ <;> simp only [Bool.and_self, Bool.and_false, Bool.false_and] at hq1
      all_goals
        go_enter Tryd.func9, Tryd.ntmps9
        go_wp2_with fail
        refine (fshown_any _ HT.out).mono ?_
        rintro e w1 ⟨rfl, hb1⟩
        go_wp2_with fail
        refine (HP1.out _ (HT.out.below hb1)).mono ?_
        rintro e w2 ⟨rfl, hb2⟩
        have hb3 := bl hb1 hb2
        clear hb1 hb2
        go_wp2_with fail
        refine (HP2.out _ (HT.out.below hb3)).mono ?_
        rintro e w4 ⟨rfl, hb4⟩
        have hb5 := bl hb3 hb4
        clear hb3 hb4
        go_wp2_with fail
        refine (HF.out _ (HT.out.below hb5)).mono ?_
        rintro e w6 ⟨rfl, hb6⟩
        have hb7 := bl hb5 hb6
        have hb8 := hb7.alloc hb7.size (Obj.cells #[.int .u64 (a : Int), .string (Num.bs s), .int .i64 ((Frm.size (a, s) : Nat) : Int)] 28)
        clear hb5 hb6 hb7
        go_wp2_with fail
        refine (HS.out _ (HT.out.below hb8)).mono ?_
        rintro e w7 ⟨⟨v, rfl, hvo⟩, hb9⟩
        obtain ⟨c0, c1, c2, _, _, _⟩ := three_later hb9
        have hb10 := bl hb8 hb9
        obtain ⟨g, cap, rfl, r0, r1, r3, r4⟩ := two_of hvo
        clear hb8 hb9 hvo
        go_wp2
        go_ret
        exact ⟨fret_b (beq_iff_eq.2 (by omega)), hb10⟩
    · go_enter Tryd.func9, Tryd.ntmps9
      go_wp2_with fail
      refine (fshown_any _ HT.out).mono ?_
      rintro e w1 ⟨rfl, hb1⟩
      go_wp2
      go_ret
      exact ⟨rfl, hb1⟩
  · go_enter Tryd.func9, Tryd.ntmps9
    go_wp2_with fail
    refine (fshown_any _ HT.out).mono ?_
    rintro e w1 ⟨rfl, hb1⟩
    go_wp2
    go_ret
    exact ⟨rfl, hb1⟩
end Go.Proofs.YtdpkpcoadojkhaaDoor
