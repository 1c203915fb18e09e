/-
  First.
-/
import Derived.Test.YtdpkpcoadojkhaaDoorFrmPutW
import Derived.Test.YtdpkpcoadojkhaaDoorTakeCW
import Derived.BigQuiet
import Derived.Deep.DeepCutAuto
namespace Go.Proofs.YtdpkpcoadojkhaaDoor
open Go.RowKit
open Frm (Fr)

theorem extract_mid (t : List UInt8) (i j : Nat) : (Num.bs t).extract i j = Num.bs ((t.drop i).take (j - i)) := by
  apply ByteArray.ext
  apply Array.ext'
  simp [Num.bs]

/-- No frame: as a struct of no value. -/
def noneV : Value := .tuple #[.agg #[.int .u64 0, .string ⟨#[]⟩, .int .i64 0], .int .i64 2]
def someV (f : Fr) : Value := .tuple #[.agg #[fq f, fb f, fz f], .int .i64 0]
def firstV (l : List UInt8) : Value := match Frm.first l with | none => noneV | some f => someV f

theorem first_no1 {l : List UInt8} (h : Num.take l = none) : Frm.first l = none := by simp only [Frm.first, h]
theorem first_no2 {l r : List UInt8} {n : Nat} (h : Num.take l = some (n, r)) (hn : 2000 < n) : Frm.first l = none := by simp only [Frm.first, h, if_pos hn]
theorem first_no3 {l r : List UInt8} {n : Nat} (h : Num.take l = some (n, r)) (h2 : Num.take r = none) : Frm.first l = none := by
  simp only [Frm.first, h, h2]; split <;> rfl
theorem first_on {l r t : List UInt8} {n q : Nat} (h : Num.take l = some (n, r)) (hn : ¬ 2000 < n) (h2 : Num.take r = some (q, t)) : Frm.first l = Frm.behind n q t := by simp only [Frm.first, h, h2, if_neg hn]
theorem take_eq {l r : List UInt8} {n : Nat} (h : Num.take l = some (n, r)) : l.length = (Num.put n).length + r.length := by
  conv => lhs; rw [(Num.of_take h).1]
  rw [List.length_append]

set_option maxRecDepth 100000 in
set_option maxHeartbeats 1600000 in
theorem ffirst_any (l : List UInt8) (w : World) (hl : l.length ≤ maxLen) (hT : Tab w) :
    Calls Tryd.prog 13 #[.string (Num.bs l)] w fun e w' => e = .returned (firstV l) ∧ Below w.heap.size w w' := by
  unfold firstV
  have hls : (Num.bs l).size = l.length := Num.bs_size _
  cases h1 : Num.take l with
  | none =>
    rw [first_no1 h1]
    unfold noneV
    have HA := hide (fun wx => take_none (Num.bs l) wx (by omega) h1)
    clear h1 hT
    go_enter Tryd.func13, Tryd.ntmps13
    go_wp2_with fail
    refine (HA.out _).mono ?_
    rintro e w1 ⟨rfl, hb1⟩
    obtain ⟨p1, p2, p3, p4, p5, p6⟩ := three_later hb1
    have hbz := fbel_al hb1
    clear hb1
    go_wp2
    obtain ⟨r1, r2, r3⟩ := set_three p1 p2 p3 (.int .u64 0) (.string ⟨#[]⟩) (.int .i64 0)
    refine bodyPost_ret (v := .tuple #[.agg #[.int .u64 0, .string ⟨#[]⟩, .int .i64 0], .int .i64 2]) (by simp [results, Tryd.results13, go_sem, r1, r2, r3]) rfl ?_
    exact ⟨rfl, ((hbz.setCell (Nat.le_refl _) _).setCell (Nat.le_refl _) _).setCell (Nat.le_refl _) _⟩
  | some p =>
    obtain ⟨n, r⟩ := p
    have hrl := take_len h1
    have hnl := Num.take_lt h1
    have hrs : (Num.bs r).size = r.length := Num.bs_size _
    have HA := hide (fun wx => take_some (Num.bs l) wx (by omega) h1)
    by_cases hn : 2000 < n
    · rw [first_no2 h1 hn]
      unfold noneV
      clear h1 hT
      go_enter Tryd.func13, Tryd.ntmps13
      go_wp2_with fail
      refine (HA.out _).mono ?_
      rintro e w1 ⟨rfl, hb1⟩
      obtain ⟨p1, p2, p3, p4, p5, p6⟩ := three_later hb1
      have hbz := fbel_al hb1
      clear hb1
      go_wp2
      obtain ⟨r1, r2, r3⟩ := set_three p1 p2 p3 (.int .u64 0) (.string ⟨#[]⟩) (.int .i64 0)
      refine bodyPost_ret (v := .tuple #[.agg #[.int .u64 0, .string ⟨#[]⟩, .int .i64 0], .int .i64 2]) (by simp [results, Tryd.results13, go_sem, r1, r2, r3]) rfl ?_
      exact ⟨rfl, ((hbz.setCell (Nat.le_refl _) _).setCell (Nat.le_refl _) _).setCell (Nat.le_refl _) _⟩
    · cases h2 : Num.take r with
      | none =>
        rw [first_no3 h1 h2]
        unfold noneV
        have HB := hide (fun wx => take_none (Num.bs r) wx (by omega) h2)
        clear h1 h2 hT
        go_enter Tryd.func13, Tryd.ntmps13
        go_wp2_with fail
        refine (HA.out _).mono ?_
        rintro e w1 ⟨rfl, hb1⟩
        go_wp2_with fail
        refine (HB.out _).mono ?_
        rintro e w2 ⟨rfl, hb2⟩
        have hb3 := bl hb1 hb2
        clear hb1 hb2
        obtain ⟨p1, p2, p3, p4, p5, p6⟩ := three_later hb3
        have hbz := fbel_al hb3
        clear hb3
        go_wp2
        obtain ⟨r1, r2, r3⟩ := set_three p1 p2 p3 (.int .u64 0) (.string ⟨#[]⟩) (.int .i64 0)
        refine bodyPost_ret (v := .tuple #[.agg #[.int .u64 0, .string ⟨#[]⟩, .int .i64 0], .int .i64 2]) (by simp [results, Tryd.results13, go_sem, r1, r2, r3]) rfl ?_
        exact ⟨rfl, ((hbz.setCell (Nat.le_refl _) _).setCell (Nat.le_refl _) _).setCell (Nat.le_refl _) _⟩
      | some p =>
        obtain ⟨q, t⟩ := p
        have htl := take_len h2
        have hql := Num.take_lt h2
        have hts : (Num.bs t).size = t.length := Num.bs_size _
        have HB := hide (fun wx => take_some (Num.bs r) wx (by omega) h2)
        have hz1 := take_eq h1
        have hz2 := take_eq h2
        rw [first_on h1 hn h2]
        unfold maxLen at hl
        by_cases hs : t.length < n + 4
        · rw [Frm.behind_no hs]
          unfold noneV
          clear h1 h2 hT hz1 hz2
          go_enter Tryd.func13, Tryd.ntmps13
          go_wp2_with fail
          refine (HA.out _).mono ?_
          rintro e w1 ⟨rfl, hb1⟩
          go_wp2_with fail
          refine (HB.out _).mono ?_
          rintro e w2 ⟨rfl, hb2⟩
          have hb3 := bl hb1 hb2
          clear hb1 hb2
          obtain ⟨p1, p2, p3, p4, p5, p6⟩ := three_later hb3
          have hbz := fbel_al hb3
          clear hb3
          go_wp2
          obtain ⟨r1, r2, r3⟩ := set_three p1 p2 p3 (.int .u64 0) (.string ⟨#[]⟩) (.int .i64 0)
          refine bodyPost_ret (v := .tuple #[.agg #[.int .u64 0, .string ⟨#[]⟩, .int .i64 0], .int .i64 2]) (by simp [results, Tryd.results13, go_sem, r1, r2, r3]) rfl ?_
          exact ⟨rfl, ((hbz.setCell (Nat.le_refl _) _).setCell (Nat.le_refl _) _).setCell (Nat.le_refl _) _⟩
        · have hbl : ((t.drop 4).take n).length = n := by simp only [List.length_take, List.length_drop]; omega
          obtain ⟨b, hb⟩ : ∃ b, (t.drop 4).take n = b := ⟨_, rfl⟩
          have hbl2 : b.length = n := by rw [← hb]; exact hbl
          have he1 : (Num.bs t).extract 0 4 = Num.bs (t.take 4) := by rw [extract_mid]; rfl
          have he2 : (Num.bs t).extract 4 (4 + n) = Num.bs b := by rw [extract_mid, Nat.add_sub_cancel_left, hb]
          have HC := hide (fun wx (hbx : Below w.heap.size w wx) => putSum_any q b wx hql (by omega) (hT.below hbx))
          by_cases hc : t.take 4 = Frm.sum4 q b
          · have hbe : Frm.behind n q t = some (q, b) := by unfold Frm.behind; rw [if_neg hs, hb, if_pos hc]
            rw [hbe]
            have hq : ((Num.bs (t.take 4)).toList == (Num.bs (Frm.sum4 q b)).toList) = true := by rw [hc]; simp
            have HS : Hid ((l.length : Int) - (t.length : Int) + (4 + (n : Int)) = ((Frm.size (q, b) : Nat) : Int)) := hide (by rw [Frm.size_eq]; simp only [hbl2]; omega)
            unfold someV
            clear h1 h2 hT hbe hc hb hbl hz1 hz2
            go_enter Tryd.func13, Tryd.ntmps13
            go_wp2_with fail
            refine (HA.out _).mono ?_
            rintro e w1 ⟨rfl, hb1⟩
            go_wp2_with fail
            refine (HB.out _).mono ?_
            rintro e w2 ⟨rfl, hb2⟩
            have hb3 := bl hb1 hb2
            clear hb1 hb2
            have k1 : (4 : Int) ≤ (t.length : Int) := by omega
            have k2 : (4 : Int) + (n : Int) ≤ (t.length : Int) := by omega
            have k3 : 4 + n ≤ t.length := by omega
            have k4 : 4 ≤ t.length := by omega
            have k5 : ((4 : Int) + (n : Int)).toNat = 4 + n := by omega
            go_wp2_with fail
            go_quiet (fail)
            go_wp2_with fail
            refine (HC.out _ (fbel_al (fbelow_drewN hb3 _))).mono ?_
            rintro e w3 ⟨rfl, hb4⟩
            have hb5 := bl (fbelow_drewN hb3 _) hb4
            clear hb3 hb4
            obtain ⟨p1, p2, p3, p4, p5, p6⟩ := three_later hb5
            have hbz := fbel_al hb5
            clear hb5
            go_wp2
            rw [HS.out]
            obtain ⟨r1, r2, r3⟩ := set_three p1 p2 p3 (.int .u64 (q : Int)) (.string (Num.bs b)) (.int .i64 ((Frm.size (q, b) : Nat) : Int))
            refine bodyPost_ret (v := .tuple #[.agg #[.int .u64 (q : Int), .string (Num.bs b), .int .i64 ((Frm.size (q, b) : Nat) : Int)], .int .i64 0]) (by simp [results, Tryd.results13, go_sem, r1, r2, r3]) rfl ?_
            exact ⟨rfl, ((hbz.setCell (Nat.le_refl _) _).setCell (Nat.le_refl _) _).setCell (Nat.le_refl _) _⟩
          · rw [Frm.behind_bad (by rw [hb]; exact hc)]
            have hq : ((Num.bs (t.take 4)).toList == (Num.bs (Frm.sum4 q b)).toList) = false := by
              rw [ByteArray.toList_eq, ByteArray.toList_eq, Num.bs_toList, Num.bs_toList]
              exact beq_eq_false_iff_ne.2 hc
            unfold noneV
            clear h1 h2 hT hc hb hbl hz1 hz2
            go_enter Tryd.func13, Tryd.ntmps13
            go_wp2_with fail
            refine (HA.out _).mono ?_
            rintro e w1 ⟨rfl, hb1⟩
            go_wp2_with fail
            refine (HB.out _).mono ?_
            rintro e w2 ⟨rfl, hb2⟩
            have hb3 := bl hb1 hb2
            clear hb1 hb2
            have k1 : (4 : Int) ≤ (t.length : Int) := by omega
            have k2 : (4 : Int) + (n : Int) ≤ (t.length : Int) := by omega
            have k3 : 4 + n ≤ t.length := by omega
            have k4 : 4 ≤ t.length := by omega
            have k5 : ((4 : Int) + (n : Int)).toNat = 4 + n := by omega
            go_wp2_with fail
            go_quiet (fail)
            go_wp2_with fail
            refine (HC.out _ (fbel_al (fbelow_drewN hb3 _))).mono ?_
            rintro e w3 ⟨rfl, hb4⟩
            have hb5 := bl (fbelow_drewN hb3 _) hb4
            clear hb3 hb4
            obtain ⟨p1, p2, p3, p4, p5, p6⟩ := three_later hb5
            have hbz := fbel_al hb5
            clear hb5
            go_wp2
            obtain ⟨r1, r2, r3⟩ := set_three p1 p2 p3 (.int .u64 0) (.string ⟨#[]⟩) (.int .i64 0)
            refine bodyPost_ret (v := .tuple #[.agg #[.int .u64 0, .string ⟨#[]⟩, .int .i64 0], .int .i64 2]) (by simp [results, Tryd.results13, go_sem, r1, r2, r3]) rfl ?_
            exact ⟨rfl, ((hbz.setCell (Nat.le_refl _) _).setCell (Nat.le_refl _) _).setCell (Nat.le_refl _) _⟩

end Go.Proofs.YtdpkpcoadojkhaaDoor
