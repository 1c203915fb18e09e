/-
  The statements' own: an entry of numbers, whether one is not too great, chapter 5's example.
-/
import Derived.Test.YtbjcphefaciihaaEntTakeW
namespace Go.Proofs.Ytbjcphefaciihaa
open Go.RowKit
open Lab (Pr)
open Smp (Sm)

theorem entSm_of {l : List Pr} {s : List Sm} (h : Lab.Right l) (hl : s.length ≤ 9223372036854775807) (ho : ∀ x ∈ s, Smp.Ok x) : EntSm l s :=
  ⟨⟨by have := h.1; omega, fun p hp => by have := h.2.1 p hp; have := Lab.isName_true this.1; omega⟩, hl, ho⟩
def exP : List Pr := [(⟨#[97]⟩, ⟨#[49]⟩)]
def exS : List Sm := [(5, 2)]
theorem exP_right : Lab.Right exP := by
  refine ⟨by decide, fun p hp => ?_, List.pairwise_singleton _ _⟩
  simp [exP] at hp
  subst hp
  exact ⟨ex_name1, by decide⟩
theorem exS_ok : ∀ x ∈ exS, Smp.Ok x := by
  intro x hx
  simp [exS] at hx
  subst hx
  exact ⟨by decide, by decide, by decide, by decide⟩
theorem exS_check : Smp.check exS = 0 := by decide
theorem ex_small : EntSm exP exS := ⟨⟨by decide, fun p hp => by have := exP_right.2.1 p hp; have := Lab.isName_true this.1; omega⟩, by decide, exS_ok⟩
theorem ex_ebytes : Ent.put exP exS = ⟨#[1, 1, 97, 1, 49, 1, 5, 4]⟩ := by
  have hc : Lab.canon exP = exP := Lab.canon_of_rise (List.pairwise_singleton _ _) exP_right
  rw [Ent.put_ok exP_right exS_check, hc]
  have h1 : Num.put 1 = [1] := Num.put_lt (by decide)
  have h5 : Num.put 5 = [5] := Num.put_lt (by decide)
  have h4 : Num.put 4 = [4] := Num.put_lt (by decide)
  have hz : Num.zig 2 = 4 := by decide
  simp only [Lab.putL, exP, Lab.pb, Lab.txt, List.length_cons, List.length_nil, Nat.zero_add, exS, Smp.putS, Smp.body]
  rw [show ByteArray.size ⟨#[97]⟩ = 1 from rfl, show ByteArray.size ⟨#[49]⟩ = 1 from rfl, h1, hz, h4, show (5 : Int).toNat = 5 from rfl, h5]
  rfl
theorem ex_echeck : Ent.check exP exS = 0 := Ent.check_zero.2 ⟨exP_right, exS_check⟩
theorem ex_eput (w : World) (b c : Nat) (h0 : w.cell? ⟨b, 0, none⟩ = some (.string ⟨#[97]⟩)) (h1 : w.cell? ⟨b, 1, none⟩ = some (.string ⟨#[49]⟩)) (h2 : w.cell? ⟨c, 0, none⟩ = some (.int .u64 5)) (h3 : w.cell? ⟨c, 1, none⟩ = some (.int .i64 2)) :
    Calls Try.prog 12 #[.agg #[.slice (some ⟨b, 0, none⟩) 1 1, .slice (some ⟨c, 0, none⟩) 1 1]] w fun e w' => e = .returned (.tuple #[.string ⟨#[1, 1, 97, 1, 49, 1, 5, 4]⟩, .int .i64 0]) ∧ Below w.heap.size w w' := by
  have hp : PairsAt w (some ⟨b, 0, none⟩) exP := fun i hi => ⟨b, 0, rfl, World.block_lt_of_cell? w ⟨b, 0, none⟩ h0, fun j hj => by
    match j, hj with
    | 0, _ => exact ⟨h0, h1⟩⟩
  have hq : SmpsAt w (some ⟨c, 0, none⟩) exS := fun i hi => ⟨c, 0, rfl, World.block_lt_of_cell? w ⟨c, 0, none⟩ h2, fun j hj => by
    match j, hj with
    | 0, _ => exact ⟨h2, h3⟩⟩
  have := eput_any (some ⟨b, 0, none⟩) 1 exP (some ⟨c, 0, none⟩) 1 exS w ⟨hp, by decide, hq, by decide⟩ ex_small
  rwa [ex_ebytes, ex_echeck] at this
theorem etake_nil : Ent.take [] = none := by
  unfold Ent.take
  rw [show Lab.takeL [] = none from by unfold Lab.takeL; rw [show Num.take [] = none from by decide +kernel]]
theorem ex_etake (w : World) : Calls Try.prog 14 #[.string ⟨#[]⟩] w fun e w' => (∃ a ca b cb, e = .returned (.tuple #[.agg #[.slice a 0 ca, .slice b 0 cb], .int .i64 2])) ∧ Below w.heap.size w w' := by
  refine (etake_any ⟨#[]⟩ w (by decide)).mono fun e w' ⟨h, hb⟩ => ⟨?_, hb⟩
  unfold TookE eRes at h
  rw [show (⟨#[]⟩ : ByteArray).data.toList = [] from rfl, etake_nil] at h
  obtain ⟨a, ca, b, cb, rfl, _⟩ := h
  exact ⟨a, ca, b, cb, rfl⟩

set_option maxRecDepth 100000 in
set_option maxHeartbeats 800000 in
theorem eshown_any (w : World) : Calls Try.prog 10 #[] w fun e w' => e = .returned (.bool true) ∧ Below w.heap.size w w' := by
  go_enter Try.func10, Try.ntmps10
  go_wp2_with fail
  refine (ex_eput _ _ _ (cell_alloc (by simp) _) (cell_alloc (by simp) _) (by simp) (by simp)).mono ?_
  rintro e w1 ⟨rfl, hb1⟩
  have hb2 := bel_al (bel_al hb1)
  clear hb1
  go_wp2_with fail
  refine (ex_etake _).mono ?_
  rintro e w2 ⟨⟨a, ca, b, cb, rfl⟩, hb3⟩
  have hb4 := bl hb2 hb3
  clear hb3
  go_wp2
  go_ret
  exact ⟨rfl, hb4.alloc (Nat.le_trans hb4.size (Nat.le_refl _)) _⟩

def FewE (m n : Nat) (e : Ending) : Prop := ∃ b, e = .returned (.bool b) ∧ (b = true → m ≤ 20 ∧ n ≤ 40)
set_option maxRecDepth 100000 in
set_option maxHeartbeats 1600000 in
theorem efew_any (a : Option Addr) (ca : Nat) (l : List Pr) (b : Option Addr) (cb n : Nat) (w : World) (hp : PairsAt w a l) (hl : l.length ≤ 9223372036854775807) (hn : n ≤ 9223372036854775807) :
    Calls Try.prog 11 #[.agg #[.slice a l.length ca, .slice b n cb]] w fun e w' => FewE l.length n e ∧ Below w.heap.size w w' := by
  have HP := hide hp
  clear hp
  go_enter Try.func11, Try.ntmps11
  go_wp2
  obtain ⟨wa, hwa⟩ : ∃ wa, wa = w.alloc (Obj.cells #[.slice a l.length ca, .slice b n cb] 25) := ⟨_, rfl⟩
  rw [← hwa]
  go_loopw [3, 4] (fun n i wr => ∃ (k : Nat) (x : Int), k ≤ l.length ∧ i = .int .i64 (k : Int) ∧ n = .int .i64 x ∧ Below wa.heap.size wa wr)
    (fun _ i _ => l.length - (intOf i).toNat)
  case atStart => exact ⟨0, 0, Nat.zero_le _, rfl, rfl, Below.refl _ _⟩
  case round =>
    obtain ⟨k, x, hk, rfl, rfl, hnx⟩ := hrel
    have hnx2 := hnx
    rw [hwa] at hnx2
    obtain ⟨c0, c1, _, _⟩ := two_later hnx2
    have hbz := bel_al hnx2
    clear hnx2
    by_cases hlt : k < l.length
    · obtain ⟨b, off, zn, zv, rfl, hbl, hz, hc1, hc2⟩ := (unhide HP).get hbz hlt
      clear hz
      have hki : (k : Int) < (l.length : Int) := by omega
      go_wp2_with fail
      go_quiet (fail)
      go_wp2
      go_roundw
      case rel => exact ⟨k + 1, _, by omega, by go_num, rfl, ⟨hnx.os, hnx.tape, hnx.output, hnx.size, hnx.block⟩⟩
      case measure => simp [intOf]; omega
    · by_cases h20 : l.length ≤ 20
      · by_cases hx : x ≤ 2000
        · go_wp2
          go_ret
          exact ⟨⟨_, rfl, fun h => ⟨h20, by have := of_decide_eq_true h; omega⟩⟩, hbz⟩
        · go_wp2
          go_ret
          exact ⟨⟨false, rfl, fun h => by cases h⟩, hbz⟩
      · go_wp2
        go_ret
        exact ⟨⟨false, rfl, fun h => by cases h⟩, hbz⟩

set_option maxRecDepth 100000 in
set_option maxHeartbeats 1600000 in
theorem entryOf_any (a : Option Addr) (ca : Nat) (zs : List Int) (t : Int) (b : Option Addr) (cb : Nat) (vs : List Int) (w : World) (hp : NumsAt .i64 w a zs) (hzb : ∀ z ∈ zs, -9223372036854775808 ≤ z ∧ z ≤ 9223372036854775807) (ht : 0 ≤ t ∧ t < 18446744073709551616) (hq : NumsAt .i64 w b vs) (hvl : vs.length ≤ maxLen) (hvb : ∀ z ∈ vs, -9223372036854775808 ≤ z ∧ z ≤ 9223372036854775807) :
    Calls Try.prog 25 #[.slice a zs.length ca, .int .u64 t, .slice b vs.length cb] w fun e w' => ∃ a' ca' b' cb', e = .returned (.agg #[.slice a' (labs zs).length ca', .slice b' (smps t vs).length cb']) ∧ EntIn w' a' ca' (labs zs) b' cb' (smps t vs) ∧ Below w.heap.size w w' := by
  have HL := hide (fun wx (hb : Below w.heap.size w wx) => labelsOf_any a ca zs wx (hp.below hb) hzb)
  have HS := hide (fun wx (hb : Below w.heap.size w wx) => samplesOf_any t b cb vs wx ht (hq.below hb) hvl hvb)
  clear hp hq hzb hvb
  go_enter Try.func25, Try.ntmps25
  go_wp2_with fail
  refine (HL.out _ (bel_alloc w _)).mono ?_
  rintro e w1 ⟨v, rfl, ho, hb1⟩
  obtain ⟨p1, p2, p3, p4⟩ := two_later hb1
  have hz := hb1.size
  simp only [World.size_alloc] at ho hz
  obtain ⟨a1, ca1, rfl, hca, _, _⟩ := ho.view
  have HO := hide ho
  have hb2 := bel_al hb1
  clear hb1 ho
  go_wp2_with fail
  refine (HS.out _ hb2).mono ?_
  rintro e w2 ⟨u, rfl, hu, hb3⟩
  obtain ⟨p1, p2, p3, p4⟩ := cells_keep (by omega) p1 p2 p3 p4 hb3
  obtain ⟨b1, cb1, rfl, hcb, _, _⟩ := hu.view
  have hb4 := bl hb2 hb3
  have HO2 := hide (HO.out.below hb3)
  have HU := hide (hu.mono hz)
  clear hb3 hu HO
  go_wp2
  have r1 := (set_two p1 p2 (.slice a1 (labs zs).length ca1) (.slice b1 (smps t vs).length cb1)).1
  have r2 := (set_two p1 p2 (.slice a1 (labs zs).length ca1) (.slice b1 (smps t vs).length cb1)).2
  refine bodyPost_ret (v := .agg #[.slice a1 (labs zs).length ca1, .slice b1 (smps t vs).length cb1]) (by simp [results, Try.results25, go_sem, r1, r2]) rfl ?_
  refine ⟨a1, ca1, b1, cb1, rfl, ?_, (hb4.setCell (Nat.le_refl _) _).setCell (Nat.le_refl _) _⟩
  obtain ⟨a', ca', e1, _, hpa, _⟩ := ((HO2.out.setBelow (p := ⟨w.heap.size, 0, none⟩) (Nat.lt_succ_self _) (.slice a1 (labs zs).length ca1)).setBelow (p := ⟨w.heap.size, 1, none⟩) (Nat.lt_succ_self _) (.slice b1 (smps t vs).length cb1)).view
  obtain ⟨b', cb', e2, _, hpb, _⟩ := ((HU.out.setBelow (p := ⟨w.heap.size, 0, none⟩) (Nat.lt_succ_self _) (.slice a1 (labs zs).length ca1)).setBelow (p := ⟨w.heap.size, 1, none⟩) (Nat.lt_succ_self _) (.slice b1 (smps t vs).length cb1)).view
  simp only [Value.slice.injEq] at e1 e2
  obtain ⟨rfl, _, rfl⟩ := e1
  obtain ⟨rfl, _, rfl⟩ := e2
  exact ⟨hpa, hca, hpb, hcb⟩

end Go.Proofs.Ytbjcphefaciihaa
