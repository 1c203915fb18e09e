/-
  The walk of LabelMatches.
-/
import Derived.Test.YtlhajjplkblllaaFewW
import Derived.Test.YtlhajjplkblllaaLabKinds
import Derived.Test.YtlhajjplkblllaaLabShownW
namespace Go.Proofs.Ytlhajjplkblllaa
open Go.RowKit
open Lab (Pr)

theorem mat_and {ms : List Mt} {l : List Pr} {k : Nat} (hk : k < ms.length) : mat (ms.take (k + 1)) l = (mat (ms.take k) l && holds1 l ms[k]) := by
  unfold mat
  rw [List.take_succ_eq_append_getElem hk, List.all_append]
  simp

set_option maxRecDepth 100000 in
set_option maxHeartbeats 3200000 in
theorem walkLabelMatches (a0 : Option Addr) (cap0 : Nat) (l : List Pr) (n : ByteArray) (a2 : Option Addr) (cap2 : Nat) (ms : List Mt) (w : World) (hp : PairsAt w a0 l) (hl : l.length ≤ 9223372036854775807) (_ : l.length ≤ cap0) (_ : ∀ p ∈ l, p.1.size ≤ 9223372036854775807 ∧ p.2.size ≤ 9223372036854775807)
    (_ : n.size ≤ maxLen) (hm : MatsAt w a2 ms) (hml : ms.length ≤ 9223372036854775807) (_ : ms.length ≤ cap2 ∧ (a2 = none → cap2 = 0)) (_ : ∀ p ∈ ms, p.1.size ≤ 9223372036854775807 ∧ p.2.1.size ≤ 9223372036854775807) :
    Calls Try.prog 4 #[.slice a0 l.length cap0, .string n, .slice a2 ms.length cap2] w fun e w' => e = .returned (.bool true) ∧ Below w.heap.size w w' := by
  have HF := hide (fun wx (hb : Below w.heap.size w wx) => few_any a0 cap0 l wx (hp.below hb) hl)
  have HV := hide (fun wx nn (hb : Below w.heap.size w wx) => value_any a0 cap0 l nn wx (hp.below hb) hl)
  have HRV := hide (fun wx nn (hb : Below w.heap.size w wx) => refValue_any a0 cap0 l nn wx (hp.below hb) hl)
  have HMA := hide (fun wx (hb : Below w.heap.size w wx) => match_any a2 cap2 ms a0 cap0 l wx (hm.below hb) (hp.below hb) hml hl)
  have HM := hide hm
  clear hp hm
  by_cases h20 : 20 < ms.length
  · go_enter Try.func4, Try.ntmps4
    go_wp2_with fail
    refine (lshown_any _).mono ?_
    rintro e w1 ⟨rfl, hb1⟩
    go_wp2_with fail
    refine (HF.out _ hb1).mono ?_
    rintro e w2 ⟨b, rfl, _, hb2⟩
    have hbz := bl hb1 hb2
    clear hb1 hb2
    cases b
    · go_wp2
      go_ret
      exact ⟨rfl, hbz⟩
    · go_wp2
      go_ret
      exact ⟨rfl, hbz⟩
  · go_enter Try.func4, Try.ntmps4
    go_wp2_with fail
    refine (lshown_any _).mono ?_
    rintro e w1 ⟨rfl, hb1⟩
    go_wp2_with fail
    refine (HF.out _ hb1).mono ?_
    rintro e w2 ⟨b, rfl, _, hb2⟩
    have hbz := bl hb1 hb2
    clear hb1 hb2
    cases b
    · go_wp2
      go_ret
      exact ⟨rfl, hbz⟩
    · go_wp2
      go_loopw [9, 10] (fun t i wr => ∃ k : Nat, k ≤ ms.length ∧ i = .int .i64 (k : Int) ∧ t = .bool (mat (ms.take k) l) ∧ Below w.heap.size w wr)
        (fun _ i _ => ms.length - (intOf i).toNat)
      case atStart => exact ⟨0, Nat.zero_le _, rfl, rfl, hbz⟩
      case round =>
        obtain ⟨k, hk, rfl, rfl, hnx⟩ := hrel
        by_cases hlt : k < ms.length
        · obtain ⟨b, off, zn, zv, q, rfl, hbl, hz, hc1, hc2, hc3⟩ := (unhide HM).get hnx hlt
          obtain ⟨s, hs⟩ : ∃ s, ((Lab.value l zn).toList == zv.toList) = s := ⟨_, rfl⟩
          have HH : Hid (holds1 l ms[k] = (s != q)) := by rw [hz]; unfold holds1; rw [hs]; exact rfl
          have HN := hide (mat_and (l := l) hlt)
          have hki : (k : Int) < (ms.length : Int) := by omega
          clear hz
          generalize mat (ms.take k) l = t at *
          go_wp2_with fail
          have inh : Nonempty (Ext wr) := Ext.some wr
          have x1 : ∀ x : Ext wr, x.w.cell? _ = _ := fun x => x.cell hc1
          have x2 : ∀ x : Ext wr, x.w.cell? _ = _ := fun x => x.cell hc2
          refine wp_region_calm (by kernel_rfl) (by kernel_rfl) ?_
          repeat (go_big_quiet_step ((go_at_call 23; exact calm_of (HRV.out _ _ (bl hnx (Ext.below _))))))
          refine wpQuiet_nil ?_
          intro _ hw'
          obtain ⟨xq, rfl⟩ := hw'
          have hbx : Below w.heap.size w xq.w := bl hnx xq.below
          have e4 := xq.cell hc3
          clear x1 x2 hc1 hc2 hc3 inh
          generalize xq.w = wc at *
          cases t
          · go_wp2
            go_roundw
            case rel => exact ⟨k + 1, by omega, by go_num, by rw [HN.out]; rfl, hbx⟩
            case measure => simp [intOf]; omega
          · go_wp2
            go_roundw
            case rel => exact ⟨k + 1, by omega, by go_num, by rw [HN.out, HH.out]; rfl, hbx⟩
            case measure => simp [intOf]; omega
        · have hful : ms.take k = ms := List.take_of_length_le (by omega)
          rw [hful]
          clear hful
          go_wp2_with fail
          refine (HV.out _ _ hnx).mono ?_
          rintro e w3 ⟨rfl, hb3⟩
          go_wp2_with fail
          refine (HRV.out _ _ (bl hnx hb3)).mono ?_
          rintro e w4 ⟨rfl, hb4⟩
          go_wp2_with fail
          refine (HMA.out _ (bl hnx (bl hb3 hb4))).mono ?_
          rintro e w5 ⟨rfl, hb5⟩
          have hbe := bl hnx (bl hb3 (bl hb4 hb5))
          clear hnx hb3 hb4 hb5
          go_wp2
          go_ret
          exact ⟨rfl, hbe⟩

end Go.Proofs.Ytlhajjplkblllaa
