/-
  The walk of SampleBack.
-/
import Derived.Test.YtocelglgafmfnaaSmpOfW
import Derived.Test.YtocelglgafmfnaaSmpFormW
namespace Go.Proofs.Ytocelglgafmfnaa
open Go.RowKit
open Smp (Sm)

/-- The values are other ones. -/
def revalue : List Sm → List Int → List Sm
  | s :: r, v :: vs => (s.1, v) :: revalue r vs
  | l, _ => l
theorem revalue_nil (l : List Sm) : revalue l [] = l := by cases l <;> rfl
theorem revalue_len : ∀ (l : List Sm) (vs : List Int), (revalue l vs).length = l.length
  | [], _ => by simp [revalue]
  | s :: r, [] => by simp [revalue]
  | s :: r, v :: vs => by simp [revalue, revalue_len r vs]
theorem revalue_rise : ∀ (l : List Sm) (vs : List Int), Smp.riseB (revalue l vs) = Smp.riseB l
  | [], _ => by simp [revalue]
  | s :: r, [] => by simp [revalue]
  | [s], v :: vs => by simp [revalue, Smp.riseB]
  | s :: t :: r, v :: vs => by
    have ih := revalue_rise (t :: r) vs
    cases vs with
    | nil => simp [revalue, Smp.riseB]
    | cons v' vs =>
      simp only [revalue, Smp.riseB] at ih ⊢
      rw [ih]
theorem revalue_ok : ∀ (l : List Sm) (vs : List Int), (∀ x ∈ l, Smp.Ok x) → (∀ v ∈ vs, -9223372036854775808 ≤ v ∧ v ≤ 9223372036854775807) → ∀ x ∈ revalue l vs, Smp.Ok x
  | [], _, _, _, x, h => by simp [revalue] at h
  | s :: r, [], ho, _, x, h => by rw [revalue_nil] at h; exact ho x h
  | s :: r, v :: vs, ho, hv, x, h => by
    rcases List.mem_cons.1 h with rfl | h
    · have h1 := ho s (List.mem_cons_self ..)
      have h2 := hv v (List.mem_cons_self ..)
      exact ⟨h1.1, h1.2.1, h2.1, h2.2⟩
    · exact revalue_ok r vs (fun y hy => ho y (List.mem_cons_of_mem _ hy)) (fun y hy => hv y (List.mem_cons_of_mem _ hy)) x h
theorem revalue_check (l : List Sm) (vs : List Int) : Smp.check (revalue l vs) = Smp.check l := by
  unfold Smp.check; rw [revalue_len, revalue_rise]
/-- One more. -/
theorem revalue_next : ∀ (l : List Sm) (vs : List Int) (k : Nat) (h : k < l.length) (hv : k < vs.length), revalue l (vs.take (k + 1)) = (revalue l (vs.take k)).set k (((revalue l (vs.take k))[k]'(by rw [revalue_len]; exact h)).1, vs[k])
  | s :: r, v :: vs, 0, _, _ => by simp [revalue, revalue_nil]
  | s :: r, v :: vs, k + 1, h, hv => by
    have := revalue_next r vs k (by simpa using h) (by simpa using hv)
    simp only [List.take_succ_cons, revalue, List.set_cons_succ, List.getElem_cons_succ]
    rw [this]
theorem revalue_all {l : List Sm} {vs : List Int} {k : Nat} (h : l.length ≤ k ∨ vs.length ≤ k) : revalue l (vs.take k) = revalue l vs := by
  rcases h with h | h
  · induction l generalizing vs k with
    | nil => simp [revalue]
    | cons s r ih =>
      cases k with
      | zero => simp at h
      | succ k =>
        cases vs with
        | nil => simp
        | cons v vs => simp only [List.take_succ_cons, revalue]; rw [ih (by simpa using h)]
  · rw [List.take_of_length_le h]

theorem takeRes_put {l : List Sm} (h : Smp.check l = 0) (ho : ∀ x ∈ l, Smp.Ok x) (rest : List UInt8) : takeRes (Smp.putS l ++ rest) = (l, rest, 0) := by
  unfold takeRes; rw [Smp.take_putS h ho]
theorem putRes_ok {l : List Sm} (h : Smp.check l = 0) : putRes l = Num.bs (Smp.putS l) := by unfold putRes; rw [if_pos h]
/-- What was put is taken. -/
theorem take_back {l : List Sm} (h : Smp.check l = 0) (ho : ∀ x ∈ l, Smp.Ok x) (rest : ByteArray) (w : World) (hr : rest.size ≤ 1000) :
    Calls Try.prog 13 #[.string (Num.bs (Smp.putS l) ++ rest)] w fun e w' => ∃ b cb, e = .returned (.tuple #[.slice b l.length cb, .string rest, .int .i64 0]) ∧ SmpsAt w' b l ∧ Below w.heap.size w w' := by
  have hl := Smp.putS_len h ho
  have e : (Num.bs (Smp.putS l) ++ rest).data.toList = Smp.putS l ++ rest.data.toList := by simp [Num.bs]
  refine (takeS_any _ w (by rw [ByteArray.size_append, Num.bs_size]; unfold maxLen; omega)).mono fun e' w' ⟨hT, hb⟩ => ?_
  rw [e] at hT
  obtain ⟨b, cb, he, hs⟩ := took_form hT
  rw [takeRes_put h ho] at he hs
  refine ⟨b, cb, ?_, hs, hb⟩
  rw [he, Num.bs_of]

set_option maxRecDepth 100000 in
set_option maxHeartbeats 3200000 in
theorem walkSampleBack (t : Int) (a1 : Option Addr) (len1 cap1 : Nat) (z1 : List Int) (a2 : Option Addr) (len2 cap2 : Nat) (z2 : List Int) (s : ByteArray) (w : World) (ht : 0 ≤ t ∧ t ≤ 18446744073709551615) (hr1 : IsRow .i64 w a1 len1 cap1 z1) (hr2 : IsRow .i64 w a2 len2 cap2 z2) (hsm : s.size ≤ maxLen) :
    Calls Try.prog 4 #[.int .u64 t, .slice a1 len1 cap1, .slice a2 len2 cap2, .string s] w fun e w' => e = .returned (.bool true) ∧ Below w.heap.size w w' := by
  obtain ⟨zs, rfl, hzl, hzp, hzw⟩ := isRow_nums hr1
  obtain ⟨vs, rfl, hvl, hvp, hvw⟩ := isRow_nums hr2
  clear hr1 hr2
  have hzb : ∀ z ∈ zs, -9223372036854775808 ≤ z ∧ z ≤ 9223372036854775807 := fun z h => bounds_i64 (hzw z h)
  have hvb : ∀ z ∈ vs, -9223372036854775808 ≤ z ∧ z ≤ 9223372036854775807 := fun z h => bounds_i64 (hvw z h)
  clear hzw hvw
  have hsm' : s.size ≤ 9223372036854775807 := hsm
  have hvl' : vs.length ≤ 9223372036854775807 := hvl
  by_cases h1000 : 1000 < s.size
  · clear hzp hvp hzb hvb
    go_enter Try.func4, Try.ntmps4
    go_wp2_with fail
    refine (shown_any _).mono ?_
    rintro e w1 ⟨rfl, hb1⟩
    go_wp2
    go_ret
    exact ⟨rfl, hb1⟩
  have HVP := hide (fun wx (hb : Below w.heap.size w wx) => hvp.below hb)
  have HSO := hide (fun wx (hb : Below w.heap.size w wx) => samplesOf_any t a1 cap1 zs wx (by omega) (hzp.below hb) hzl hzb)
  have HVB := hide hvb
  have HLO := hide (smps_ok t hzb)
  have HLC := hide (smps_check t zs)
  obtain ⟨hl1, hl2⟩ := smps_len t zs
  clear hzp hvp hzb hvb
  generalize smps t zs = l at *
  go_enter Try.func4, Try.ntmps4
  go_wp2_with fail
  refine (shown_any _).mono ?_
  rintro e w1 ⟨rfl, hb1⟩
  go_wp2_with fail
  refine (HSO.out _ hb1).mono ?_
  rintro e w2 ⟨v, rfl, hown, hb2⟩
  have hb3 := bl hb1 hb2
  have hown := hown.mono hb1.size
  obtain ⟨g, cap, rfl, hcap, hB, hg, _, _⟩ := hown.row (by omega)
  clear hb1 hb2
  go_wp2
  go_loopw [11] (fun i wr => ∃ k : Nat, k ≤ l.length ∧ k ≤ vs.length ∧ i = .int .i64 (k : Int) ∧ OwnS wr w.heap.size (.slice (some ⟨g, 0, none⟩) l.length cap) (revalue l (vs.take k)) ∧ Below w.heap.size w wr)
    (fun i _ => l.length - (intOf i).toNat)
  case atStart => exact ⟨0, Nat.zero_le _, Nat.zero_le _, rfl, by rw [List.take_zero, revalue_nil]; exact hown, hb3⟩
  case round =>
    obtain ⟨k, hk, hkv, rfl, ho, hnx⟩ := hrel
    clear hown hb3
    have hlen : (revalue l (vs.take k)).length = l.length := revalue_len _ _
    by_cases hend : k < l.length ∧ k < vs.length
    · obtain ⟨hlt, hlv⟩ := hend
      obtain ⟨b, off, x, rfl, hbl, hx, hc⟩ := (HVP.out wr hnx).get (Below.refl _ _) hlv
      obtain ⟨g', cap', hv, _, _, hg', hcell, hfr⟩ := ho.row (by rw [hlen]; omega)
      have hge : g' = g := by
        simp only [Value.slice.injEq, Option.some.injEq, Addr.mk.injEq, and_true] at hv
        exact hv.1.symm
      subst hge
      obtain ⟨yy, hc2⟩ : ∃ yy, wr.cell? ⟨g', k * 2 + 1, none⟩ = some (.int .i64 yy) := ⟨_, (hcell k (by rw [hlen]; exact hlt)).2⟩
      have hf2 := hfr (k * 2 + 1)
      have hki : (k : Int) < (l.length : Int) := by omega
      have hki2 : (k : Int) < (vs.length : Int) := by omega
      have ho2 := ho
      rw [← hlen] at ho2
      have ho3 := OwnS.set2 ho2 (k := k) (by rw [hlen]; exact hlt) x
      have HN := hide (revalue_next l vs k hlt hlv)
      rw [hx] at HN
      rw [← HN.out, hlen] at ho3
      have hbz := hnx.setCell (p := ⟨g', k * 2 + 1, none⟩) hB (.int .i64 x)
      clear hv hcell hfr ho ho2 hx hlen
      go_wp2
      go_roundw
      case rel => exact ⟨k + 1, by omega, by omega, by go_num, ho3, hbz⟩
      case measure => simp [intOf]; omega
    · have HE := hide (revalue_all (l := l) (vs := vs) (k := k) (by omega))
      rw [HE.out] at ho hlen
      have HOK := hide (revalue_ok l vs HLO.out HVB.out)
      have HCK : Hid (Smp.check (revalue l vs) = 0) := hide ((revalue_check l vs).trans HLC.out)
      generalize revalue l vs = L at *
      obtain ⟨a', cap', hv, hcp, hsa, _⟩ := ho.view
      rw [hlen] at hv
      simp only [Value.slice.injEq, true_and] at hv
      obtain ⟨rfl, rfl⟩ := hv
      have HP := put_form _ cap L wr hsa hcp (by rw [hlen]; omega) HOK.out
      rw [HCK.out, putRes_ok HCK.out, hlen] at HP
      have HPU := hide HP
      have HTB := hide (fun wx => take_back HCK.out HOK.out s wx (by omega))
      rw [hlen] at HTB
      have HSA := hide hsa
      have HLEN := hide hlen
      have hpl := Smp.putS_len HCK.out HOK.out
      have hpl2 : (Num.bs (Smp.putS L)).size ≤ 500 := by rw [Num.bs_size]; exact hpl
      clear HP hsa ho hlen hpl
      by_cases hlt : k < l.length
      · have hlv : vs.length ≤ k := by omega
        go_wp2_with fail
        refine HPU.out.mono ?_
        rintro e w3 ⟨rfl, hb3⟩
        go_wp2_with fail
        refine (HTB.out _).mono ?_
        rintro e w4 ⟨b, cb, rfl, hsb, hb4⟩
        have HS1 := hide ((HSA.out.below hb3).below hb4)
        have HSY := same_yes b cb _ cap L w4 (by rw [HLEN.out]; omega) hsb HS1.out
        rw [HLEN.out] at HSY
        have HSY' := hide HSY
        have hb5 := bl (bl hnx hb3) hb4
        clear HSY hsb hb3 hb4
        go_wp2_with fail
        refine HSY'.out.mono ?_
        rintro e w5 ⟨rfl, hb6⟩
        have hb7 := bl hb5 hb6
        go_wp2
        go_ret
        exact ⟨rfl, hb7⟩
      · go_wp2_with fail
        refine HPU.out.mono ?_
        rintro e w3 ⟨rfl, hb3⟩
        go_wp2_with fail
        refine (HTB.out _).mono ?_
        rintro e w4 ⟨b, cb, rfl, hsb, hb4⟩
        have HS1 := hide ((HSA.out.below hb3).below hb4)
        have HSY := same_yes b cb _ cap L w4 (by rw [HLEN.out]; omega) hsb HS1.out
        rw [HLEN.out] at HSY
        have HSY' := hide HSY
        have hb5 := bl (bl hnx hb3) hb4
        clear HSY hsb hb3 hb4
        go_wp2_with fail
        refine HSY'.out.mono ?_
        rintro e w5 ⟨rfl, hb6⟩
        have hb7 := bl hb5 hb6
        go_wp2
        go_ret
        exact ⟨rfl, hb7⟩

end Go.Proofs.Ytocelglgafmfnaa
