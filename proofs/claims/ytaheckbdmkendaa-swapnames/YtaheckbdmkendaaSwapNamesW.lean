/-
  Names that may be swapped, and others.
-/
import Derived.Test.YtaheckbdmkendaaSwpShownW
import Derived.Deep.DeepCutAuto
namespace Go.Proofs.Ytaheckbdmkendaa
open Go.RowKit
open Dsk (By Dk)

theorem may_no {n : ByteArray} (h : n.size = 0) : Dsk.maySwap n = false := maySwap_no (isName_long (.inl h))
theorem may_byte {n : ByteArray} {k : Nat} (hk : k < n.size) (h : ¬ okB n[k]) : Dsk.maySwap n = false := maySwap_no (isName_no hk h)
theorem may_long {n : ByteArray} (h : 23 < n.size) : Dsk.maySwap n = false := maySwap_long h
/-- The law's test of a name: so far. -/
def nameUpto (n : ByteArray) (k : Nat) : Bool := decide (1 ≤ n.size ∧ n.size ≤ 23 ∧ Dsk.endsT n = false ∧ ∀ b ∈ n.data.toList.take k, 33 ≤ b.toNat ∧ b.toNat ≤ 126)
theorem nameUpto_all (n : ByteArray) : nameUpto n n.size = Dsk.maySwap n := by
  have hd : n.data.toList.take n.size = n.data.toList := List.take_of_length_le (by simp)
  unfold nameUpto
  rw [hd]
  cases hm : Dsk.maySwap n with
  | true =>
    obtain ⟨h1, h2, h3⟩ := Dsk.maySwap_iff.1 hm
    unfold Dsk.isName at h1
    rw [decide_eq_true_eq] at h1
    exact decide_eq_true ⟨h1.2.1, h2, h3, h1.1⟩
  | false =>
    refine decide_eq_false (fun h => ?_)
    have : Dsk.maySwap n = true := Dsk.maySwap_iff.2 ⟨by unfold Dsk.isName; exact decide_eq_true ⟨h.2.2.2, h.1, by omega⟩, h.2.1, h.2.2.1⟩
    rw [hm] at this
    cases this
theorem nameUpto_next (n : ByteArray) {k : Nat} (hk : k < n.size) : nameUpto n (k + 1) = (nameUpto n k && decide (33 ≤ (n[k]).toNat) && decide ((n[k]).toNat ≤ 126)) := by
  unfold nameUpto
  rw [List.take_succ_eq_append_getElem (by simpa using hk), byte_at n hk, ← Bool.decide_and, ← Bool.decide_and]
  refine decide_eq_decide.2 ⟨fun ⟨a, b, c, d⟩ => ⟨⟨⟨a, b, c, fun x hx => d x (List.mem_append_left _ hx)⟩, (d _ (List.mem_append_right _ (by simp))).1⟩, (d _ (List.mem_append_right _ (by simp))).2⟩, fun ⟨⟨⟨a, b, c, d⟩, e⟩, f⟩ => ⟨a, b, c, fun x hx => ?_⟩⟩
  rcases List.mem_append.1 hx with hx | hx
  · exact d x hx
  · simp at hx; subst hx; exact ⟨e, f⟩
theorem upto_no {n : ByteArray} (h : n.size = 0 ∨ 23 < n.size) {k : Nat} : nameUpto n k = false := by
  unfold nameUpto
  exact decide_eq_false (fun x => by omega)
theorem upto_zero {n : ByteArray} {k : Nat} (hkn : k < n.size) (h : n.size = k + 1) (h2 : n.size ≤ 23) : nameUpto n 0 = !(((n[k]).toNat : Int) == 126) := by
  have hl : n.data.toList.length = k + 1 := by simpa using h
  have hk : k < n.data.toList.length := by omega
  have e2 : n.data.toList.getLast? = some n[k] := by
    rw [List.getLast?_eq_getElem?, hl, Nat.add_sub_cancel, List.getElem?_eq_getElem hk]
    rfl
  generalize n[k] = b at e2 ⊢
  unfold nameUpto Dsk.endsT
  rw [e2]
  by_cases hb : b = 126
  · subst hb
    exact decide_eq_false (fun x => by simp at x)
  · have h1 : ((b.toNat : Int) == 126) = false := beq_eq_false_iff_ne.2 (fun x => hb (by
      apply UInt8.toNat_inj.1
      have : b.toNat = 126 := by omega
      rw [this]
      rfl))
    rw [h1]
    exact decide_eq_true ⟨by omega, h2, by simpa using hb, by simp⟩
set_option maxRecDepth 100000 in
set_option maxHeartbeats 800000 in
theorem walkSwapNames (n s : ByteArray) (w : World) (hn : n.size ≤ 9223372036854775807) (hs : s.size ≤ 9223372036854775807) :
    Calls Try.prog 5 #[.string n, .string s] w fun e w' => e = .returned (.bool true) ∧ Below w.heap.size w w' := by
  by_cases h1 : 200 < n.size
  · go_enter Try.func5, Try.ntmps5
    go_wp2_with fail
    refine (sshown_any _).mono ?_
    rintro e w1 ⟨rfl, hb1⟩
    go_wp2_with fail
    refine (new_dk 1000 _ (by omega)).mono ?_
    rintro e w2 ⟨rfl, _, hb2⟩
    go_wp2
    go_ret
    exact ⟨rfl, bl hb1 hb2⟩
  by_cases h2 : 400 < s.size
  · go_enter Try.func5, Try.ntmps5
    go_wp2_with fail
    refine (sshown_any _).mono ?_
    rintro e w1 ⟨rfl, hb1⟩
    go_wp2_with fail
    refine (new_dk 1000 _ (by omega)).mono ?_
    rintro e w2 ⟨rfl, _, hb2⟩
    go_wp2
    go_ret
    exact ⟨rfl, bl hb1 hb2⟩
  by_cases h3 : n = Dsk.nO
  · have h3b : (n.toList == [111, 116, 104, 101, 114]) = true := by
      rw [h3, ByteArray.toList_eq]
      rfl
    clear h3
    go_enter Try.func5, Try.ntmps5
    go_wp2_with fail
    refine (sshown_any _).mono ?_
    rintro e w1 ⟨rfl, hb1⟩
    go_wp2_with fail
    refine (new_dk 1000 _ (by omega)).mono ?_
    rintro e w2 ⟨rfl, _, hb2⟩
    go_wp2
    go_ret
    exact ⟨rfl, bl hb1 hb2⟩
  have h3b : (n.toList == [111, 116, 104, 101, 114]) = false := by
    refine beq_eq_false_iff_ne.2 (fun e => h3 ?_)
    rw [ByteArray.toList_eq] at e
    apply ByteArray.ext
    apply Array.ext'
    exact e
  have hss : s.data.toList.length = s.size := by simp
  obtain ⟨D2, e2, hwr, r1, m1, m2⟩ : ∃ D2 e2, Dsk.write n s.data.toList Dsk.namD = (D2, e2) ∧ Dsk.read Dsk.nO D2 = ([120], 0) ∧ (Dsk.maySwap n = true → e2 = 0 ∧ Dsk.read n D2 = (s.data.toList, 0) ∧ D2.ops = 8 ∧ (Dsk.list D2).length = 2) ∧
      (Dsk.maySwap n = false → e2 = 3 ∧ D2.ops = 2 ∧ (Dsk.list D2).length = 1) := by
    refine ⟨(Dsk.write n s.data.toList Dsk.namD).1, (Dsk.write n s.data.toList Dsk.namD).2, rfl, ?_⟩
    cases hm : Dsk.maySwap n with
    | true =>
      obtain ⟨a, b, c, d, f⟩ := Dsk.nam_write hm h3 s.data.toList (by omega)
      exact ⟨b, fun _ => ⟨a, c, d, f⟩, fun h => Bool.noConfusion h⟩
    | false =>
      have e : Dsk.write n s.data.toList Dsk.namD = (Dsk.namD, 3) := by unfold Dsk.write; rw [hm]; rfl
      rw [e]
      exact ⟨Dsk.nam_read, fun h => Bool.noConfusion h, fun _ => ⟨rfl, Dsk.nam_ops, Dsk.nam_list⟩⟩
  have HWR := hide hwr
  have HR1 := hide r1
  have HM1 := hide m1
  have HM2 := hide m2
  clear hwr r1 m1 m2 hss h3
  go_enter Try.func5, Try.ntmps5
  go_wp2_with fail
  refine (sshown_any _).mono ?_
  rintro e w1 ⟨rfl, hb1⟩
  go_wp2_with fail
  refine (new_dk 1000 _ (by omega)).mono ?_
  rintro e w2 ⟨rfl, hd2, hb2⟩
  obtain ⟨q, hq⟩ : ∃ q, w1.heap.size + 1 = q := ⟨_, rfl⟩
  rw [hq] at hd2 ⊢
  have HD2 := hide hd2
  have HB2 : Hid (Own w (more noneS w1 w2) w2) := hide ⟨bl hb1 hb2, noneS_in hb1.size⟩
  clear hd2 hq hb1 hb2
  go_wp2_with fail
  refine (create_dk HD2.out Dsk.nO (by decide) (by omega)).mono ?_
  rintro e w3 ⟨rfl, hd3, ho3⟩
  rw [Dsk.nam_create]
  have HD3 := hide hd3
  have HB3 := hide (HB2.out.next ho3)
  clear hd3 ho3
  go_wp2_with fail
  refine (append_dk HD3.out Dsk.nO ⟨#[120]⟩ (by decide) (by decide)).mono ?_
  rintro e w4 ⟨rfl, hd4, ho4⟩
  rw [show (Dsk.append Dsk.nO (⟨#[120]⟩ : ByteArray).data.toList (Dsk.create Dsk.nO (Dsk.fresh 1000)).1).2 = 0 from Dsk.nam_append]
  have HD4 : Hid (IsDk _ w4 q Dsk.namD _) := hide hd4
  have HB4 := hide (HB3.out.next ho4)
  clear hd4 ho4
  go_wp2_with fail
  refine (ops_dk HD4.out).mono ?_
  rintro e w5 ⟨rfl, hw⟩
  rw [hw, Dsk.nam_ops]
  clear hw
  go_wp2_with fail
  refine (write_dk HD4.out n s hn (by show 0 + 1 + 1 + 1 + (s.size + 8) ≤ _; omega)).mono ?_
  rintro e w6 ⟨rfl, hg6⟩
  rw [HWR.out] at hg6 ⊢
  have HD6 : Hid (IsDk _ w6 q D2 _) := hide hg6.dk
  have HB6 := hide (HB4.out.next hg6.only)
  clear hg6
  go_wp2_with fail
  refine (read_dk HD6.out Dsk.nO (by decide)).mono ?_
  rintro e w7 ⟨rfl, hw⟩
  rw [hw, HR1.out, show Num.bs [120] = (⟨#[120]⟩ : ByteArray) from rfl]
  clear hw
  go_wp2_with fail
  refine (read_dk HD6.out n (by unfold maxLen; omega)).mono ?_
  rintro e w8 ⟨rfl, hw⟩
  rw [hw]
  clear hw
  obtain ⟨y, hy⟩ : ∃ y, Num.bs (Dsk.read n D2).1 = y := ⟨_, rfl⟩
  obtain ⟨gg, hgg⟩ : ∃ g, (Dsk.read n D2).2 = g := ⟨_, rfl⟩
  rw [hy, hgg]
  have HY := hide hy
  have HGG := hide hgg
  clear hy hgg
  go_upto_region 13 with fail
  go_cut [13] (fun v wc => v = .bool (nameUpto n 0) ∧ wc = w6)
  case first =>
    by_cases z0 : n.size = 0
    · have HU := hide (upto_no (k := 0) (.inl z0))
      go_wp2
      all_goals
        go_meet
        case rel => exact ⟨congrArg Value.bool HU.out.symm, rfl⟩
    by_cases z1 : 23 < n.size
    · have HU := hide (upto_no (k := 0) (.inr z1))
      go_wp2
      all_goals
        go_meet
        case rel => exact ⟨congrArg Value.bool HU.out.symm, rfl⟩
    obtain ⟨k, hk⟩ : ∃ k, n.size = k + 1 := ⟨n.size - 1, by omega⟩
    have hki : ((n.size : Nat) : Int) = (k : Int) + 1 := by omega
    have hkl : k < n.size := by omega
    have HU := hide (upto_zero hkl hk (by omega))
    have HK := hide hk
    clear hk
    go_wp2
    all_goals
      go_meet
      case rel => exact ⟨congrArg Value.bool HU.out.symm, rfl⟩
  case rest =>
    obtain ⟨rfl, rfl⟩ := hcut
    go_wp2
    go_loopw [13, 14] (fun v13 v14 wr => ∃ j : Nat, j ≤ n.size ∧ v14 = .int .i64 (j : Int) ∧ v13 = .bool (nameUpto n j) ∧ wr = wc) (fun _ v14 _ => n.size - (intOf v14).toNat)
    case atStart => exact ⟨0, Nat.zero_le _, rfl, rfl, rfl⟩
    case round =>
      obtain ⟨j, hj, rfl, rfl, rfl⟩ := hrel
      by_cases hlt : j < n.size
      · have hnx := nameUpto_next n hlt
        have hb : (n[j]).toNat < 256 := (n[j]).toNat_lt
        obtain ⟨u, hu⟩ : ∃ u, nameUpto n j = u := ⟨_, rfl⟩
        obtain ⟨u', hu'⟩ : ∃ u', nameUpto n (j + 1) = u' := ⟨_, rfl⟩
        rw [hu] at hnx ⊢
        rw [hu'] at hnx
        have HU' := hide hu'
        have HNX := hide hnx
        clear hu hu' hnx
        cases u with
        | false =>
          go_wp2
          go_roundw
          case rel => exact ⟨j + 1, by omega, by go_num, by rw [HU'.out, HNX.out]; simp, trivial⟩
          case measure => simp [intOf]; omega
        | true =>
          by_cases b1 : (n[j]).toNat < 33
          · go_wp2
            go_roundw
            case rel => exact ⟨j + 1, by omega, by go_num, by rw [HU'.out, HNX.out]; simp; omega, trivial⟩
            case measure => simp [intOf]; omega
          by_cases b2 : 126 < (n[j]).toNat
          · go_wp2
            go_roundw
            case rel => exact ⟨j + 1, by omega, by go_num, by rw [HU'.out, HNX.out, decide_eq_false (show ¬ (n[j]).toNat ≤ 126 by omega)]; simp; omega, trivial⟩
            case measure => simp [intOf]; omega
          · go_wp2
            go_roundw
            case rel => exact ⟨j + 1, by omega, by go_num, by rw [HU'.out, HNX.out, decide_eq_true (show 33 ≤ (n[j]).toNat by omega), decide_eq_true (show (n[j]).toNat ≤ 126 by omega)]; simp; omega, trivial⟩
            case measure => simp [intOf]; omega
      · obtain rfl : j = n.size := by omega
        rw [nameUpto_all]
        cases hm : Dsk.maySwap n with
        | false =>
          obtain ⟨a1, a2, a3⟩ := HM2.out hm
          subst a1
          have A3 := hide a3
          have A2 := hide a2
          clear a3 a2 hm
          go_wp2_with fail
          refine (ops_dk HD6.out).mono ?_
          rintro e w9 ⟨rfl, hw⟩
          rw [hw, A2.out]
          clear hw
          go_wp2_with fail
          refine (list_dk HD6.out (by show 0 + 1 + 1 + 1 + (s.size + 8) ≤ _; omega)).mono ?_
          rintro e w10 ⟨v, rfl, ho, hb5⟩
          obtain ⟨a, c, rfl⟩ := own_slice ho
          rw [A3.out]
          have HB9 := hide (HB6.out.then hb5)
          clear ho hb5
          go_wp2
          go_ret
          exact ⟨rfl, HB9.out.below⟩
        | true =>
          obtain ⟨a1, a2, a3, a4⟩ := HM1.out hm
          subst a1
          have hy : y = s := by rw [← HY.out, a2]; exact Num.bs_of s
          have hgg : gg = 0 := by rw [← HGG.out, a2]
          subst hgg
          rw [hy]
          have A3 := hide a3
          have A4 := hide a4
          clear a4 a3 a2 hm hy
          go_wp2_with fail
          refine (ops_dk HD6.out).mono ?_
          rintro e w9 ⟨rfl, hw⟩
          rw [hw, A3.out]
          clear hw
          go_wp2_with fail
          refine (list_dk HD6.out (by show 0 + 1 + 1 + 1 + (s.size + 8) ≤ _; omega)).mono ?_
          rintro e w10 ⟨v, rfl, ho, hb5⟩
          obtain ⟨a, c, rfl⟩ := own_slice ho
          rw [A4.out]
          have HB9 := hide (HB6.out.then hb5)
          clear ho hb5
          go_wp2
          go_ret
          exact ⟨rfl, HB9.out.below⟩

end Go.Proofs.Ytaheckbdmkendaa
