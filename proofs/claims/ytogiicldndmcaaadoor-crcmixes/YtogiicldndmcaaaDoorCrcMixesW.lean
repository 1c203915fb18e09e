/-
  The walk of CrcMixes.
-/
import Derived.Test.YtogiicldndmcaaaDoorCrcJoinsW
import Derived.Test.YtogiicldndmcaaaDoorBytesW
import Derived.Deep.QuietTactic
import Derived.BigQuiet
import Derived.BigRegion
import Derived.Deep.DeepCutAuto
namespace Go.Proofs.YtogiicldndmcaaaDoor
open Go.RowKit

theorem info_u8c : (Tryd.prog.info? 5).map (fun i => (i.zero, i.size, i.bytes)) = some (some (.int .u8 0), 1, 1) := by kernel_rfl

theorem mix_len : ∀ (x y z : List UInt8), x.length = y.length → y.length = z.length → (Crc.mix x y z).length = x.length
  | [], [], [], _, _ => rfl
  | _ :: x, _ :: y, _ :: z, h1, h2 => by simp only [Crc.mix, List.length_cons]; rw [mix_len x y z (by simpa using h1) (by simpa using h2)]
theorem mix_at : ∀ (x y z : List UInt8) (k : Nat) (hx : k < x.length) (hy : k < y.length) (hz : k < z.length), (Crc.mix x y z)[k]? = some (x[k] ^^^ y[k] ^^^ z[k])
  | a :: x, b :: y, c :: z, 0, _, _, _ => rfl
  | a :: x, b :: y, c :: z, k + 1, hx, hy, hz => by
    simp only [Crc.mix, List.getElem?_cons_succ, List.getElem_cons_succ]
    exact mix_at x y z k (by simpa using hx) (by simpa using hy) (by simpa using hz)

/-- What lies in the new row behind k rounds. -/
def upto (M : List UInt8) (k : Nat) : List UInt8 := M.take k ++ List.replicate (M.length - k) 0
theorem upto_len (M : List UInt8) (k : Nat) (h : k ≤ M.length) : (upto M k).length = M.length := by simp [upto]; omega
theorem upto_zero (M : List UInt8) : upto M 0 = List.replicate M.length 0 := by simp [upto]
theorem upto_all (M : List UInt8) : upto M M.length = M := by simp [upto]
theorem upto_set (M : List UInt8) (k : Nat) (h : k < M.length) (c : UInt8) (hc : M[k]? = some c) : (upto M k).set k c = upto M (k + 1) := by
  unfold upto
  rw [List.set_append_right _ _ (by simp; omega), List.length_take, show k - min k M.length = 0 from by omega, show M.length - k = (M.length - (k + 1)) + 1 from by omega, List.replicate_succ, List.set_cons_zero, List.take_add_one, hc]
  simp

theorem xor3_val (a b c : UInt8) : bits .xor .u8 (bits .xor .u8 (a.toNat : Int) (b.toNat : Int)) (c.toNat : Int) = ((a ^^^ b ^^^ c).toNat : Int) := by
  have ha := a.toNat_lt
  have hb := b.toNat_lt
  have hc := c.toNat_lt
  have hlt : a.toNat ^^^ b.toNat < 2 ^ 8 := Nat.xor_lt_two_pow (by omega) (by omega)
  rw [u8_xor_nat _ _ (by omega) (by omega), u8_xor_nat _ _ (by omega) (by omega)]
  simp [UInt8.toNat_xor]
theorem front_list (s : ByteArray) (n : Nat) : (s.extract 0 n).data.toList = s.data.toList.take n := by simp
theorem front_le (s : ByteArray) (n : Nat) (h : s.size ≤ 140737488351232) : (s.extract 0 n).size ≤ maxLen := by
  rw [ByteArray.size_extract]; unfold maxLen; omega
theorem mix_eq (s t u : ByteArray) (n : Nat) (hs : n ≤ s.size) (ht : n ≤ t.size) (hu : n ≤ u.size) (M : List UInt8) (hM : M = Crc.mix (s.data.toList.take n) (t.data.toList.take n) (u.data.toList.take n)) :
    (((Crc.sum M : Nat) : Int) == bits .xor .u32 (bits .xor .u32 ((Crc.sum (s.extract 0 n).data.toList : Nat) : Int) ((Crc.sum (t.extract 0 n).data.toList : Nat) : Int)) ((Crc.sum (u.extract 0 n).data.toList : Nat) : Int)) = true := by
  rw [front_list, front_list, front_list, xor32 _ _ (Crc.sum_lt _) (Crc.sum_lt _), xor32 _ _ (Crc.xor_lt (Crc.sum_lt _) (Crc.sum_lt _)) (Crc.sum_lt _), hM, Crc.sum_mix _ _ _ (by simp; omega) (by simp; omega)]
  simp

set_option maxRecDepth 100000 in
set_option maxHeartbeats 1000000 in
theorem walkCrcMixes (s t u : ByteArray) (w : World) (hs : s.size ≤ 140737488351232) (ht : t.size ≤ 140737488351232) (hu : u.size ≤ 140737488351232) (hT : Tab w) :
    Calls Tryd.prog 6 #[.string s, .string t, .string u] w fun e w' => e = .returned (.bool true) ∧ Below w.heap.size w w' := by
  have HT := hide hT
  clear hT
  by_cases hl : s.size + t.size + u.size ≤ 3000
  · have hg : ¬ (3000 : Int) < (s.size : Int) + (t.size : Int) + (u.size : Int) := by omega
    go_enter Tryd.func6, Tryd.ntmps6
    go_wp2_with fail
    refine (shown_any _ HT.out).mono ?_
    rintro e w1 ⟨rfl, rfl⟩
    go_upto_region 4 with fail
    go_cut [8] (fun v wc => ∃ n : Nat, v = .int .i64 (n : Int) ∧ n ≤ s.size ∧ n ≤ t.size ∧ n ≤ u.size ∧ wc = w1)
    case first =>
      go_wp2
      all_goals
        go_meet
        case rel => first | exact ⟨s.size, rfl, by omega, by omega, by omega, rfl⟩ | exact ⟨t.size, rfl, by omega, by omega, by omega, rfl⟩ | exact ⟨u.size, rfl, by omega, by omega, by omega, rfl⟩
    case rest =>
      obtain ⟨n, rfl, hns, hnt, hnu, rfl⟩ := hcut
      obtain ⟨w2, hrun, hsz, hbel, hby⟩ := make_of (P := Tryd.prog) wc 28 5 n Tryd.underlying28 info_u8c (by omega)
      obtain ⟨M, hM⟩ : ∃ M, M = Crc.mix (s.data.toList.take n) (t.data.toList.take n) (u.data.toList.take n) := ⟨_, rfl⟩
      have hMl : M.length = n := by rw [hM, mix_len _ _ _ (by simp; omega) (by simp; omega)]; simp; omega
      have HM := hide hM
      have HL := hide hMl
      clear hM hMl
      have HY : Hid (BytesAt w2 wc.heap.size (upto M 0)) := by show BytesAt _ _ _; rw [upto_zero, HL.out]; exact hby
      have HB := hide hbel
      clear hby hbel
      go_wp2
      go_loopw [10] (fun i wr => ∃ k : Nat, k ≤ n ∧ i = .int .i64 (k : Int) ∧ Below wc.heap.size wc wr ∧ wr.heap.size = wc.heap.size + 1 ∧ BytesAt wr wc.heap.size (upto M k)) (fun i _ => n - (intOf i).toNat)
      case atStart => exact ⟨0, Nat.zero_le _, rfl, HB.out, hsz, HY.out⟩
      case round =>
        obtain ⟨k, hk, rfl, hbr, hwr, hbr2⟩ := hrel
        have H1 := hide hbr
        have H2 := hide hbr2
        clear hbr hbr2
        by_cases hlt : k < n
        · have hpl : k < (upto M k).length := by rw [upto_len _ _ (by rw [HL.out]; omega), HL.out]; exact hlt
          have hcell := H2.out.1 k hpl
          have hfro := H2.out.2 k hpl
          have h3 : k < s.size := by omega
          have h4 : k < t.size := by omega
          have h5 : k < u.size := by omega
          have hval := xor3_val s[k] t[k] u[k]
          have HN : Hid ((upto M k).set k (s[k] ^^^ t[k] ^^^ u[k]) = upto M (k + 1)) := upto_set M k (by rw [HL.out]; exact hlt) _ (by
            rw [HM.out, mix_at _ _ _ k (by simp; omega) (by simp; omega) (by simp; omega)]
            simp; rfl)
          go_wp2
          go_region
          go_wp2
          go_roundw
          case rel => exact ⟨k + 1, by omega, by go_num, (H1.out.setCell (Nat.le_refl _) _).drew, by simpa using hwr, by rw [← HN.out]; exact (H2.out.set hpl _).drew⟩
          case measure => simp [intOf]; omega
        · obtain rfl : k = n := by omega
          have hcv := fun nq => (H2.out.drewN nq).conv (P := Tryd.prog) k 28 9 5 Tryd.underlying28 Tryd.underlying5 Tryd.underlying9
          rw [show upto M k = M from by rw [← HL.out, upto_all], HL.out] at hcv
          have HE := hide (mix_eq s t u k hns hnt hnu M HM.out)
          have HZ0 : Hid ((Num.bs M).size ≤ maxLen) := by show (Num.bs M).size ≤ maxLen; rw [Num.bs_size, HL.out]; unfold maxLen; omega
          have HZ1 := hide (front_le s k hs)
          have HZ2 := hide (front_le t k ht)
          have HZ3 := hide (front_le u k hu)
          have HTr := fun nq => hide ((HT.out.below H1.out).drewN nq)
          have g1 : (k : Int) ≤ (s.size : Int) := by omega
          have g2 : (k : Int) ≤ (t.size : Int) := by omega
          have g3 : (k : Int) ≤ (u.size : Int) := by omega
          go_wp2_with fail
          go_quiet ((go_at_call 10; exact Calls.quiet_of_same (sum_any _ _ (by first | exact HZ0.out | exact HZ1.out | exact HZ2.out | exact HZ3.out) (HTr _).out)))
          go_wp2
          go_ret
          exact ⟨ret_true (by simpa [Num.bs_toList] using HE.out), below_drewN H1.out _⟩
  · have hg : (3000 : Int) < (s.size : Int) + (t.size : Int) + (u.size : Int) := by omega
    go_enter Tryd.func6, Tryd.ntmps6
    go_wp2_with fail
    refine (shown_any _ HT.out).mono ?_
    rintro e w1 ⟨rfl, rfl⟩
    go_wp2
    go_ret
    exact ⟨rfl, Below.refl _ _⟩
end Go.Proofs.YtogiicldndmcaaaDoor
