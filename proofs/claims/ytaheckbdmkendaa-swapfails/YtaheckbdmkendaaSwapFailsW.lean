/-
  A writing that fails, or for which there is no room.
-/
import Derived.Test.YtaheckbdmkendaaSwpShownW
import Derived.Test.YtaheckbdmkendaaDskKinds
import Derived.Test.YtaheckbdmkendaaPickW
namespace Go.Proofs.Ytaheckbdmkendaa
open Go.RowKit
open Dsk (By Dk)

/-- The disk behind the two writings, the error, what the file is now and when the power went. -/
theorem fails_all (s t : By) (p : Nat) (hp : p < 3) (k : Int) (ks : List Int) (D1 D2 : Dk) (e2 : Int) (h1 : Dsk.One D1 (s.length + 5) s (1 + p)) (ok2 : Dsk.Ok D2) (hl : D1.left = -1) (h2 : Dsk.write Dsk.ck t D1 = (D2, e2)) :
    ((5 < t.length ∨ p < 2) ∧ e2 = (if 5 < t.length then 9 else 10) ∧ Dsk.read Dsk.ck D2 = (s, 0) ∧ Dsk.read Dsk.ck (Dsk.crash k ks D2) = (s, 0) ∧ Dsk.used D2 = s.length ∧ Dsk.list D2 = [Dsk.ck]) ∨
    (¬ 5 < t.length ∧ ¬ p < 2 ∧ e2 = 0 ∧ Dsk.read Dsk.ck D2 = (t, 0) ∧ Dsk.read Dsk.ck (Dsk.crash k ks D2) = (t, 0) ∧ Dsk.used D2 = t.length) := by
  have e1 : (Dsk.write Dsk.ck t D1).1 = D2 := by rw [h2]
  have e3 : (Dsk.write Dsk.ck t D1).2 = e2 := by rw [h2]
  have := h1.write t
  rw [e1, e3] at this
  rcases this with ⟨a, b, c, d, f, g, h⟩ | ⟨a, b, c⟩ | ⟨a, b, c⟩
  · refine .inr ⟨by omega, by omega, a, b.now.read (d hl), ?_, b.now.used⟩
    obtain ⟨x, rfl, hx, _⟩ := Dsk.left2_crash b.left2 ok2 k ks
    exact hx
  · exact absurd hl b
  · obtain ⟨c1, c2⟩ := c hl
    refine .inl ⟨by omega, ?_, c2.read c1, ?_, c2.used, c2.list⟩
    · rcases a with ⟨a, a'⟩ | ⟨a, a', a''⟩
      · rw [if_pos (by omega), a]
      · rw [if_neg (by omega), a]
    · obtain ⟨x, rfl, hx, _⟩ := Dsk.left2_crash b ok2 k ks
      exact hx
theorem one_fail {D : Dk} {room : Nat} {b : By} {k : Nat} (h : Dsk.One D room b k) (x : Nat) : Dsk.One (Dsk.setFail (x : Int) D) room b x := by
  obtain ⟨fs, f, h, h1, h2⟩ := h.wt
  exact ⟨fs, f, ⟨h.room, h.files, h.dirs, rfl⟩, h1, h2⟩

set_option maxRecDepth 100000 in
set_option maxHeartbeats 800000 in
theorem walkSwapFails (s t : ByteArray) (n : Int) (k : Int) (a : Option Addr) (cap : Nat) (ks : List Int) (w : World) (hs : s.size ≤ 140737488351232) (ht : t.size ≤ 140737488351232) (hn : -9223372036854775808 ≤ n ∧ n ≤ 9223372036854775807) (hks : KeepAt w a ks) (hkl : ks.length ≤ 9223372036854775807) :
    Calls Try.prog 4 #[.string s, .string t, .int .i64 n, .agg #[.int .i64 k, .slice a ks.length cap]] w fun e w' => e = .returned (.bool true) ∧ Below w.heap.size w w' := by
  have bK : ∀ o, Below w.heap.size w (w.alloc o) := fun o => (Below.refl _ w).alloc (Nat.le_refl _) o
  have HBK := hide bK
  clear bK
  by_cases hb0 : 1000 < s.size
  · go_enter Try.func4, Try.ntmps4
    go_wp2_with fail
    refine (sshown_any _).mono ?_
    rintro e w1 ⟨rfl, hb1⟩
    go_wp2_with fail
    refine (new_dk ((s.size : Int) + 5) _ (by omega)).mono ?_
    rintro e w2 ⟨rfl, _, hb2⟩
    go_wp2
    go_ret
    exact ⟨rfl, bl (bl (HBK.out _) hb1) hb2⟩
  by_cases hb1 : 1000 < t.size
  · go_enter Try.func4, Try.ntmps4
    go_wp2_with fail
    refine (sshown_any _).mono ?_
    rintro e w1 ⟨rfl, hb1⟩
    go_wp2_with fail
    refine (new_dk ((s.size : Int) + 5) _ (by omega)).mono ?_
    rintro e w2 ⟨rfl, _, hb2⟩
    go_wp2
    go_ret
    exact ⟨rfl, bl (bl (HBK.out _) hb1) hb2⟩
  have hsl : s.data.toList.length = s.size := by simp
  have htl : t.data.toList.length = t.size := by simp
  obtain ⟨p, hp⟩ : ∃ p, pk n 3 = p := ⟨_, rfl⟩
  have hp3 : p < 3 := by rw [← hp]; exact pk_lt n (by omega)
  obtain ⟨f1, f2, f3, _⟩ := Dsk.one_first (s.size + 5) s.data.toList (by omega)
  rw [show ((s.size + 5 : Nat) : Int) = (s.size : Int) + 5 by omega] at f1 f2 f3
  obtain ⟨D1, hD1⟩ : ∃ D1, (Dsk.write Dsk.ck s.data.toList (Dsk.fresh ((s.size : Int) + 5))).1 = D1 := ⟨_, rfl⟩
  rw [hD1] at f2 f3
  have HF1 := hide f1
  have HF2 := hide f2
  have HF3 := hide f3
  have HD1 := hide hD1
  have HP := hide hp
  have HKS := hide hks
  have HSL := hide hsl
  have HTL := hide htl
  clear f1 f2 f3 hD1 hp hks hsl htl
  go_enter Try.func4, Try.ntmps4
  go_wp2_with fail
  have y0 : (w.alloc (.cells #[.int .i64 k, .slice a ks.length cap] 25)).cell? ⟨w.heap.size, 0, none⟩ = some (.int .i64 k) := by simp
  have y1 : (w.alloc (.cells #[.int .i64 k, .slice a ks.length cap] 25)).cell? ⟨w.heap.size, 1, none⟩ = some (.slice a ks.length cap) := by simp
  have b0 := HBK.out (.cells #[.int .i64 k, .slice a ks.length cap] 25)
  have s0 : w.heap.size < (w.alloc (.cells #[.int .i64 k, .slice a ks.length cap] 25)).heap.size := by simp
  obtain ⟨w0, hw0⟩ : ∃ w0, w.alloc (.cells #[.int .i64 k, .slice a ks.length cap] 25) = w0 := ⟨_, rfl⟩
  rw [hw0] at y0 y1 b0 s0 ⊢
  clear hw0
  refine (sshown_any _).mono ?_
  rintro e w1 ⟨rfl, hb1⟩
  go_wp2_with fail
  refine (new_dk ((s.size : Int) + 5) _ (by omega)).mono ?_
  rintro e w2 ⟨rfl, hd2, hb2⟩
  obtain ⟨q, hq⟩ : ∃ q, w1.heap.size + 1 = q := ⟨_, rfl⟩
  rw [hq] at hd2 ⊢
  have HD2 := hide hd2
  have HB2 : Hid (Own w0 (more noneS w1 w2) w2) := hide ⟨bl hb1 hb2, noneS_in hb1.size⟩
  clear hd2 hq hb1 hb2
  go_wp2_with fail
  refine (write_dk HD2.out Dsk.ck s (by decide) (by omega)).mono ?_
  rintro e w3 ⟨rfl, hg3⟩
  rw [HF1.out]
  rw [HD1.out] at hg3
  have HD3 := hide hg3.dk
  have HB3 := hide (HB2.out.next hg3.only)
  clear hg3
  go_wp2_with fail
  refine (pick_any n 3 _ hn.1 hn.2 (by omega) (by omega)).mono ?_
  rintro e w4 ⟨rfl, hw⟩
  rw [hw, HP.out]
  clear hw
  go_wp2_with fail
  refine (fail_dk HD3.out (((1 + p : Nat) : Nat) : Int) (by omega)).mono ?_
  rintro e w5 ⟨rfl, hd5, ho5⟩
  have HD5 := hide hd5
  have HB5 := hide (HB3.out.only ho5)
  clear hd5 ho5
  obtain ⟨D2, e2, hwr⟩ : ∃ D2 e2, Dsk.write Dsk.ck t.data.toList (Dsk.setFail ((1 + p : Nat) : Int) D1) = (D2, e2) := ⟨(Dsk.write Dsk.ck t.data.toList (Dsk.setFail ((1 + p : Nat) : Int) D1)).1, (Dsk.write Dsk.ck t.data.toList (Dsk.setFail ((1 + p : Nat) : Int) D1)).2, rfl⟩
  go_wp2_with fail
  refine (write_dk HD5.out Dsk.ck t (by decide) (by omega)).mono ?_
  rintro e w6 ⟨rfl, hg6⟩
  rw [hwr] at hg6 ⊢
  have hfa := fails_all s.data.toList t.data.toList p hp3 k ks (Dsk.setFail ((1 + p : Nat) : Int) D1) D2 e2 (by rw [HSL.out]; exact one_fail HF2.out (1 + p)) hg6.dk.ok HF3.out hwr
  rw [HSL.out, HTL.out] at hfa
  have HFA := hide hfa
  have HD6 : Hid (IsDk _ w6 q D2 _) := hide hg6.dk
  have HB6 := hide (HB5.out.next hg6.only)
  clear hg6 hwr hfa
  have z0 := (HB6.out.below.cell (p := ⟨w.heap.size, 0, none⟩) s0).trans y0
  have z1 := (HB6.out.below.cell (p := ⟨w.heap.size, 1, none⟩) s0).trans y1
  clear y0 y1
  go_wp2_with fail
  refine (crash_dk HD6.out (by omega) k a cap ks (HKS.out.below (bl b0 HB6.out.below)) hkl).mono ?_
  rintro e w7 ⟨cq, rfl, hd7, hb7⟩
  have HD7 := hide hd7
  have HB7 := hide (HB6.out.then hb7)
  have HD6' := hide (HD6.out.below hb7)
  clear hd7 hb7
  rcases HFA.out with ⟨a1, a2, a3, a4, a5, a6⟩ | ⟨a1, a2, a3, a4, a5, a6⟩
  · have R1 := hide a3
    have R2 := hide a4
    have R3 := hide a5
    have R4 := hide a6
    clear a3 a4 a5 a6
    by_cases hf5 : 5 < t.size
    · rw [if_pos hf5] at a2
      subst a2
      go_wp2_with fail
      refine (read_dk HD6'.out Dsk.ck (by decide)).mono ?_
      rintro e w8 ⟨rfl, hw⟩
      rw [hw, R1.out, Num.bs_of]
      clear hw
      go_wp2_with fail
      refine (read_dk HD7.out Dsk.ck (by decide)).mono ?_
      rintro e w9 ⟨rfl, hw⟩
      rw [hw, R2.out, Num.bs_of]
      clear hw
      go_wp2_with fail
      refine (used_dk HD6'.out).mono ?_
      rintro e w10 ⟨rfl, hw⟩
      rw [hw, R3.out]
      clear hw
      go_wp2_with fail
      refine (list_dk HD6'.out (by omega)).mono ?_
      rintro e w11 ⟨v, rfl, ho, hb5⟩
      obtain ⟨va, vc, rfl⟩ := own_slice ho
      rw [R4.out]
      have HB9 := hide (HB7.out.then hb5)
      clear ho hb5
      go_wp2
      go_ret
      exact ⟨rfl, bl b0 HB9.out.below⟩
    · rw [if_neg hf5] at a2
      subst a2
      have hp2 : p < 2 := by omega
      go_wp2_with fail
      refine (read_dk HD6'.out Dsk.ck (by decide)).mono ?_
      rintro e w8 ⟨rfl, hw⟩
      rw [hw, R1.out, Num.bs_of]
      clear hw
      go_wp2_with fail
      refine (read_dk HD7.out Dsk.ck (by decide)).mono ?_
      rintro e w9 ⟨rfl, hw⟩
      rw [hw, R2.out, Num.bs_of]
      clear hw
      go_wp2_with fail
      refine (pick_any n 3 _ hn.1 hn.2 (by omega) (by omega)).mono ?_
      rintro e w4 ⟨rfl, hw⟩
      rw [hw, HP.out]
      clear hw
      go_wp2_with fail
      refine (used_dk HD6'.out).mono ?_
      rintro e w10 ⟨rfl, hw⟩
      rw [hw, R3.out]
      clear hw
      go_wp2_with fail
      refine (list_dk HD6'.out (by omega)).mono ?_
      rintro e w11 ⟨v, rfl, ho, hb5⟩
      obtain ⟨va, vc, rfl⟩ := own_slice ho
      rw [R4.out]
      have HB9 := hide (HB7.out.then hb5)
      clear ho hb5
      go_wp2
      go_ret
      exact ⟨rfl, bl b0 HB9.out.below⟩
  · subst a3
    have R1 := hide a4
    have R2 := hide a5
    have R3 := hide a6
    clear a4 a5 a6
    go_wp2_with fail
    refine (read_dk HD6'.out Dsk.ck (by decide)).mono ?_
    rintro e w8 ⟨rfl, hw⟩
    rw [hw, R1.out, Num.bs_of]
    clear hw
    go_wp2_with fail
    refine (read_dk HD7.out Dsk.ck (by decide)).mono ?_
    rintro e w9 ⟨rfl, hw⟩
    rw [hw, R2.out, Num.bs_of]
    clear hw
    go_wp2_with fail
    refine (pick_any n 3 _ hn.1 hn.2 (by omega) (by omega)).mono ?_
    rintro e w4 ⟨rfl, hw⟩
    rw [hw, HP.out]
    clear hw
    go_wp2_with fail
    refine (used_dk HD6'.out).mono ?_
    rintro e w10 ⟨rfl, hw⟩
    rw [hw, R3.out]
    clear hw
    go_wp2
    go_ret
    exact ⟨rfl, bl b0 HB7.out.below⟩

end Go.Proofs.Ytaheckbdmkendaa
