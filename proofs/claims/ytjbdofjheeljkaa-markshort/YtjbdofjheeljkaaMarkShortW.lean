/-
  The walk of MarkShort.
-/
import Derived.Test.YtjbdofjheeljkaaMkShowW
import Derived.Test.YtjbdofjheeljkaaMkRunW
import Derived.Test.YtjbdofjheeljkaaLdgRowCW
namespace Go.Proofs.Ytjbdofjheeljkaa
open Go.RowKit
open Ldg (De Le Rd Rl)

theorem above_few {R : Rl} (h : R.Ok) {d : De} (hd : d ∈ R.abs.dests) : d.above.length ≤ R.next := by
  have h1 := (Ldg.abs_fit h).each d hd
  have h2 := h1.low
  by_cases h3 : d.low < R.next
  · have h4 := h1.cut R.next h3
    have h5 : Ldg.cnt R.next d.above = d.above.length := by
      unfold Ldg.cnt
      exact List.countP_eq_length.2 (fun x hx => by simpa using (Ldg.above_nums h hd hx).2)
    omega
  · have h6 : d.above = [] := by
      cases he : d.above with
      | nil => rfl
      | cons x r =>
        have h7 : x ∈ d.above := by rw [he]; exact List.mem_cons_self ..
        have h8 := (Ldg.above_nums h hd h7).2
        have h9 := h1.ge x h7
        omega
    rw [h6]
    exact Nat.zero_le _
theorem name_few {R : Rl} (h : R.Ok) {d : De} (hd : d ∈ R.abs.dests) : d.name.size ≤ 20 := by
  obtain ⟨r, hr, rfl⟩ := List.mem_map.1 hd
  exact (Lab.isName_true (h.each r hr).name).2.1
theorem abs_wide {R : Rl} (h : R.Ok) (hn : R.next ≤ 1000) : ∀ d ∈ R.abs.dests, Mrk.Wide d := by
  intro d hd
  have h2 := ((Ldg.abs_fit h).each d hd).small
  have h3 := name_few h hd
  have h4 := above_few h hd
  have s1 := h2.since
  have s2 := h2.low
  have s3 := h2.ak
  have s4 := h2.ev
  have s5 := h2.rj
  exact ⟨by omega, by omega, fun x hx => by have := h2.nums x hx; omega, by omega, by omega, by omega, by omega, by omega⟩
namespace Mrk
def mostN (l : List De) : Nat := 21 + (l.map fun d => 61 + d.name.size + 10 * d.above.length).sum
def leastN (l : List De) : Nat := 3 + (l.map fun d => 7 + d.name.size + d.above.length).sum
theorem mostN_take {l : List De} {k : Nat} (hk : k < l.length) : mostN (l.take (k + 1)) = mostN (l.take k) + (61 + l[k].name.size + 10 * l[k].above.length) := by
  unfold mostN
  rw [List.take_succ_eq_append_getElem hk, List.map_append, List.sum_append]
  simp
  omega
theorem leastN_take {l : List De} {k : Nat} (hk : k < l.length) : leastN (l.take (k + 1)) = leastN (l.take k) + (7 + l[k].name.size + l[k].above.length) := by
  unfold leastN
  rw [List.take_succ_eq_append_getElem hk, List.map_append, List.sum_append]
  simp
  omega
theorem put_one {n : Nat} (h : n < 128) : (Num.put n).length = 1 := by rw [Num.put_lt h]; rfl
theorem destB_len2 {d : De} (h : Wide d) (hn : d.name.size ≤ 20) : 7 + d.name.size + d.above.length ≤ (destB d).length ∧ (destB d).length ≤ 61 + d.name.size + 10 * d.above.length := by
  have h1 := nums_le [d.since, d.low, d.ak, d.ev, d.rj, d.above.length] (by
    have hl := h.len
    intro x hx
    simp only [List.mem_cons, List.not_mem_nil, or_false] at hx
    rcases hx with rfl | rfl | rfl | rfl | rfl | rfl
    · exact h.since
    · exact h.low
    · exact h.ak
    · exact h.ev
    · exact h.rj
    · omega)
  have h2 := nums_ge [d.since, d.low, d.ak, d.ev, d.rj, d.above.length]
  have h3 := nums_le (steps d.low d.above) (steps_lt _ _)
  have h4 := nums_ge (steps d.low d.above)
  have h5 := put_one (n := d.name.size) (by omega)
  rw [steps_len] at h3 h4
  have e : d.name.data.toList.length = d.name.size := Array.length_toList
  simp only [List.length_cons, List.length_nil] at h1 h2
  unfold destB
  simp only [List.length_append, e]
  omega
theorem destsB_len : ∀ (l : List De), (∀ d ∈ l, Wide d ∧ d.name.size ≤ 20) → leastN l ≤ 3 + (destsB l).length ∧ 21 + (destsB l).length ≤ mostN l
  | [], _ => ⟨Nat.le_refl _, Nat.le_refl _⟩
  | d :: r, h => by
    obtain ⟨i1, i2⟩ := destsB_len r (fun x hx => h x (List.mem_cons_of_mem _ hx))
    obtain ⟨j1, j2⟩ := destB_len2 (h d (List.mem_cons_self ..)).1 (h d (List.mem_cons_self ..)).2
    have e : destsB (d :: r) = destB d ++ destsB r := by simp [destsB]
    have e1 : leastN (d :: r) = leastN r + (7 + d.name.size + d.above.length) := by simp [leastN]; omega
    have e2 : mostN (d :: r) = mostN r + (61 + d.name.size + 10 * d.above.length) := by simp [mostN]; omega
    rw [e, e1, e2, List.length_append]
    omega
theorem ledB_len {L : Le} (h : ∀ d ∈ L.dests, Wide d ∧ d.name.size ≤ 20) (hf : L.first < 18446744073709551616) (hn : L.next < 18446744073709551616) (h4 : L.dests.length ≤ 4) : leastN L.dests ≤ (ledB L).length ∧ (ledB L).length ≤ mostN L.dests := by
  obtain ⟨i1, i2⟩ := destsB_len L.dests h
  have h1 := Num.put_len10 hf
  have h2 := Num.put_len10 hn
  have h3 := put_one (n := L.dests.length) (by omega)
  have h5 := Num.put_pos L.first
  have h6 := Num.put_pos L.next
  unfold ledB
  simp only [nums_cons, nums_nil, List.length_append, List.length_nil]
  omega
end Mrk
set_option linter.unusedVariables false in
set_option maxRecDepth 100000 in
set_option maxHeartbeats 1600000 in
theorem walkMarkShort (a0 : Option Addr) (cap0 : Nat) (l : List Ma) (w : World) (ha : MasAt w a0 l) (hl : l.length ≤ 9223372036854775807) (hcap : l.length ≤ cap0) (hok : ∀ p ∈ l, MaOk p) (hno : a0 = none → cap0 = 0) :
    Calls Try.prog 14 #[.slice a0 l.length cap0] w fun e w' => e = .returned (.bool true) ∧ Below w.heap.size w w' := by
  have HA := hide ha
  have HOK := hide hok
  clear ha hok
  by_cases hlen : l.length ≤ 100
  case neg =>
    go_enter Try.func14, Try.ntmps14
    go_wp2_with fail
    refine (mshown_any _).mono ?_
    rintro e w1 ⟨rfl, hb1⟩
    go_wp2
    go_ret
    exact ⟨rfl, hb1⟩
  obtain ⟨hRok, hRn⟩ := Mrk.runM_ok (l := l) (by omega)
  obtain ⟨R, hR⟩ : ∃ R, Mrk.runM l = R := ⟨_, rfl⟩
  rw [hR] at hRok hRn
  have HR := hide hR
  have HRO := hide hRok
  have HRN := hide hRn
  have HFIT := hide (Ldg.abs_fit hRok)
  have hwd := abs_wide hRok (by omega)
  have HWD := hide hwd
  have hnf := fun d hd => name_few hRok (d := d) hd
  have haf := fun d hd => above_few hRok (d := d) hd
  have HNF : Hid (∀ d ∈ R.abs.dests, d.name.size ≤ 20) := hide hnf
  have HAF : Hid (∀ d ∈ R.abs.dests, d.above.length ≤ R.next) := hide haf
  clear hR hRok hRn hwd hnf haf
  go_enter Try.func14, Try.ntmps14
  go_wp2_with fail
  refine (mshown_any _).mono ?_
  rintro e w1 ⟨rfl, hb1⟩
  have HB := hide hb1
  clear hb1
  go_wp2_with fail
  refine (mrun_any cap0 (HA.out.below HB.out) HOK.out (by omega)).mono ?_
  rintro e w2 ⟨ar, mr, cr, rfl, hled, hb2⟩
  rw [HR.out] at hled ⊢
  have HB := hide (bl HB.out hb2)
  have hbx := LBox.new hled
  obtain ⟨F, hF⟩ : ∃ x, R.first = x := ⟨_, rfl⟩
  obtain ⟨N, hN⟩ : ∃ x, R.next = x := ⟨_, rfl⟩
  rw [hF, hN] at hbx ⊢
  have HF := hide hF
  have HNX := hide hN
  have hbn := bnew w2 (.cells #[.int .u64 (F : Int), .int .u64 (N : Int), .slice ar mr cr] 27)
  obtain ⟨w3, hw3⟩ : ∃ W, w2.alloc (.cells #[.int .u64 (F : Int), .int .u64 (N : Int), .slice ar mr cr] 27) = W := ⟨_, rfl⟩
  obtain ⟨X, hX⟩ : ∃ x, w2.heap.size = x := ⟨_, rfl⟩
  rw [hw3, hX] at hbx
  rw [hw3] at hbn
  have HBX := hide hbx
  have HB := hide (HB.out.trans (hbn.mono HB.out.size))
  have HW3 := hide hw3
  have HX := hide hX
  clear hled hb2 hbx hF hN hbn hw3 hX
  go_upto_region 5 with fail
  try rw [HW3.out]
  try rw [HX.out]
  have x0 := lcell_of HBX.out.cell 0 rfl
  have x1 := lcell_of HBX.out.cell 1 rfl
  have x2 := lcell_of HBX.out.cell 2 rfl
  have hled3 : LedAt w3 (.agg #[.int .u64 (F : Int), .int .u64 (N : Int), .slice ar mr cr]) ⟨F, N, R.abs.dests⟩ := by
    have h := HBX.out.led
    have e : R.abs = ⟨F, N, R.abs.dests⟩ := by
      have e1 : R.abs.first = F := HF.out
      have e2 : R.abs.next = N := HNX.out
      rw [← e1, ← e2]
    rw [← e]; exact h
  have HLED := hide hled3
  have hrt : (Le.mk F N R.abs.dests).right = true := by
    have h := Ldg.abs_right HRO.out
    have e1 : R.abs.first = F := HF.out
    have e2 : R.abs.next = N := HNX.out
    rw [← e1, ← e2]
    exact h
  have HRT := hide hrt
  have hbt := Mrk.ledB_len (L := ⟨F, N, R.abs.dests⟩) (fun d hd => ⟨HWD.out d hd, HNF.out d hd⟩) (by show F < _; have h1 := HF.out; have h2 := HRO.out.fn; have h3 := HRO.out.nb; omega) (by show N < _; have h1 := HNX.out; have h3 := HRO.out.nb; omega) HFIT.out.many
  have HBT := hide hbt
  clear hled3 hrt hbt
  go_wp2_with fail
  clear x0 x1 x2
  refine (mput_any HLED.out HRT.out (fun d hd => (HFIT.out.each d hd).small) HWD.out (by have h1 := HF.out; have h2 := HRO.out.fn; have h3 := HRO.out.nb; omega) (by have h1 := HNX.out; have h3 := HRO.out.nb; omega) HFIT.out.many).mono ?_
  rintro e w4 ⟨rfl, hb4⟩
  obtain ⟨T, hT⟩ : ∃ x, Num.bs (Mrk.ledB ⟨F, N, R.abs.dests⟩) = x := ⟨_, rfl⟩
  rw [hT]
  have hts : T.size = (Mrk.ledB ⟨F, N, R.abs.dests⟩).length := by rw [← hT, Num.bs_size]
  obtain ⟨tl, htl⟩ : ∃ x, T.size = x := ⟨_, rfl⟩
  have htb : Mrk.leastN R.abs.dests ≤ tl ∧ tl ≤ Mrk.mostN R.abs.dests := by
    rw [← htl, hts]
    exact HBT.out
  have HTB := hide htb
  have HTL := hide htl
  have HBX := hide (HBX.out.then hb4)
  have HB := hide (HB.out.trans (hb4.mono HB.out.size))
  have hm4 := HBX.out.m4 HRO.out
  have hme := HBX.out.view.2.2.1
  have HME := hide hme
  have hmr4 : mr ≤ 4 := hm4.2
  clear hb4 hT hts htl htb hm4 hme HW3 HX
  go_wp2
  go_loopw [7, 8, 9] (fun v7 v8 v9 wr => ∃ j mo le : Nat, v9 = .int .i64 (j : Int) ∧ j ≤ mr ∧ v7 = .int .i64 (mo : Int) ∧ v8 = .int .i64 (le : Int) ∧ Hid (mo = Mrk.mostN (R.abs.dests.take j)) ∧ Hid (le = Mrk.leastN (R.abs.dests.take j)) ∧ mo ≤ 21 + j * 10000 ∧ le ≤ 3 + j * 10000 ∧ Hid (LBox wr X R.abs F N ar mr cr) ∧ Hid (Below w.heap.size w wr)) (fun _ _ v9 _ => mr - (intOf v9).toNat)
  case atStart => exact ⟨0, 21, 3, rfl, Nat.zero_le _, rfl, rfl, hide rfl, hide rfl, by omega, by omega, HBX, HB⟩
  case round =>
    clear HBX HB
    obtain ⟨j, mo, le, rfl, hj, rfl, rfl, HMO, HLE, hmo, hle, HBX, HB⟩ := hrel
    by_cases hlt : j < mr
    case neg =>
      have hjm : j = R.abs.dests.length := by have := HME.out; omega
      have h1 := HMO.out
      have h2 := HLE.out
      rw [hjm, List.take_length] at h1 h2
      have h3 := HTB.out
      have c1 : decide (le ≤ tl) = true := decide_eq_true (by omega)
      have c2 : decide (tl ≤ mo) = true := decide_eq_true (by omega)
      have htl := HTL.out
      clear hjm h1 h2 h3
      have x0 := lcell_of HBX.out.cell 0 rfl
      have x1 := lcell_of HBX.out.cell 1 rfl
      have x2 := lcell_of HBX.out.cell 2 rfl
      go_wp2
      go_ret
      exact ⟨rfl, HB.out⟩
    have hkl : j < R.abs.dests.length := by have := HME.out; omega
    have hmt := Mrk.mostN_take hkl
    have hlt2 := Mrk.leastN_take hkl
    obtain ⟨b1, off1, sv1, hsa, hbl1, hsl, hcells⟩ := (HBX.out.dest hkl).out
    have hnm20 := HNF.out _ (List.getElem_mem hkl)
    have haf2 := HAF.out _ (List.getElem_mem hkl)
    obtain ⟨q, hq⟩ : ∃ q, R.abs.dests[j] = q := ⟨_, rfl⟩
    rw [hq] at hmt hlt2 hsl hcells hnm20 haf2
    clear hq
    obtain ⟨nm, ds, lo, ab, ak, ev, rj⟩ := q
    obtain ⟨sa, scp, rfl, _, _, _⟩ := hsl
    have hmt : Mrk.mostN (R.abs.dests.take (j + 1)) = Mrk.mostN (R.abs.dests.take j) + (61 + nm.size + 10 * ab.length) := hmt
    have hlt2 : Mrk.leastN (R.abs.dests.take (j + 1)) = Mrk.leastN (R.abs.dests.take j) + (7 + nm.size + ab.length) := hlt2
    have hnm20 : nm.size ≤ 20 := hnm20
    have haf2 : ab.length ≤ R.next := haf2
    have hn100 := HRN.out
    obtain ⟨sn, hsn⟩ : ∃ x, ab.length = x := ⟨_, rfl⟩
    obtain ⟨ns, hns⟩ : ∃ x, nm.size = x := ⟨_, rfl⟩
    have g0 : wr.cell? ⟨b1, off1 + j * 7, none⟩ = some (.string nm) := hcells 0 (.string nm) rfl
    have g1 := hcells 1 (.int .u64 (ds : Int)) rfl
    have g2 := hcells 2 (.int .u64 (lo : Int)) rfl
    have g3 := hcells 3 (.slice sa ab.length scp) rfl
    have g4 := hcells 4 (.int .u64 (ak : Int)) rfl
    have g5 := hcells 5 (.int .u64 (ev : Int)) rfl
    have g6 := hcells 6 (.int .u64 (rj : Int)) rfl
    rw [hsn] at hmt hlt2 g3 haf2
    rw [hns] at hmt hlt2 hnm20
    have hsn1 : sn ≤ 101 := by omega
    have HNS := hide hns
    have HMT := hide hmt
    have HLT2 := hide hlt2
    subst hsa
    have x2 := lcell_of HBX.out.cell 2 rfl
    clear hcells hmt hlt2 hsn hns haf2 hn100 hkl
    have hbn := bnew wr (.cells #[.string nm, .int .u64 (ds : Int), .int .u64 (lo : Int), .slice sa sn scp, .int .u64 (ak : Int), .int .u64 (ev : Int), .int .u64 (rj : Int)] 41)
    have hza := alloc_new wr (.cells #[.string nm, .int .u64 (ds : Int), .int .u64 (lo : Int), .slice sa sn scp, .int .u64 (ak : Int), .int .u64 (ev : Int), .int .u64 (rj : Int)] 41)
    obtain ⟨w7, hw7⟩ : ∃ W, wr.alloc (.cells #[.string nm, .int .u64 (ds : Int), .int .u64 (lo : Int), .slice sa sn scp, .int .u64 (ak : Int), .int .u64 (ev : Int), .int .u64 (rj : Int)] 41) = W := ⟨_, rfl⟩
    obtain ⟨D, hD⟩ : ∃ y, wr.heap.size = y := ⟨_, rfl⟩
    rw [hD, hw7] at hza
    rw [hw7] at hbn
    have HD := hide hza
    have HBX := hide (HBX.out.then hbn)
    have HB := hide (HB.out.trans (hbn.mono HB.out.size))
    have HW7 := hide hw7
    have HDD := hide hD
    clear hza hbn hw7 hD
    go_upto_region 12 with fail
    try rw [HW7.out]
    try rw [HDD.out]
    clear HW7 HDD g0 g1 g2 g3 g4 g5 g6 x2 hbl1
    have d0 := lcell_of HD.out 0 rfl
    have d3 := lcell_of HD.out 3 rfl
    have hns := HNS.out
    obtain ⟨m1, hm1⟩ : ∃ x, mo + 1 = x := ⟨_, rfl⟩
    obtain ⟨m2, hm2⟩ : ∃ x, m1 + ns = x := ⟨_, rfl⟩
    obtain ⟨m3, hm3⟩ : ∃ x, m2 + 60 = x := ⟨_, rfl⟩
    obtain ⟨tt, htt⟩ : ∃ x, 10 * sn = x := ⟨_, rfl⟩
    obtain ⟨m4, hm4⟩ : ∃ x, m3 + tt = x := ⟨_, rfl⟩
    obtain ⟨l1, hl1⟩ : ∃ x, le + 1 = x := ⟨_, rfl⟩
    obtain ⟨l2, hl2⟩ : ∃ x, l1 + ns = x := ⟨_, rfl⟩
    obtain ⟨l3, hl3⟩ : ∃ x, l2 + 6 = x := ⟨_, rfl⟩
    obtain ⟨l4, hl4⟩ : ∃ x, l3 + sn = x := ⟨_, rfl⟩
    have q0 : ((mo : Nat) : Int) + (1 : Int) = (m1 : Int) := by omega
    have v0 : IntKind.i64.wrap ((m1 : Nat) : Int) = (m1 : Int) := by rw [IntKind.wrap_i64]; omega
    have q1 : ((m1 : Nat) : Int) + (ns : Int) = (m2 : Int) := by omega
    have v1 : IntKind.i64.wrap ((m2 : Nat) : Int) = (m2 : Int) := by rw [IntKind.wrap_i64]; omega
    have q2 : ((m2 : Nat) : Int) + (60 : Int) = (m3 : Int) := by omega
    have v2 : IntKind.i64.wrap ((m3 : Nat) : Int) = (m3 : Int) := by rw [IntKind.wrap_i64]; omega
    have q3 : (10 : Int) * (sn : Int) = (tt : Int) := by omega
    have v3 : IntKind.i64.wrap ((tt : Nat) : Int) = (tt : Int) := by rw [IntKind.wrap_i64]; omega
    have q4 : ((m3 : Nat) : Int) + (tt : Int) = (m4 : Int) := by omega
    have v4 : IntKind.i64.wrap ((m4 : Nat) : Int) = (m4 : Int) := by rw [IntKind.wrap_i64]; omega
    have q5 : ((le : Nat) : Int) + (1 : Int) = (l1 : Int) := by omega
    have v5 : IntKind.i64.wrap ((l1 : Nat) : Int) = (l1 : Int) := by rw [IntKind.wrap_i64]; omega
    have q6 : ((l1 : Nat) : Int) + (ns : Int) = (l2 : Int) := by omega
    have v6 : IntKind.i64.wrap ((l2 : Nat) : Int) = (l2 : Int) := by rw [IntKind.wrap_i64]; omega
    have q7 : ((l2 : Nat) : Int) + (6 : Int) = (l3 : Int) := by omega
    have v7 : IntKind.i64.wrap ((l3 : Nat) : Int) = (l3 : Int) := by rw [IntKind.wrap_i64]; omega
    have q8 : ((l3 : Nat) : Int) + (sn : Int) = (l4 : Int) := by omega
    have v8 : IntKind.i64.wrap ((l4 : Nat) : Int) = (l4 : Int) := by rw [IntKind.wrap_i64]; omega
    go_upto_region 10 with fail
    go_wp2
    go_roundw
    case rel => exact ⟨j + 1, m4, l4, by go_num, by omega, rfl, rfl, hide (by rw [HMT.out, ← HMO.out]; omega), hide (by rw [HLT2.out, ← HLE.out]; omega), by omega, by omega, HBX, HB⟩
    case measure => simp [intOf]; omega
end Go.Proofs.Ytjbdofjheeljkaa
