/-
  The walk of SampleOrder.
-/
import Derived.Test.YtocelglgafmfnaaSmpOfW
import Derived.Test.YtocelglgafmfnaaSmpFormW
import Derived.Test.YtocelglgafmfnaaSmpAppW
namespace Go.Proofs.Ytocelglgafmfnaa
open Go.RowKit
open Smp (Sm)

theorem OwnS.setBoth {w : World} {B g cap : Nat} {ps : List Sm} (h : OwnS w B (.slice (some ⟨g, 0, none⟩) ps.length cap) ps) {k : Nat} (hk : k < ps.length) (t v : Int) :
    OwnS ((w.setCell ⟨g, k * 2, none⟩ (.int .u64 t)).setCell ⟨g, k * 2 + 1, none⟩ (.int .i64 v)) B (.slice (some ⟨g, 0, none⟩) ps.length cap) (ps.set k (t, v)) := by
  have h1 := h.set1 hk t
  have e : (ps.set k (t, (ps[k]).2)).length = ps.length := by simp
  rw [← e] at h1
  have h2 := h1.set2 (k := k) (by rw [e]; exact hk) v
  have e2 : (ps.set k (t, (ps[k]).2)).set k (((ps.set k (t, (ps[k]).2))[k]'(by rw [e]; exact hk)).1, v) = ps.set k (t, v) := by simp
  rw [e2, e] at h2
  exact h2

theorem OwnS.at {w : World} {B n cap : Nat} {a : Option Addr} {ss : List Sm} (h : OwnS w B (.slice a n cap) ss) : ss.length = n ∧ ss.length ≤ cap ∧ SmpsAt w a ss := by
  obtain ⟨a', cap', hv, h1, h2, _⟩ := h.view
  simp only [Value.slice.injEq] at hv
  obtain ⟨rfl, rfl, rfl⟩ := hv
  exact ⟨rfl, h1, h2⟩
theorem one_bad {l : List Sm} {j K : Nat} (hK : j + 1 = K) (hj : j < l.length) (hKl : K < l.length) (hl : l.length ≤ 20) (v : Int) : Smp.check (l.set K ((l[j]).1, v)) = 8 := by
  subst hK
  refine Smp.check_order (by rw [List.length_set]; omega) (Smp.riseB_no (k := j) (by simpa using hKl) ?_)
  simp
theorem two_bad {l : List Sm} {j K : Nat} (hK : j + 1 = K) (hj : j < l.length) (hKl : K < l.length) (hl : l.length ≤ 20) (hr : Smp.riseB l = true) : Smp.check ((l.set K l[j]).set j l[K]) = 8 := by
  subst hK
  refine Smp.check_order (by rw [List.length_set, List.length_set]; omega) (Smp.riseB_no (k := j) (by simpa using hKl) ?_)
  have := (Smp.riseB_iff l).1 hr j hKl
  simp
  omega

set_option maxRecDepth 100000 in
set_option maxHeartbeats 3200000 in
theorem walkSampleOrder (t : Int) (a1 : Option Addr) (len1 cap1 : Nat) (z1 : List Int) (c : Int) (w : World) (ht : 0 ≤ t ∧ t ≤ 18446744073709551615) (hr1 : IsRow .i64 w a1 len1 cap1 z1) (hc : -9223372036854775808 ≤ c ∧ c ≤ 9223372036854775807) :
    Calls Try.prog 7 #[.int .u64 t, .slice a1 len1 cap1, .int .i64 c] w fun e w' => e = .returned (.bool true) ∧ Below w.heap.size w w' := by
  obtain ⟨zs, rfl, hzl, hzp, hzw⟩ := isRow_nums hr1
  clear hr1
  have hzb : ∀ z ∈ zs, -9223372036854775808 ≤ z ∧ z ≤ 9223372036854775807 := fun z h => bounds_i64 (hzw z h)
  clear hzw
  have HSO := hide (fun wx (hb : Below w.heap.size w wx) => samplesOf_any t a1 cap1 zs wx (by omega) (hzp.below hb) hzl hzb)
  have HLO := hide (smps_ok t hzb)
  have HLR := hide (smps_rise t zs)
  have HLC := hide (smps_check t zs)
  obtain ⟨hl1, hl2⟩ := smps_len t zs
  clear hzp hzb
  generalize smps t zs = l at *
  have HPN := hide (fun wx => put_bad none 0 [] wx (SmpsAt.nil _ _) (Nat.le_refl _) (Nat.zero_le _) (by decide +kernel))
  rw [putV_no (by decide +kernel), show Smp.check [] = 6 from by decide +kernel] at HPN
  go_enter Try.func7, Try.ntmps7
  go_wp2_with fail
  refine (shown_any _).mono ?_
  rintro e w1 ⟨rfl, hb1⟩
  go_wp2_with fail
  refine (HSO.out _ hb1).mono ?_
  rintro e w2 ⟨v, rfl, hown, hb2⟩
  obtain ⟨a, cap, rfl, hcap, hsa, hnil⟩ := hown.view
  have HB2 := hide (bl hb1 hb2)
  clear hb1 hb2 hown
  go_wp2_with fail
  refine (HPN.out _).mono ?_
  rintro e w3 ⟨rfl, hb3⟩
  have HB3 := hide (bl HB2.out hb3)
  have HSA := hide (hsa.below hb3)
  have HPB := hide (fun (wx : World) (x : Option Addr) (cx : Nat) (M : List Sm) hp (hc : M.length ≤ cx) (h40 : M.length ≤ 40) (h8 : Smp.check M ≠ 0) => put_bad x cx M wx hp hc (by omega) h8)
  have HCB := hide (fun (wx : World) (x : Option Addr) (cx : Nat) (M : List Sm) hp (hc : M.length ≤ cx) (h40 : M.length ≤ 40) => check_any x cx M wx hp hc (by omega))
  clear hb3 hsa HB2 HPN HSO
  go_wp2
  go_loopw [11] (fun v wr => ∃ (ma : Option Addr) (mcap : Nat) (M : List Sm), v = .slice ma M.length mcap ∧ M.length ≤ mcap ∧ SmpsAt wr ma M ∧ (ma = none → mcap = 0) ∧ 1 ≤ M.length ∧ M.length ≤ 40 ∧ Below w3.heap.size w3 wr)
    (fun v _ => 41 - lenOf v)
  case atStart => exact ⟨a, cap, l, rfl, hcap, HSA.out, hnil, hl1, by omega, Below.refl _ _⟩
  case round =>
    obtain ⟨ma, mcap, M, rfl, hmc, hms, hmn, hm1, hm2, hnx⟩ := hrel
    by_cases h21 : M.length < 21
    · have hbE := (Below.refl wr.heap.size wr).alloc (Nat.le_refl _) (Obj.cells #[] 38)
      have hownE := owns_empty (B := wr.heap.size) (heap_new wr (Obj.cells #[] 38)) (Nat.le_refl _)
      go_wp2_with (at_builtin; refine wpList_apps rfl _ _ rfl wr.heap.size _ [] rfl hownE ma mcap M.length M rfl rfl (hms.below hbE) hmn ?c1 ?c2 ?_)
      case c1 => simp; omega
      case c2 => simp
      intro v8 w8 ho8 hg8
      have hb8 := hbE.grown hg8 (by simp) (fun k hk => (World.ownsRow.lt hownE k hk).1)
      have hms8 := hms.below hb8
      clear hownE hbE hg8
      go_wp2_with (at_builtin; refine wpList_apps rfl _ _ rfl wr.heap.size _ _ rfl ho8 ma mcap M.length M rfl rfl hms8 hmn ?c1 ?c2 ?_)
      case c1 => omega
      case c2 => exact hb8.size
      intro v9 w9 ho9 hg9
      have hb9 := hb8.grown hg9 hb8.size (fun k hk => (World.ownsRow.lt ho8 k hk).1)
      obtain ⟨a9, cap9, rfl, hc9, hs9, hn9⟩ := ho9.view
      have hb10 := bl hnx hb9
      have hml : (M ++ M).length = M.length + M.length := by simp
      clear ho8 hg9 hb8 hb9 ho9 hms8
      go_wp2
      go_roundw
      case rel => exact ⟨a9, cap9, M ++ M, rfl, hc9, hs9, hn9, by simp; omega, by simp; omega, hb10⟩
      case measure => simp [lenOf]; omega
    · have h6 := Smp.check_many (l := M) (by omega)
      have HP1 := HPB.out wr ma mcap M hms hmc hm2 (by rw [h6]; decide)
      rw [putV_no (by rw [h6]; decide), h6] at HP1
      have HP2 := hide HP1
      have HK2 := hide (fun wx (hb : Below wr.heap.size wr wx) => HCB.out wx ma mcap M (hms.below hb) hmc hm2)
      rw [h6] at HK2
      have HNX := hide hnx
      clear HP1 h6 hms hnx
      go_wp2_with fail
      refine HP2.out.mono ?_
      rintro e w4 ⟨rfl, hb4⟩
      have HB4 := hide (bl HNX.out hb4)
      have HB44 := hide hb4
      clear hb4
      go_wp2_with fail
      refine (HK2.out _ HB44.out).mono ?_
      rintro e w5 ⟨rfl, hb5⟩
      have HB5 := hide (bl HB4.out hb5)
      clear hb5 HB4 HB44 HK2 HP2 HNX
      by_cases hlt : l.length < 2
      · have HK3 := HCB.out w5 a cap l (HSA.out.below HB5.out) hcap (by omega)
        rw [HLC.out] at HK3
        have HK4 := hide HK3
        clear HK3
        go_wp2_with fail
        refine HK4.out.mono ?_
        rintro e w6 ⟨rfl, hb6⟩
        have hbz := bl HB3.out (bl HB5.out hb6)
        clear hb6
        go_wp2
        go_ret
        exact ⟨rfl, hbz⟩
      · have hpk := pk_lt c (n := l.length - 1) (by omega)
        obtain ⟨hc0, hc1⟩ := hc
        have HPK := hide (fun wx => pick_any c (l.length - 1) wx hc0 hc1 (by omega) (by omega))
        generalize pk c (l.length - 1) = j at *
        have hj : j + 1 < l.length := by omega
        have hsub : ((l.length - 1 : Nat) : Int) = (l.length : Int) - 1 := by omega
        rw [hsub] at HPK
        clear hsub
        go_wp2_with fail
        refine (HPK.out _).mono ?_
        rintro e w6 ⟨rfl, hw6⟩
        rw [hw6]
        clear hw6 HPK
        obtain ⟨K, hK⟩ : ∃ K, j + 1 = K := ⟨_, rfl⟩
        have hKi : 1 + (j : Int) = (K : Int) := by omega
        have hKj : (K : Int) - 1 = (j : Int) := by omega
        have hKl : K < l.length := by omega
        have hjl : j < l.length := by omega
        have HO1 := hide (one_bad hK hjl hKl hl2)
        have HO2 := hide (two_bad hK hjl hKl hl2 HLR.out)
        clear hK hj
        have hs5 := HSA.out.below HB5.out
        have hbE := (Below.refl w5.heap.size w5).alloc (Nat.le_refl _) (Obj.cells #[] 38)
        have hownE := owns_empty (B := w5.heap.size) (heap_new w5 (Obj.cells #[] 38)) (Nat.le_refl _)
        go_wp2_with (at_builtin; refine wpList_apps rfl _ _ rfl w5.heap.size _ [] rfl hownE a cap l.length l rfl rfl (hs5.below hbE) hnil ?c1 ?c2 ?_)
        case c1 => simp; omega
        case c2 => simp
        intro v6 w6 ho6 hg6
        have hb6 := hbE.grown hg6 (by simp) (fun k hk => (World.ownsRow.lt hownE k hk).1)
        try rw [List.nil_append] at ho6
        obtain ⟨g, cap6, rfl, hcp6, hB6, hglt, hcell, hfr⟩ := ho6.row (by omega)
        have ho7 := ho6.set1 hKl (l[j]).1
        have cA := (hcell j (by omega)).1
        have cB := (hcell K hKl).1
        have cF := hfr (K * 2)
        have HO1' := hide (HO1.out (l[K]).2)
        obtain ⟨⟨tj, vj⟩, hlj⟩ : ∃ p, l[j] = p := ⟨_, rfl⟩
        obtain ⟨⟨tK, vK⟩, hlK⟩ : ∃ p, l[K] = p := ⟨_, rfl⟩
        simp only [hlj, hlK] at ho7 cA cB HO1' HO2
        obtain ⟨wT, hwT⟩ : ∃ wT, w6.setCell ⟨g, K * 2, none⟩ (.int .u64 tj) = wT := ⟨_, rfl⟩
        have hbT := hb6.setCell (p := ⟨g, K * 2, none⟩) hB6 (.int .u64 tj)
        rw [hwT] at ho7 hbT
        have hji : (j : Int) < (l.length : Int) := by omega
        have hji2 : (K : Int) < (l.length : Int) := by omega
        have hsT := hs5.below hbT
        have hbE2 := (Below.refl wT.heap.size wT).alloc (Nat.le_refl _) (Obj.cells #[] 38)
        have hownE2 := owns_empty (B := wT.heap.size) (heap_new wT (Obj.cells #[] 38)) (Nat.le_refl _)
        have HLJ := hide hlj
        have HLK := hide hlK
        clear hownE hbE hg6 hcell hfr ho6 hb6 hlj hlK
        go_wp2_with (at_builtin; refine wpList_apps rfl _ _ rfl wT.heap.size _ [] rfl hownE2 a cap l.length l rfl rfl (hsT.below hbE2) hnil ?c1 ?c2 ?_)
        case c1 => simp; omega
        case c2 => simp
        intro v8 w8 ho8 hg8
        have hb8 := hbE2.grown hg8 (by simp) (fun k hk => (World.ownsRow.lt hownE2 k hk).1)
        try rw [List.nil_append] at ho8
        clear hownE2 hbE2 hg8
        obtain ⟨g2, cap8, rfl, hcp8, hB8, hg2, hcell, hfr⟩ := ho8.row (by omega)
        obtain ⟨b, off, ha, hbl, hlc⟩ := hsT j hjl
        have cK := hcell K hKl
        obtain ⟨cK1, cK2⟩ := cK
        have fK1 := hfr (K * 2)
        have fK2 := hfr (K * 2 + 1)
        have cM : ∀ x, (w8.setCell ⟨g2, K * 2, none⟩ x).cell? ⟨g2, K * 2 + 1, none⟩ = some (.int .i64 (l[K]).2) := fun x => by
          rw [World.cell?_setCell_other _ _ _ _ (fun c => by have := congrArg Addr.off c; simp at this)]; exact cK2
        have ho9 := ho8.setBoth hKl tj vj
        have hb9 := (hb8.setCell (p := ⟨g2, K * 2, none⟩) hB8 (.int .u64 tj)).setCell (p := ⟨g2, K * 2 + 1, none⟩) hB8 (.int .i64 vj)
        obtain ⟨wU, hwU⟩ : ∃ wU, (w8.setCell ⟨g2, K * 2, none⟩ (.int .u64 tj)).setCell ⟨g2, K * 2 + 1, none⟩ (.int .i64 vj) = wU := ⟨_, rfl⟩
        rw [hwU] at ho9 hb9
        have eL : (l.set K (tj, vj)).length = l.length := List.length_set
        rw [← eL] at ho9
        have ho10 := ho9.setBoth (k := j) (by rw [eL]; exact hjl) tK vK
        have hb10 := (hb9.setCell (p := ⟨g2, j * 2, none⟩) hB8 (.int .u64 tK)).setCell (p := ⟨g2, j * 2 + 1, none⟩) hB8 (.int .i64 vK)
        obtain ⟨wV, hwV⟩ : ∃ wV, (wU.setCell ⟨g2, j * 2, none⟩ (.int .u64 tK)).setCell ⟨g2, j * 2 + 1, none⟩ (.int .i64 vK) = wV := ⟨_, rfl⟩
        rw [hwV] at ho10 hb10
        obtain ⟨g2', cap9, hv9, _, _, _, hcell9, hfr9⟩ := ho9.row (by rw [eL]; omega)
        obtain ⟨rfl⟩ : g2 = g2' := by simp only [Value.slice.injEq, Option.some.injEq, Addr.mk.injEq, and_true] at hv9; exact hv9.1
        obtain ⟨xj1, cj1⟩ : ∃ x, wU.cell? ⟨g2, j * 2, none⟩ = some (.int .u64 x) := ⟨_, (hcell9 j (by rw [eL]; exact hjl)).1⟩
        obtain ⟨xj2, cj2⟩ : ∃ x, wU.cell? ⟨g2, j * 2 + 1, none⟩ = some (.int .i64 x) := ⟨_, (hcell9 j (by rw [eL]; exact hjl)).2⟩
        have fj1 := hfr9 (j * 2)
        have fj2 := hfr9 (j * 2 + 1)
        have cN : ∀ x, (wU.setCell ⟨g2, j * 2, none⟩ x).cell? ⟨g2, j * 2 + 1, none⟩ = some (.int .i64 xj2) := fun x => by
          rw [World.cell?_setCell_other _ _ _ _ (fun c => by have := congrArg Addr.off c; simp at this)]; exact cj2
        have m1 : w8.cell? ⟨b, off + j * 2, none⟩ = some (.int .u64 tj) := (hb8.cell (p := ⟨b, off + j * 2, none⟩) hbl).trans (by rw [(hlc j hjl).1, HLJ.out])
        have m2 : w8.cell? ⟨b, off + j * 2 + 1, none⟩ = some (.int .i64 vj) := (hb8.cell (p := ⟨b, off + j * 2 + 1, none⟩) hbl).trans (by rw [(hlc j hjl).2, HLJ.out])
        have m3 : wU.cell? ⟨b, off + K * 2, none⟩ = some (.int .u64 tK) := (hb9.cell (p := ⟨b, off + K * 2, none⟩) hbl).trans (by rw [(hlc K hKl).1, HLK.out])
        have m4 : wU.cell? ⟨b, off + K * 2 + 1, none⟩ = some (.int .i64 vK) := (hb9.cell (p := ⟨b, off + K * 2 + 1, none⟩) hbl).trans (by rw [(hlc K hKl).2, HLK.out])
        have hO := ho7.at
        have hN := ho10.at
        obtain ⟨eO, kO, sO⟩ := hO
        obtain ⟨eN, kN, sN⟩ := hN
        rw [eL] at eN
        have HPT := HPB.out wV (some ⟨g2, 0, none⟩) cap8 _ sN kN (by rw [eN]; omega) (by rw [HO2.out]; decide)
        rw [putV_no (by rw [HO2.out]; decide), HO2.out, eN] at HPT
        have HPT' := hide HPT
        have HCO := hide (fun wx (hb : Below wV.heap.size wV wx) => HCB.out wx (some ⟨g, 0, none⟩) cap6 _ ((sO.below hb10).below hb) kO (by rw [eO]; omega))
        have HCN := hide (fun wx (hb : Below wV.heap.size wV wx) => HCB.out wx (some ⟨g2, 0, none⟩) cap8 _ (sN.below hb) kN (by rw [eN]; omega))
        rw [HO1'.out, eO] at HCO
        rw [HO2.out, eN] at HCN
        have HBV := hide (bl HB3.out (bl HB5.out (bl hbT hb10)))
        subst ha
        clear HPT sO sN kO kN eO eN hcell hfr hcell9 hfr9 hlc ho7 ho8 ho9 ho10 hv9 eL hb8 hb9 hb10 hbT hsT hs5 hnil hcp6 hcp8
        go_wp2_with fail
        refine HPT'.out.mono ?_
        rintro e x1 ⟨rfl, hx1⟩
        have HX1 := hide hx1
        clear hx1
        go_wp2_with fail
        refine (HCO.out _ HX1.out).mono ?_
        rintro e x2 ⟨rfl, hx2⟩
        have HX2 := hide (bl HX1.out hx2)
        clear hx2 HX1
        go_wp2_with fail
        refine (HCN.out _ HX2.out).mono ?_
        rintro e x3 ⟨rfl, hx3⟩
        have hbz := bl HBV.out (bl HX2.out hx3)
        clear hx3
        go_wp2
        go_ret
        exact ⟨rfl, hbz⟩

end Go.Proofs.Ytocelglgafmfnaa
