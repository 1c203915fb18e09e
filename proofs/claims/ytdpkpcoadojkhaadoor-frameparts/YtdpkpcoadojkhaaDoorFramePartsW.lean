/-
  FrameParts: the walk.
-/
import Derived.Test.YtdpkpcoadojkhaaDoorFrmOfW
import Derived.Test.YtdpkpcoadojkhaaDoorGrow
namespace Go.Proofs.YtdpkpcoadojkhaaDoor
open Go.RowKit
open Frm (Fr)

theorem scan_total (s : List UInt8) : total (Frm.scan s) ≤ s.length ∧ s.take (total (Frm.scan s)) = Frm.bytes (Frm.scan s) ∧ ∀ f ∈ Frm.scan s, Frm.Ok f := by
  obtain ⟨h1, r, h2, _⟩ := Frm.scan_of s.length s (Nat.le_refl _)
  have h3 := congrArg List.length h2
  rw [List.length_append] at h3
  refine ⟨by unfold total; omega, ?_, h1⟩
  generalize Frm.scan s = A at *
  rw [h2]
  unfold total
  rw [List.take_append_of_le_length (Nat.le_refl _), List.take_length]

/-- 'append(own, src...)', as a run. -/
theorem run_appR (w : World) (B : Nat) (ty : TypeId) (v : Value) (ps : List Fr) (hown : OwnF 31 w B v ps) (a : Option Addr) (c : Nat) (ms : List Fr) (hm : FrmsAt w a ms) (hnil : a = none → c = 0) (hlen : ps.length + ms.length ≤ 1000) (hB : B ≤ w.heap.size) :
    ∃ v' w', (Builtin.append_ #[37, 37] ty #[v, .slice a ms.length c]).run Tryd.prog w = .ok v' w' ∧ OwnF 31 w' B v' (ps ++ ms) ∧ w.grownBy w' v.ownBlock := by
  obtain ⟨i0, hi, hz0, hz1, hz2⟩ := info_parts info_rfrm
  cases a with
  | none =>
    have h0 : ms = [] := by
      cases ms with
      | nil => rfl
      | cons x r =>
        obtain ⟨b, off, hx, _⟩ := hm 0 (by simp)
        cases hx
    subst h0
    rw [hnil rfl]
    refine ⟨v, w, run_append_owned_none (P := Tryd.prog) (w := w) B 37 ty 31 i0 3 Tryd.underlying37 hi v ps.length (fcells ps) hown, by rw [List.append_nil]; exact hown, ⟨rfl, rfl, rfl, Nat.le_refl _, fun _ _ _ => rfl⟩⟩
  | some x =>
    obtain ⟨v', w', h1, h2, h3, _⟩ := run_append_own (P := Tryd.prog) w B 37 ty 31 i0 _ 3 32 Tryd.underlying37 hi hz0 hz1 hz2 rfl (by decide) v ps.length (fcells ps) hown x ms.length c (fcells ms) (fcells_len ms) (frms_cells hm) (fcells_one ms) (by unfold maxLen; omega) (by omega) hB
    refine ⟨v', w', h1, ?_, h3⟩
    unfold OwnF
    rw [fcells_app, List.length_append]
    exact h2
theorem wpList_appR {ops : Array Oper} {rest : List Oper} {o : Oper} {a : Act} {w : World} {Q : Exit → Act → World → Prop} (hgd : Region.wanted o (yielded ops a.tmps) = true) (s x : Operand)
    (ho : o.op = .call { callee := .builtin .append, args := #[s, x], argTypes := #[37, 37] })
    (B : Nat) (v : Value) (ps : List Fr) (hs : a.eval s = v) (hown : OwnF 31 w B v ps) (ao : Option Addr) (c k : Nat) (ms : List Fr) (hx : a.eval x = .slice ao k c) (hk : k = ms.length)
    (hm : FrmsAt w ao ms) (hnil : ao = none → c = 0) (hlen : ps.length + ms.length ≤ 1000) (hB : B ≤ w.heap.size)
    (h : ∀ v' w', OwnF 31 w' B v' (ps ++ ms) → w.grownBy w' v.ownBlock → wpList Tryd.prog ops Q rest (a.put o.dst v') w') :
    wpList Tryd.prog ops Q (o :: rest) a w := by
  subst hk
  obtain ⟨v', w', hr, h2, h3⟩ := run_appR w B o.type v ps hown ao c ms hm hnil hlen hB
  refine wpList_step fun K hK => ?_
  rw [if_pos hgd]
  unfold Oper.wp execOp
  simp only [ho, resolve, invoke, builtin, Sem.run_bind, Sem.run_pure, Result.andThen_ok, List.map_toArray, List.map_cons, List.map_nil, hs, hx, hr]
  exact hK _ _ (h v' w' h2 h3)
theorem ownF_empty {w : World} {B g : Nat} (h : w.heap[g]? = some (.cells #[] 31 (0, 0))) (hB : B ≤ g) : OwnF 31 w B (.slice (some ⟨g, 0, none⟩) 0 0) [] :=
  ⟨rfl, .inr ⟨g, 0, #[], rfl, hB, h, Nat.le_refl _, Nat.zero_le _, rfl, rfl⟩⟩
/-- A row, behind an append to another one. -/
theorem FrmsAt.grown {w w' : World} {row : Option Nat} {a : Option Addr} {ss : List Fr} (h : FrmsAt w a ss) (hg : w.grownBy w' row) (hne : ∀ b, row = some b → ∀ x, a = some x → x.block ≠ b) : FrmsAt w' a ss := by
  intro i hi
  obtain ⟨b, off, ha, hbl, hc⟩ := h i hi
  have hsz := hg.size
  have hb : w'.heap[b]? = w.heap[b]? := hg.block b hbl (fun e => hne b e.symm ⟨b, off, none⟩ ha rfl)
  exact ⟨b, off, ha, by omega, fun j hj => ⟨(World.cell?_of_block (a := ⟨b, off + j * 3, none⟩) hb).trans (hc j hj).1, (World.cell?_of_block (a := ⟨b, off + j * 3 + 1, none⟩) hb).trans (hc j hj).2.1, (World.cell?_of_block (a := ⟨b, off + j * 3 + 2, none⟩) hb).trans (hc j hj).2.2⟩⟩

set_option maxRecDepth 100000 in
set_option maxHeartbeats 3200000 in
theorem walkFrameParts (x : Int) (a : Option Addr) (len cap : Nat) (zs : List ByteArray) (s0 : ByteArray) (w : World) (hx : 0 ≤ x ∧ x ≤ 18446744073709551615) (hl : IsStrs w a len cap zs) (hs : s0.size ≤ maxLen) (hT : Tab w) :
    Calls Tryd.prog 7 #[.int .u64 x, .slice a len cap, .string s0] w fun e w' => e = .returned (.bool true) ∧ Below w.heap.size w w' := by
  obtain ⟨first, rfl⟩ := Int.eq_ofNat_of_zero_le hx.1
  have HT := hide hT
  obtain ⟨ls, rfl, hlm, hst, hls⟩ := strs_at hl
  unfold maxLen at hlm hs
  by_cases h2 : s0.size ≤ 2000
  · obtain ⟨s, rfl⟩ : ∃ s, s0 = Num.bs s := ⟨s0.data.toList, (Num.bs_of s0).symm⟩
    rw [Num.bs_size] at h2
    have hss : (Num.bs s).size = s.length := Num.bs_size _
    have HR := hide (fun wx (hb : Below w.heap.size w wx) => row_any first a cap ls wx (hst.below hb) (by unfold maxLen; omega) hls)
    obtain ⟨F, hF⟩ : ∃ F, rowF first (ls.take 20) = F := ⟨_, rfl⟩
    have HFok : Hid (∀ f ∈ F, Frm.Ok f ∧ f.2.length ≤ 50) := hide (by rw [← hF]; exact rowF_ok _ _)
    have hFl : F.length ≤ 20 := by rw [← hF, rowF_len, List.length_take]; omega
    rw [hF] at HR
    have htot := small_total F HFok.out
    have hbl : (Num.bs (Frm.bytes F)).size = total F := Num.bs_size _
    have HS1 := hide (fun wx hTx => scan_any s wx (by omega) hTx)
    have hsc : Frm.scan (Frm.bytes F ++ s) = F ++ Frm.scan s := Frm.scan_bytes F s (fun f hf => (HFok.out f hf).1)
    have HS2 := hide (fun wx hTx => scan_any (Frm.bytes F ++ s) wx (by rw [List.length_append]; unfold total at htot; omega) hTx)
    unfold Scans at HS1 HS2
    rw [hsc, ← app_bs] at HS2
    obtain ⟨hA1, hA2, hA3⟩ := scan_total s
    have hAl := fr_len (Frm.scan s)
    have htm : total (F ++ Frm.scan s) = total (Frm.scan s) + total F := by rw [total_app, Nat.add_comm]
    rw [htm] at HS2
    have he : (Num.bs s).extract 0 (total (Frm.scan s)) = Num.bs (Frm.bytes (Frm.scan s)) := by rw [extract_mid]; exact congrArg Num.bs hA2
    have HOK := hide hA3
    clear htm hA2 hA3 hsc hF hst hls hl hT hx
    generalize Frm.scan s = A at *
    go_enter Tryd.func7, Tryd.ntmps7
    go_wp2_with fail
    refine (fshown_any _ HT.out).mono ?_
    rintro e w1 ⟨rfl, hb1⟩
    go_wp2_with fail
    refine (HR.out _ hb1).mono ?_
    rintro e w2 ⟨v, rfl, hvo, hb2⟩
    have hb3 := bl hb1 hb2
    have HV := hide (hvo.mono hb1.size)
    clear hb1 hb2 hvo HR
    go_wp2_with fail
    refine (HS1.out _ (HT.out.below hb3)).mono ?_
    rintro e w4 ⟨⟨av, rfl, hao⟩, hb4⟩
    have hb5 := bl hb3 hb4
    have HV := hide (HV.out.below hb4)
    have HA := hide (hao.mono hb3.size)
    clear hb3 hb4 hao HS1
    go_wp2_with fail
    refine (HS2.out _ (HT.out.below hb5)).mono ?_
    rintro e w6 ⟨⟨bv, rfl, hbo⟩, hb6⟩
    have hb7 := bl hb5 hb6
    have HV := hide (HV.out.below hb6)
    have HA := hide (HA.out.below hb6)
    have HB := hide (hbo.mono hb5.size)
    clear hb5 hb6 hbo HS2
    obtain ⟨va, vc, rfl, hvc, hvp, hvn⟩ := HV.out.view
    obtain ⟨aa, ac, rfl, hac, hap, han⟩ := HA.out.view
    obtain ⟨ba, bc, rfl, hbc, hbp, hbn⟩ := HB.out.view
    have HVP := hide hvp
    have HAP := hide hap
    have HBP := hide hbp
    clear hvp hap hbp
    have k1 : decide (((total A : Nat) : Int) < 0) = false := decide_eq_false (by omega)
    have k2 : decide (s.length < total A) = false := decide_eq_false (by omega)
    have k3 : decide ((s.length : Int) < ((total A : Nat) : Int)) = false := decide_eq_false (by omega)
    go_wp2_with fail
    refine (as_n ba bc (F ++ A) _ w6 HBP.out (by rw [List.length_append]) (by rw [List.length_append]; omega)).mono ?_
    rintro e w8 ⟨bv2, rfl, hbo2, hb8⟩
    have hb9 := bl hb7 hb8
    have HV := hide (HV.out.below hb8)
    have HA := hide (HA.out.below hb8)
    have HVP := hide (HVP.out.below hb8)
    have HAP := hide (HAP.out.below hb8)
    have HB2 := hide (hbo2.mono hb7.size)
    have hz8 := hb9.size
    clear hb7 hb8 hbo2
    obtain ⟨b2a, b2c, rfl, hb2c, hb2p, _⟩ := HB2.out.view
    have HB2P := hide hb2p
    clear hb2p
    have hoe : OwnF 31 (w8.alloc (Obj.cells #[] 31)) w8.heap.size (.slice (some ⟨w8.heap.size, 0, none⟩) 0 0) [] := ownF_empty (World.alloc_heap_new _ _) (Nat.le_refl _)
    have hvp8 := HVP.out.below (fbel_alloc w8 (Obj.cells #[] 31))
    go_wp2_with (at_builtin; refine wpList_appR rfl _ _ rfl w8.heap.size _ [] rfl hoe va vc F.length F rfl rfl hvp8 hvn (by simp; omega) (by simp) ?_; intro v1 w10 hv1 hg1)
    have hB10 : Below w8.heap.size w8 w10 := (fbel_alloc w8 _).grown hg1 (by simp) (fun k e => by cases e; exact Nat.le_refl _)
    have hz10 := hB10.size
    clear hoe hvp8 hg1
    refine (as_any aa ac A w10 (HAP.out.below hB10) (by omega)).mono ?_
    rintro e w11 ⟨a2v, rfl, ha2, hb11⟩
    obtain ⟨a2a, a2c, rfl, ha2c, ha2p, ha2n⟩ := ha2.view
    have hv11 := hv1.below hb11
    have hB11 := hB10.trans (hb11.mono hz10)
    have hz11 := hB11.size
    clear hv1 hB10 hb11 ha2
    go_wp2_with (at_builtin; refine wpList_appR rfl _ _ rfl w8.heap.size v1 F rfl hv11 a2a a2c A.length A rfl rfl ha2p ha2n (by omega) hz11 ?_; intro v2 w12 hv2 hg2)
    have hB12 : Below w8.heap.size w8 w12 := hB11.grown hg2 (by omega) (fun k e => (World.ownsRow.lt hv11 k e).1)
    have hb12 := bl hb9 hB12
    have HB2P := hide (HB2P.out.below hB12)
    have HAP := hide (HAP.out.below hB12)
    obtain ⟨v2a, v2c, rfl, hv2c, hv2p, _⟩ := hv2.view
    have HV2P := hide hv2p
    clear hv2p hv2 hg2 hv11 hB11 hB12 ha2p hb9
    refine (fsame_n b2a b2c (F ++ A) _ v2a v2c _ w12 HB2P.out HV2P.out (by simp) (by simp) (by rw [List.length_append]; omega)).mono ?_
    rintro e w13 ⟨rfl, hb13⟩
    have hb14 := bl hb12 hb13
    have HAP := hide (HAP.out.below hb13)
    clear hb12 hb13
    go_wp2_with fail
    go_loopw [14, 15] (fun u i wr => ∃ j : Nat, j ≤ A.length ∧ i = .int .i64 (j : Int) ∧ u = .string (Num.bs (Frm.bytes (A.take j))) ∧ Below w13.heap.size w13 wr)
      (fun _ i _ => A.length - (intOf i).toNat)
    case atStart => exact ⟨0, Nat.zero_le _, rfl, rfl, Below.refl _ _⟩
    case round =>
      obtain ⟨j, hj, rfl, rfl, hnx⟩ := hrel
      by_cases hlt : j < A.length
      · obtain ⟨b, off, q, t, rfl, hbl2, hz, h1, h3, h4⟩ := HAP.out.get hnx hlt
        have hok := HOK.out A[j] (List.getElem_mem _)
        rw [hz] at hok
        have hki : (j : Int) < (A.length : Int) := by omega
        have HN : Hid (A.take (j + 1) = A.take j ++ [(q, t)]) := hide (by rw [List.take_succ_eq_append_getElem hlt, hz])
        have HTL : (Num.bs (Frm.bytes (A.take j))).size ≤ 2000 := by
          have h5 : Frm.bytes A = Frm.bytes (A.take j) ++ Frm.bytes (A.drop j) := by rw [← Frm.bytes_app, List.take_append_drop]
          have h6 := congrArg List.length h5
          rw [List.length_append] at h6
          rw [Num.bs_size]
          unfold total at hA1; omega
        have HBN : Hid (Num.bs (Frm.bytes (A.take j)) ++ Num.bs (Frm.put (q, t)) = Num.bs (Frm.bytes (A.take (j + 1)))) := hide (by rw [HN.out, Frm.bytes_app, app_bs]; simp [Frm.bytes])
        have hps : (Num.bs (Frm.put (q, t))).size = Frm.size (q, t) := Num.bs_size _
        have hzl := Frm.size_le hok
        have hzb := hnx.size
        generalize Frm.bytes (A.take j) = bb at *
        clear hz
        go_wp2_with fail
        refine wp_region_grow wr.heap.size [([0, 1, 2, 3, 4, 5, 6, 7, 8, 9], 10)] [11, 12, 13, 14, 15] [] (by kernel_rfl) (by kernel_rfl) (by kernel_rfl) (by kernel_rfl) ?_
        intro wq hbq
        simp only [stagesOf, getL, pickL]
        have hqs := hbq.size
        have inh : Nonempty (Gr wr.heap.size wq) := Gr.some _ wq
        have h1 := (hbq.cell (p := ⟨b, off + j * 3, none⟩) (Nat.lt_of_lt_of_le hbl2 hzb)).trans h1
        have h3 := (hbq.cell (p := ⟨b, off + j * 3 + 1, none⟩) (Nat.lt_of_lt_of_le hbl2 hzb)).trans h3
        have h4 := (hbq.cell (p := ⟨b, off + j * 3 + 2, none⟩) (Nat.lt_of_lt_of_le hbl2 hzb)).trans h4
        have x1 : ∀ x : Gr wr.heap.size wq, x.w.cell? _ = _ := fun x => x.cell (Nat.lt_of_lt_of_le hbl2 hzb) h1
        have x3 : ∀ x : Gr wr.heap.size wq, x.w.cell? _ = _ := fun x => x.cell (Nat.lt_of_lt_of_le hbl2 hzb) h3
        have hnx := bl hnx hbq
        have hbq1 := bl hb14 hnx
        refine wpG_stage ?_
        repeat (go_big_quiet_step (fail))
        refine wpQuiet_nil ?_
        clear inh hbq x1 x3
        go_wp2_with fail
        refine (fput_ok q t _ hok.1 hok.2 (HT.out.below hbq1)).mono ?_
        rintro e w15 ⟨rfl, hb15⟩
        have h4 := (hb15.cell (p := ⟨b, off + j * 3 + 2, none⟩) (Nat.lt_of_lt_of_le hbl2 hnx.size)).trans h4
        have hnx := bl hnx hb15
        clear hbq1
        go_wp2
        refine OnTo.mk (hb15.mono hqs) (Nat.le_refl _) ?_
        clear hb15
        have inh : Nonempty (Gr wr.heap.size w15) := Gr.some _ w15
        refine wpG_last ?_
        repeat (go_big_quiet_step (fail))
        refine wpQuiet_nil ?_
        clear inh
        go_wp2
        rw [HBN.out]
        go_roundw
        case rel => exact ⟨j + 1, by omega, by go_num, rfl, hnx⟩
        case measure => simp [intOf]; omega
      · have hfk : A.take j = A := List.take_of_length_le (by omega)
        rw [hfk]
        have hq : ((Num.bs (Frm.bytes A)).toList == (Num.bs (Frm.bytes A)).toList) = true := by simp
        have kt : ((total A : Nat) : Int) ≤ (s.length : Int) := by omega
        go_wp2
        go_ret
        exact ⟨rfl, bl hb14 hnx⟩
  · go_enter Tryd.func7, Tryd.ntmps7
    go_wp2_with fail
    refine (fshown_any _ HT.out).mono ?_
    rintro e w1 ⟨rfl, hb1⟩
    go_wp2
    go_ret
    exact ⟨rfl, hb1⟩
end Go.Proofs.YtdpkpcoadojkhaaDoor
