/-
  The document's own Scan and Same; the statements' own 'as', 'row' and 'shown'.
-/
import Derived.Test.YtdpkpcoadojkhaaDoorRefFrmW
import Derived.Test.YtdpkpcoadojkhaaDoorFrmScanW
import Derived.Test.YtdpkpcoadojkhaaDoorKinds
import Derived.BigQuiet
import Derived.Test.YtdpkpcoadojkhaaDoorGrow
namespace Go.Proofs.YtdpkpcoadojkhaaDoor
open Go.RowKit
open Frm (Fr)

def RScans (s : List UInt8) (e : Ending) (w' : World) (B : Nat) : Prop := ∃ v, e = .returned (.tuple #[v, .int .i64 ((total (Frm.scan s) : Nat) : Int)]) ∧ OwnF 31 w' B v (Frm.scan s)

theorem total_app (a b : List Fr) : total (a ++ b) = total a + total b := by unfold total; rw [Frm.bytes_app, List.length_append]
theorem total_one (f : Fr) : total [f] = Frm.size f := by unfold total; simp [Frm.bytes, Frm.size]
theorem fr_len : ∀ pre : List Fr, pre.length * 6 ≤ total pre
  | [] => Nat.le_refl _
  | y :: pre => by
    have h1 := fr_len pre
    have h2 := Frm.size_ge y
    unfold total at *
    rw [Frm.bytes_cons, List.length_append, List.length_cons]
    unfold Frm.size at h2
    omega

set_option maxRecDepth 100000 in
set_option maxHeartbeats 2000000 in
theorem rscan_any (s : List UInt8) (w : World) (hs : s.length ≤ 90000) :
    Calls Tryd.prog 16 #[.string (Num.bs s)] w fun e w' => RScans s e w' w.heap.size ∧ Below w.heap.size w w' := by
  obtain ⟨i0, hi, hz0, hz1, hz2⟩ := info_parts info_rfrm
  have hss : (Num.bs s).size = s.length := Num.bs_size _
  go_enter Tryd.func16, Tryd.ntmps16
  go_wp2
  go_loopw [4, 5] (fun v n wr => ∃ (pre : List Fr) (r : List UInt8), n = .int .i64 ((total pre : Nat) : Int) ∧ Hid (Frm.bytes pre ++ r = s) ∧ Hid (∀ f ∈ pre, Frm.Ok f) ∧ OwnF 31 wr w.heap.size v pre ∧ Below w.heap.size w wr)
    (fun _ n _ => s.length - (intOf n).toNat)
  case atStart => exact ⟨[], s, rfl, rfl, hide (fun f hf => by simp at hf), OwnF.nil _ _ _, Below.refl _ _⟩
  case round =>
    obtain ⟨pre, r, rfl, hx, hok, hown, hnx⟩ := hrel
    have hsz := hnx.size
    have hlen := congrArg List.length hx.out
    rw [List.length_append] at hlen
    have hpl := fr_len pre
    have htot : total pre = (Frm.bytes pre).length := rfl
    have htl : total pre ≤ s.length := by omega
    have he : (Num.bs s).extract (total pre) s.length = Num.bs r := by
      rw [extract_mid, ← hx.out, htot, List.drop_append_of_le_length (Nat.le_refl _), List.drop_length, List.nil_append, List.take_of_length_le (by simp)]
    have hrl : r.length ≤ maxLen := by unfold maxLen; omega
    clear hlen htot
    cases hf : Frm.first r with
    | none =>
      have HF : Hid (Frm.scan s = pre) := hide (Frm.scan_unique hx.out.symm hok.out hf)
      have HC := hide (fun wx => rfirst_any r wx hrl)
      unfold firstV at HC
      rw [hf] at HC
      unfold noneV at HC
      clear hf
      go_wp2_with fail
      refine (HC.out _).mono ?_
      rintro e w1 ⟨rfl, hb1⟩
      have hown2 := hown.below hb1
      have hb2 := bl hnx hb1
      go_wp2
      go_ret2
      exact ⟨⟨_, by rw [HF.out]; rfl, by rw [HF.out]; exact hown2.alloc _⟩, hb2.alloc hb2.size _⟩
    | some f =>
      obtain ⟨q, t⟩ := f
      obtain ⟨hfo, r', hr'⟩ := Frm.of_first hf
      have hzl := Frm.size_le hfo
      have hzg := Frm.size_ge (q, t)
      have hzr : Frm.size (q, t) ≤ r.length := by rw [hr', List.length_append]; unfold Frm.size; omega
      have HX2 : Hid (Frm.bytes (pre ++ [(q, t)]) ++ r' = s) := by
        show _ = _
        rw [← hx.out, hr', Frm.bytes_app]
        simp [Frm.bytes]
      have HOK : Hid (∀ f ∈ pre ++ [(q, t)], Frm.Ok f) := hide (fun f hf => by
        rcases List.mem_append.1 hf with h | h
        · exact hok.out f h
        · simp at h; subst h; exact hfo)
      have HTT : Hid (total (pre ++ [(q, t)]) = total pre + Frm.size (q, t)) := hide (by rw [total_app, total_one])
      have HTL : Hid (total pre + Frm.size (q, t) ≤ s.length) := hide (by
        have h1 := congrArg List.length hx.out
        rw [List.length_append] at h1
        unfold total; omega)
      have HC := hide (fun wx => rfirst_any r wx hrl)
      unfold firstV at HC
      rw [hf] at HC
      unfold someV fq fb fz at HC
      clear hf hr'
      go_wp2_with fail
      refine (HC.out _).mono ?_
      rintro e w1 ⟨rfl, hb1⟩
      have hown2 := (hown.below hb1).alloc (Obj.cells #[.int .u64 (q : Int), .string (Num.bs t), .int .i64 ((Frm.size (q, t) : Nat) : Int)] 31)
      have hb2 := bl hnx hb1
      have hb3 := hb2.alloc hb2.size (Obj.cells #[.int .u64 (q : Int), .string (Num.bs t), .int .i64 ((Frm.size (q, t) : Nat) : Int)] 31)
      have hnb : some w1.heap.size ≠ u4.ownBlock := fun e => by
        have := (World.ownsRow.lt (hown.below hb1) _ e.symm).2
        omega
      have hcell : ∀ o, ((w1.alloc (Obj.cells #[.int .u64 (q : Int), .string (Num.bs t), .int .i64 ((Frm.size (q, t) : Nat) : Int)] 31)).alloc o).cell? ⟨w1.heap.size, 2, none⟩ = some (.int .i64 ((Frm.size (q, t) : Nat) : Int)) := fun o => by
        rw [(fbel_alloc _ o).cell (p := ⟨w1.heap.size, 2, none⟩) (by simp)]; simp
      have hsz3 := hb3.size
      obtain ⟨x0, x1, x2, _⟩ := three_later (Below.refl (w1.alloc (Obj.cells #[.int .u64 (q : Int), .string (Num.bs t), .int .i64 ((Frm.size (q, t) : Nat) : Int)] 31)).heap.size _)
      have hs12 : w1.heap.size < (w1.alloc (Obj.cells #[.int .u64 (q : Int), .string (Num.bs t), .int .i64 ((Frm.size (q, t) : Nat) : Int)] 31)).heap.size := by simp
      unfold OwnF at hown2
      generalize hW2 : w1.alloc (Obj.cells #[.int .u64 (q : Int), .string (Num.bs t), .int .i64 ((Frm.size (q, t) : Nat) : Int)] 31) = w2 at hown2 hb3 hcell hsz3 x0 x1 x2 hs12
      clear hown hb2
      go_wp2_with (at_builtin; refine wpList_append_own _ rfl _ _ 37 rfl w.heap.size 31 i0 _ 3 32 Tryd.underlying37 hi hz0 hz1 hz2 rfl (by decide) _ _ _ rfl (hown2.alloc _) ⟨w2.heap.size, 0, none⟩ 1 1 [.int .u64 (q : Int), .string (Num.bs t), .int .i64 ((Frm.size (q, t) : Nat) : Int)] rfl rfl ?c1 ?c2 ?c3 ?c4 ?c5 ?_)
      case c1 => exact fcells_three_new _ _ _ _ _
      case c2 => intro u hu; exact fcells_one [(q, t)] u (by simpa [fcells, fq, fb, fz] using hu)
      case c3 => unfold maxLen; omega
      case c4 => omega
      case c5 => simp; omega
      intro v' w7 hown' hgrow _
      have R := ownf_step (f := (q, t)) rfl hsz3 (hown2.alloc _) hb3 hown' hgrow
      have hcell7 : w7.cell? ⟨w1.heap.size, 2, none⟩ = some (.int .i64 ((Frm.size (q, t) : Nat) : Int)) := hgrow.cell (hcell _) hnb
      clear hown2 hown' hgrow hb3 hcell x0 x1 x2
      have htl2 := HTL.out
      go_wp2
      go_roundw
      case rel => exact ⟨pre ++ [(q, t)], r', by rw [HTT.out, Int.natCast_add], HX2, HOK, R.1, R.2⟩
      case measure => simp only [intOf]; omega

theorem under_frm : Tryd.prog.underlying 31 = some (.struct (Tryd.prog.fieldsOf 31)) := by kernel_rfl
theorem fields_frm : ((Tryd.prog.fieldsOf 31).toList.map fun f => (f.name, f.type, f.offset)) = [("Seq", 22, 0), ("Body", 9, 1), ("Size", 3, 2)] := by kernel_rfl
theorem guard_frm (w : World) (x y : Operand) (xs ys : Array Value) : (eqGuard .neq 31 x y (.agg xs) (.agg ys)).run Tryd.prog w = .ok () w :=
  run_eqGuard_agg w .neq 31 x y xs ys (by kernel_rfl)
theorem neq_frm (w : World) (a c : Int) (b d : ByteArray) (e f : Int) : (binOp .neq 31 (.agg #[.int .u64 a, .string b, .int .i64 e]) (.agg #[.int .u64 c, .string d, .int .i64 f])).run Tryd.prog w = .ok (.bool (!(a == c && b.toList == d.toList && e == f))) w := by
  rw [run_neq_struct, run_equalIn_agg w 9999 31 _ _ under_frm (by kernel_rfl)]
  have h := fields_frm
  generalize (Tryd.prog.fieldsOf 31).toList = fs at h ⊢
  rw [List.map_eq_cons_iff] at h
  obtain ⟨f1, fs', rfl, hf, h⟩ := h
  rw [List.map_eq_cons_iff] at h
  obtain ⟨g, fs'', rfl, hg, h⟩ := h
  rw [List.map_eq_cons_iff] at h
  obtain ⟨k, fs3, rfl, hk, h⟩ := h
  rw [List.map_eq_nil_iff] at h
  subst h
  simp only [Prod.mk.injEq] at hf hg hk
  obtain ⟨n1, t1, o1⟩ := hf
  obtain ⟨n2, t2, o2⟩ := hg
  obtain ⟨n3, t3, o3⟩ := hk
  simp [Op.eqFields, n1, t1, o1, n2, t2, o2, n3, t3, o3, go_sem]
  by_cases h1 : a = c <;> by_cases h2 : b.toList = d.toList <;> by_cases h3 : e = f <;> simp [h1, h2, h3]

theorem fsame_step {la lb : List Fr} (hn : la.length = lb.length) {k : Nat} (hk : k < la.length) (h : la.take k = lb.take k) (e : la[k] = lb[k]) : la.take (k + 1) = lb.take (k + 1) := by
  rw [List.take_succ_eq_append_getElem hk, List.take_succ_eq_append_getElem (hn ▸ hk), h, e]
theorem fsame_bad {la lb : List Fr} (hn : la.length = lb.length) {k : Nat} (hk : k < la.length) (e : la[k] ≠ lb[k]'(hn ▸ hk)) : false = decide (la = lb) := by
  symm
  refine decide_eq_false fun h => e ?_
  subst h; rfl
theorem bs_inj {a b : List UInt8} (h : (Num.bs a).toList = (Num.bs b).toList) : a = b := by
  rwa [ByteArray.toList_eq, ByteArray.toList_eq, Num.bs_toList, Num.bs_toList] at h

set_option maxRecDepth 100000 in
set_option maxHeartbeats 1600000 in
theorem fsame_any (a : Option Addr) (ca : Nat) (la : List Fr) (b : Option Addr) (cb : Nat) (lb : List Fr) (w : World) (hp : FrmsAt w a la) (hq : FrmsAt w b lb) (hl : la.length ≤ 9223372036854775807) (_hl2 : lb.length ≤ 9223372036854775807) :
    Calls Tryd.prog 18 #[.slice a la.length ca, .slice b lb.length cb] w fun e w' => e = .returned (.bool (decide (la = lb))) ∧ Below w.heap.size w w' := by
  by_cases hn : la.length = lb.length
  · have HN := hide hn
    have HP := hide hp
    have HQ := hide hq
    rw [← hn]
    clear hp hq hn
    go_enter Tryd.func18, Tryd.ntmps18
    go_wp2
    go_loopw [5] (fun i wr => ∃ k : Nat, k ≤ la.length ∧ i = .int .i64 (k : Int) ∧ la.take k = lb.take k ∧ Below w.heap.size w wr)
      (fun i _ => la.length - (intOf i).toNat)
    case atStart => exact ⟨0, Nat.zero_le _, rfl, rfl, Below.refl _ _⟩
    case round =>
      obtain ⟨k, hk, rfl, hta, hnx⟩ := hrel
      have HT := hide hta
      clear hta
      by_cases hlt : k < la.length
      · obtain ⟨b1, off1, zn, zv, rfl, hbl1, hz, hc1, hc2, hc3⟩ := (unhide HP).get hnx hlt
        obtain ⟨b2, off2, yn, yv, rfl, hbl2, hy, hd1, hd2, hd3⟩ := (unhide HQ).get hnx (show k < lb.length by have := HN.out; omega)
        have HZ := hide hz
        have HY := hide hy
        clear hz hy
        have hki : (k : Int) < (la.length : Int) := by omega
        have hq1 := fun wx x y => guard_frm wx x y #[.int .u64 (zn : Int), .string (Num.bs zv), .int .i64 ((Frm.size (zn, zv) : Nat) : Int)] #[.int .u64 (yn : Int), .string (Num.bs yv), .int .i64 ((Frm.size (yn, yv) : Nat) : Int)]
        have hq2 := fun wx => neq_frm wx (zn : Int) (yn : Int) (Num.bs zv) (Num.bs yv) ((Frm.size (zn, zv) : Nat) : Int) ((Frm.size (yn, yv) : Nat) : Int)
        by_cases he : zn = yn ∧ zv = yv
        · have hb : (((zn : Int) == (yn : Int)) && (Num.bs zv).toList == (Num.bs yv).toList && ((Frm.size (zn, zv) : Nat) : Int) == ((Frm.size (yn, yv) : Nat) : Int)) = true := by simp [he.1, he.2]
          rw [hb] at hq2
          have HE : Hid (la[k] = lb[k]'(HN.out ▸ hlt)) := by rw [HZ.out, HY.out, he.1, he.2]; exact rfl
          clear hb he
          go_wp2_with fail
          go_quiet (fail)
          go_wp2
          go_roundw
          case rel => exact ⟨k + 1, by omega, by go_num, fsame_step HN.out hlt HT.out HE.out, fbelow_drewN hnx _⟩
          case measure => simp [intOf]; omega
        · have hb : (((zn : Int) == (yn : Int)) && (Num.bs zv).toList == (Num.bs yv).toList && ((Frm.size (zn, zv) : Nat) : Int) == ((Frm.size (yn, yv) : Nat) : Int)) = false := by
            refine Bool.eq_false_iff.2 fun h => he ?_
            simp only [Bool.and_eq_true, beq_iff_eq] at h
            exact ⟨by omega, bs_inj h.1.2⟩
          rw [hb] at hq2
          have HE : Hid (la[k] ≠ lb[k]'(HN.out ▸ hlt)) := by
            rw [HZ.out, HY.out]
            refine hide fun e => he ?_
            injection e with e1 e2
            rw [e1, e2]; exact ⟨rfl, rfl⟩
          clear hb he
          go_wp2_with fail
          go_quiet (fail)
          go_wp2
          go_ret
          exact ⟨fret_b (fsame_bad HN.out hlt HE.out), fbelow_drewN hnx _⟩
      · go_wp2
        go_ret
        refine ⟨fret_b (Eq.symm (decide_eq_true ?_)), hnx⟩
        have := HT.out
        rwa [List.take_of_length_le (by omega), List.take_of_length_le (by have := HN.out; omega)] at this
  · have hne : ((la.length : Int) == (lb.length : Int)) = false := beq_eq_false_iff_ne.2 (by omega)
    go_enter Tryd.func18, Tryd.ntmps18
    go_wp2
    go_ret
    exact ⟨fret_b (decide_eq_false (fun e => hn (by rw [e]))).symm, Below.refl _ _⟩
theorem fsame_yes (a : Option Addr) (ca : Nat) (la : List Fr) (b : Option Addr) (cb n : Nat) (w : World) (hp : FrmsAt w a la) (hq : FrmsAt w b la) (hn : n = la.length) (hl : la.length ≤ 9223372036854775807) :
    Calls Tryd.prog 18 #[.slice a la.length ca, .slice b n cb] w fun e w' => e = .returned (.bool true) ∧ Below w.heap.size w w' := by
  subst hn
  have := fsame_any a ca la b cb la w hp hq hl hl
  rwa [decide_eq_true rfl] at this

set_option maxRecDepth 100000 in
set_option maxHeartbeats 1600000 in
theorem as_any (a : Option Addr) (ca : Nat) (l : List Fr) (w : World) (hp : FrmsAt w a l) (hl : l.length ≤ 90000) :
    Calls Tryd.prog 19 #[.slice a l.length ca] w fun e w' => ∃ v, e = .returned v ∧ OwnF 31 w' w.heap.size v l ∧ Below w.heap.size w w' := by
  obtain ⟨i0, hi, hz0, hz1, hz2⟩ := info_parts info_rfrm
  have HP := hide hp
  clear hp
  go_enter Tryd.func19, Tryd.ntmps19
  go_wp2
  go_loopw [3, 4] (fun v i wr => ∃ k : Nat, k ≤ l.length ∧ i = .int .i64 (k : Int) ∧ OwnF 31 wr w.heap.size v (l.take k) ∧ Below w.heap.size w wr)
    (fun _ i _ => l.length - (intOf i).toNat)
  case atStart => exact ⟨0, Nat.zero_le _, rfl, by rw [List.take_zero]; exact OwnF.nil _ _ _, Below.refl _ _⟩
  case round =>
    obtain ⟨k, hk, rfl, hown, hnx⟩ := hrel
    have hsz := hnx.size
    by_cases hlt : k < l.length
    · obtain ⟨b, off, q, t, rfl, hbl, hz, hc1, hc2, hc3⟩ := (unhide HP).get hnx hlt
      have hki : (k : Int) < (l.length : Int) := by omega
      have HZ := hide hz
      have htk : (l.take k).length = k := by rw [List.length_take]; omega
      have HN : Hid (l.take (k + 1) = l.take k ++ [(q, t)]) := hide (by rw [List.take_succ_eq_append_getElem hlt, hz])
      have HTK := hide htk
      clear hz htk
      go_wp2_with fail
      refine wp_region_grow wr.heap.size [([0, 1, 2, 3, 4, 5, 6, 7, 8, 9, 10, 11, 12, 13, 14, 15, 16], 17)] [] [18, 19] (by kernel_rfl) (by kernel_rfl) (by kernel_rfl) (by kernel_rfl) ?_
      intro wq hbq
      simp only [stagesOf, getL, pickL]
      have hqs := hbq.size
      have inh : Nonempty (Gr wr.heap.size wq) := Gr.some _ wq
      have x1 : ∀ x : Gr wr.heap.size wq, x.w.cell? _ = _ := fun x => x.cell (Nat.lt_of_lt_of_le hbl hsz) ((hbq.cell (p := ⟨b, off + k * 3, none⟩) (Nat.lt_of_lt_of_le hbl hsz)).trans hc1)
      have x2 : ∀ x : Gr wr.heap.size wq, x.w.cell? _ = _ := fun x => x.cell (Nat.lt_of_lt_of_le hbl hsz) ((hbq.cell (p := ⟨b, off + k * 3 + 1, none⟩) (Nat.lt_of_lt_of_le hbl hsz)).trans hc2)
      have x3 : ∀ x : Gr wr.heap.size wq, x.w.cell? _ = _ := fun x => x.cell (Nat.lt_of_lt_of_le hbl hsz) ((hbq.cell (p := ⟨b, off + k * 3 + 2, none⟩) (Nat.lt_of_lt_of_le hbl hsz)).trans hc3)
      have hro := hown.below hbq
      have hnx2 := hnx.trans (hbq.mono hsz)
      clear hbq hc1 hc2 hc3 hown hnx
      refine wpG_stage ?_
      repeat (go_big_quiet_step (fail))
      refine wpQuiet_nil ?_
      clear x1 x2 x3 inh
      go_wp2
      refine OnTo.mk ((fbel_alloc wq _).mono hqs) (Nat.le_refl _) ?_
      refine wpG_last (wpQuiet_nil ?_)
      unfold OwnF at hro
      rw [HTK.out] at hro
      go_wp2_with (at_builtin; refine wpList_append_own _ rfl _ _ 37 rfl w.heap.size 31 i0 _ 3 32 Tryd.underlying37 hi hz0 hz1 hz2 rfl (by decide) _ _ _ rfl (hro.alloc _) ⟨wq.heap.size, 0, none⟩ 1 1 [.int .u64 (q : Int), .string (Num.bs t), .int .i64 ((Frm.size (q, t) : Nat) : Int)] rfl rfl ?c1 ?c2 ?c3 ?c4 ?c5 ?_)
      case c1 => exact fcells_three_new _ _ _ _ _
      case c2 => intro u hu; exact fcells_one [(q, t)] u (by simpa [fcells, fq, fb, fz] using hu)
      case c3 => unfold maxLen; omega
      case c4 => omega
      case c5 => simp; omega
      intro v' w4 hown' hgrow _
      have R := ownf_step (f := (q, t)) HTK.out.symm (show w.heap.size ≤ wq.heap.size by omega) (hro.alloc _) hnx2 hown' hgrow
      rw [← HN.out] at R
      clear hro hown' hgrow hnx2
      go_wp2
      go_roundw
      case rel => exact ⟨k + 1, by omega, by go_num, R.1, R.2⟩
      case measure => simp [intOf]; omega
    · have hlk : l.take k = l := List.take_of_length_le (by omega)
      rw [hlk] at hown
      go_wp2
      go_ret
      exact ⟨_, rfl, hown, hnx⟩

theorem as_n (a : Option Addr) (ca : Nat) (l : List Fr) (n : Nat) (w : World) (hp : FrmsAt w a l) (hn : n = l.length) (hl : l.length ≤ 90000) :
    Calls Tryd.prog 19 #[.slice a n ca] w fun e w' => ∃ v, e = .returned v ∧ OwnF 31 w' w.heap.size v l ∧ Below w.heap.size w w' := by
  subst hn; exact as_any a ca l w hp hl
theorem fsame_n (a : Option Addr) (ca : Nat) (la : List Fr) (m : Nat) (b : Option Addr) (cb n : Nat) (w : World) (hp : FrmsAt w a la) (hq : FrmsAt w b la) (hm : m = la.length) (hn : n = la.length) (hl : la.length ≤ 9223372036854775807) :
    Calls Tryd.prog 18 #[.slice a m ca, .slice b n cb] w fun e w' => e = .returned (.bool true) ∧ Below w.heap.size w w' := by
  subst hm; exact fsame_yes a ca la b cb n w hp hq hn hl

/-- Strings that lie in memory. -/
def StrsAt (w : World) (a : Option Addr) (zs : List ByteArray) : Prop :=
  ∀ i, i < zs.length → ∃ b off, a = some ⟨b, off, none⟩ ∧ b < w.heap.size ∧ ∀ j (h : j < zs.length), w.cell? ⟨b, off + j, none⟩ = some (.string zs[j])
theorem StrsAt.below {w w' : World} {a : Option Addr} {zs : List ByteArray} (h : StrsAt w a zs) (hb : Below w.heap.size w w') : StrsAt w' a zs := by
  intro i hi
  obtain ⟨b, off, ha, hbl, hc⟩ := h i hi
  have hsz := hb.size
  exact ⟨b, off, ha, by omega, fun j hj => (hb.cell (by exact hbl)).trans (hc j hj)⟩
theorem StrsAt.get {w wr : World} {a : Option Addr} {zs : List ByteArray} (h : StrsAt w a zs) (hnx : Below w.heap.size w wr) {k : Nat} (hk : k < zs.length) :
    ∃ b off z, a = some ⟨b, off, none⟩ ∧ b < w.heap.size ∧ zs[k] = z ∧ wr.cell? ⟨b, off + k, none⟩ = some (.string z) := by
  obtain ⟨b, off, ha, hbl, hc⟩ := h k hk
  exact ⟨b, off, _, ha, hbl, rfl, (hnx.cell (by exact hbl)).trans (hc k hk)⟩
/-- The slice that came in, as a list. -/
theorem strs_at {w : World} {a : Option Addr} {len cap : Nat} {zs : List ByteArray} (h : IsStrs w a len cap zs) : ∃ ls : List ByteArray, ls.length = len ∧ len ≤ maxLen ∧ StrsAt w a ls ∧ ∀ s ∈ ls, s.size ≤ maxLen := by
  obtain ⟨h1, h2, h3, h4⟩ := view_strs h
  refine ⟨zs.take len, by rw [List.length_take]; omega, h2, fun i hi => ?_, fun s hs => h4 s (List.mem_of_mem_take hs)⟩
  rw [List.length_take] at hi
  obtain ⟨b, off, ha, hb, hc⟩ := h3 i (by omega)
  refine ⟨b, off, ha, hb, fun j hj => ?_⟩
  rw [List.length_take] at hj
  rw [hc j (by omega), List.getElem_take]
  congr 2
  simp [List.getD, List.getElem?_eq_getElem (show j < zs.length by omega)]

/-- The frames of the statements' 'row'. -/
def rowF : Nat → List ByteArray → List Fr
  | _, [] => []
  | q, t :: r => (q % 18446744073709551616, t.data.toList.take 50) :: rowF (q + 1) r
theorem rowF_len : ∀ (q : Nat) (l : List ByteArray), (rowF q l).length = l.length
  | _, [] => rfl
  | q, t :: r => by simp [rowF, rowF_len (q + 1) r]
theorem rowF_at : ∀ (q : Nat) (l : List ByteArray) (k : Nat) (h : k < l.length), (rowF q l)[k]? = some ((q + k) % 18446744073709551616, l[k].data.toList.take 50)
  | q, t :: r, 0, _ => rfl
  | q, t :: r, k + 1, h => by
    have := rowF_at (q + 1) r k (by simpa using h)
    simp only [rowF, List.getElem?_cons_succ, List.getElem_cons_succ]
    rw [this, show q + 1 + k = q + (k + 1) by omega]
theorem rowF_ok : ∀ (q : Nat) (l : List ByteArray), ∀ f ∈ rowF q l, Frm.Ok f ∧ f.2.length ≤ 50
  | _, [], f, h => by simp [rowF] at h
  | q, t :: r, f, h => by
    simp only [rowF, List.mem_cons] at h
    rcases h with rfl | h
    · have := List.length_take_le 50 t.data.toList
      exact ⟨⟨Nat.mod_lt _ (by decide), by simp only; omega⟩, this⟩
    · exact rowF_ok (q + 1) r f h
theorem small_total : ∀ l : List Fr, (∀ f ∈ l, Frm.Ok f ∧ f.2.length ≤ 50) → total l ≤ 74 * l.length
  | [], _ => Nat.le_refl _
  | f :: l, h => by
    have h1 := small_total l (fun g hg => h g (List.mem_cons_of_mem _ hg))
    have h2 := h f (List.mem_cons_self ..)
    have h3 := Frm.size_eq f
    have h4 := Num.put_len10 h2.1.1
    have h5 := Num.put_len10 (n := f.2.length) (by have := h2.2; omega)
    have h6 := h2.2
    unfold total at *
    rw [Frm.bytes_cons, List.length_append, List.length_cons]
    unfold Frm.size at h3
    omega

set_option maxRecDepth 100000 in
set_option maxHeartbeats 3200000 in
theorem row_any (first : Nat) (a : Option Addr) (ca : Nat) (ls : List ByteArray) (w : World) (hp : StrsAt w a ls) (hl : ls.length ≤ maxLen) (hls : ∀ s ∈ ls, s.size ≤ maxLen) :
    Calls Tryd.prog 20 #[.int .u64 (first : Int), .slice a ls.length ca] w fun e w' => ∃ v, e = .returned (.tuple #[v, .string (Num.bs (Frm.bytes (rowF first (ls.take 20))))]) ∧ OwnF 31 w' w.heap.size v (rowF first (ls.take 20)) ∧ Below w.heap.size w w' := by
  obtain ⟨i0, hi, hz0, hz1, hz2⟩ := info_parts info_rfrm
  obtain ⟨F, hF⟩ : ∃ F, rowF first (ls.take 20) = F := ⟨_, rfl⟩
  have hFl : F.length = min 20 ls.length := by rw [← hF, rowF_len, List.length_take]
  have HFok : Hid (∀ f ∈ F, Frm.Ok f ∧ f.2.length ≤ 50) := hide (by rw [← hF]; exact rowF_ok _ _)
  have HFat : Hid (∀ k (h : k < ls.length), k < 20 → F[k]? = some ((first + k) % 18446744073709551616, ls[k].data.toList.take 50)) := hide (fun k h h20 => by
    rw [← hF, rowF_at _ _ k (by rw [List.length_take]; omega), List.getElem_take])
  rw [hF]
  have HP := hide hp
  have HLS := hide hls
  have HFl := hide hFl
  unfold maxLen at hl
  clear hp hF hls hFl
  go_enter Tryd.func20, Tryd.ntmps20
  go_wp2
  go_loopw [6, 7, 8] (fun v sv i wr => ∃ k : Nat, k ≤ F.length ∧ i = .int .i64 (k : Int) ∧ sv = .string (Num.bs (Frm.bytes (F.take k))) ∧ OwnF 31 wr w.heap.size v (F.take k) ∧ Below w.heap.size w wr)
    (fun _ _ i _ => F.length - (intOf i).toNat)
  case atStart => exact ⟨0, Nat.zero_le _, rfl, rfl, by rw [List.take_zero]; exact OwnF.nil _ _ _, Below.refl _ _⟩
  case round =>
    obtain ⟨k, hk, rfl, rfl, hown, hnx⟩ := hrel
    have hsz := hnx.size
    have hfl := HFl.out
    by_cases hlt : k < F.length
    · have hkl : k < ls.length := by omega
      have hk20 : k < 20 := by omega
      clear hfl
      obtain ⟨b, off, z, rfl, hbl, hz, hc1⟩ := (unhide HP).get hnx hkl
      have hzs : z.size ≤ maxLen := by rw [← hz]; exact HLS.out _ (List.getElem_mem _)
      have hFk := HFat.out k hkl hk20
      rw [hz] at hFk
      obtain ⟨q, hq⟩ : ∃ q, (first + k) % 18446744073709551616 = q := ⟨_, rfl⟩
      obtain ⟨t, ht⟩ : ∃ t, z.data.toList.take 50 = t := ⟨_, rfl⟩
      have hql : q < 18446744073709551616 := by omega
      have htl : t.length ≤ 50 := by rw [← ht]; exact List.length_take_le _ _
      have htl2 : (Num.bs t).size = t.length := Num.bs_size _
      rw [hq, ht] at hFk
      have hadd : IntKind.u64.wrap ((first : Int) + (k : Int)) = (q : Int) := by rw [IntKind.wrap_u64]; omega
      have HN : Hid (F.take (k + 1) = F.take k ++ [(q, t)]) := hide (by rw [List.take_add_one, hFk]; rfl)
      have HTK : Hid ((F.take k).length = k) := hide (by rw [List.length_take]; omega)
      have HTOT : (Num.bs (Frm.bytes (F.take k))).size ≤ 1480 := by
        have h1 := small_total (F.take k) (fun f hf => HFok.out f (List.mem_of_mem_take hf))
        rw [HTK.out] at h1
        rw [Num.bs_size]
        unfold total at h1; omega
      have HBN : Hid (Num.bs (Frm.bytes (F.take k)) ++ Num.bs (Frm.put (q, t)) = Num.bs (Frm.bytes (F.take (k + 1)))) := hide (by rw [HN.out, Frm.bytes_app, app_bs]; simp [Frm.bytes])
      have hps : (Num.bs (Frm.put (q, t))).size = Frm.size (q, t) := Num.bs_size _
      have hpl := Frm.size_le (f := (q, t)) ⟨hql, by simp only; omega⟩
      have hki : (k : Int) < (ls.length : Int) := by omega
      have hki20 : (k : Int) < 20 := by omega
      generalize Frm.bytes (F.take k) = bb at *
      clear hz hFk hq
      unfold maxLen at hzs
      by_cases hm : z.size ≤ 50
      · have hmi : (z.size : Int) ≤ 50 := by omega
        have hmin : min (z.size : Int) 50 = (z.size : Int) := by omega
        have he : z.extract 0 z.size = Num.bs t := by rw [← ht, extract_front, List.take_of_length_le (by simp), List.take_of_length_le (by simpa using hm)]
        clear ht
        go_wp2_with fail
        go_quiet (fail)
        have hbx := fbelow_drewN hnx nq
        have hown1 : OwnF 31 (wr.drewN nq) w.heap.size u6 (F.take k) := hown
        generalize wr.drewN nq = wa at *
        clear hown hnx hsz hc1
        go_wp2_with fail
        refine (rfput_ok q t _ hql (by omega)).mono ?_
        rintro e w1 ⟨rfl, hb1⟩
        have hown2 := hown1.below hb1
        have hb2 := bl hbx hb1
        have hsz1 := hb2.size
        unfold OwnF at hown2
        rw [HTK.out] at hown2
        clear hown1 hb1 hbx
        go_wp2_with (at_builtin; refine wpList_append_own _ rfl _ _ 37 rfl w.heap.size 31 i0 _ 3 32 Tryd.underlying37 hi hz0 hz1 hz2 rfl (by decide) _ _ _ rfl (hown2.alloc _) ⟨w1.heap.size, 0, none⟩ 1 1 [.int .u64 (q : Int), .string (Num.bs t), .int .i64 ((Frm.size (q, t) : Nat) : Int)] rfl rfl ?c1 ?c2 ?c3 ?c4 ?c5 ?_)
        case c1 => exact fcells_three_new _ _ _ _ _
        case c2 => intro u hu; exact fcells_one [(q, t)] u (by simpa [fcells, fq, fb, fz] using hu)
        case c3 => unfold maxLen; omega
        case c4 => omega
        case c5 => simp; omega
        intro v' w4 hown' hgrow _
        have R := ownf_step (f := (q, t)) HTK.out.symm hsz1 (hown2.alloc _) hb2 hown' hgrow
        rw [← HN.out] at R
        clear hown2 hown' hgrow hb2
        go_wp2
        rw [HBN.out]
        go_roundw
        case rel => exact ⟨k + 1, by omega, by go_num, rfl, R.1, R.2⟩
        case measure => simp [intOf]; omega
      · have hmi : ¬ (z.size : Int) ≤ 50 := by omega
        have hmin : min (z.size : Int) 50 = 50 := by omega
        have hme : (50 : Int) ≤ (z.size : Int) := by omega
        have hml : (50 : Int) < (z.size : Int) := by omega
        have hmn : 50 ≤ z.size := by omega
        have he : z.extract 0 50 = Num.bs t := by rw [← ht, extract_front]
        clear ht
        go_wp2_with fail
        go_quiet (fail)
        have hbx := fbelow_drewN hnx nq
        have hown1 : OwnF 31 (wr.drewN nq) w.heap.size u6 (F.take k) := hown
        generalize wr.drewN nq = wa at *
        clear hown hnx hsz hc1
        go_wp2_with fail
        refine (rfput_ok q t _ hql (by omega)).mono ?_
        rintro e w1 ⟨rfl, hb1⟩
        have hown2 := hown1.below hb1
        have hb2 := bl hbx hb1
        have hsz1 := hb2.size
        unfold OwnF at hown2
        rw [HTK.out] at hown2
        clear hown1 hb1 hbx
        go_wp2_with (at_builtin; refine wpList_append_own _ rfl _ _ 37 rfl w.heap.size 31 i0 _ 3 32 Tryd.underlying37 hi hz0 hz1 hz2 rfl (by decide) _ _ _ rfl (hown2.alloc _) ⟨w1.heap.size, 0, none⟩ 1 1 [.int .u64 (q : Int), .string (Num.bs t), .int .i64 ((Frm.size (q, t) : Nat) : Int)] rfl rfl ?e1 ?e2 ?e3 ?e4 ?e5 ?_)
        case e1 => exact fcells_three_new _ _ _ _ _
        case e2 => intro u hu; exact fcells_one [(q, t)] u (by simpa [fcells, fq, fb, fz] using hu)
        case e3 => unfold maxLen; omega
        case e4 => omega
        case e5 => simp; omega
        intro v' w4 hown' hgrow _
        have R := ownf_step (f := (q, t)) HTK.out.symm hsz1 (hown2.alloc _) hb2 hown' hgrow
        rw [← HN.out] at R
        clear hown2 hown' hgrow hb2
        go_wp2
        rw [HBN.out]
        go_roundw
        case rel => exact ⟨k + 1, by omega, by go_num, rfl, R.1, R.2⟩
        case measure => simp [intOf]; omega
    · have hfk : F.take k = F := List.take_of_length_le (by omega)
      rw [hfk] at hown
      rw [hfk]
      by_cases hk2 : k < ls.length
      · have hk20 : ¬ (k : Int) < 20 := by omega
        go_wp2
        go_ret2
        exact ⟨_, rfl, hown, hnx⟩
      · go_wp2
        go_ret2
        exact ⟨_, rfl, hown, hnx⟩

def exL : List UInt8 := [2, 5, 250, 203, 56, 72, 97, 98]
theorem ex_fput : Frm.put (5, [97, 98]) = exL := by decide +kernel
theorem ex_size : Frm.size (5, [97, 98]) = 8 := by unfold Frm.size; rw [ex_fput]; rfl
theorem ex_first : Frm.first exL = some (5, [97, 98]) := by rw [← ex_fput]; exact Frm.first_put0 ⟨by decide, by decide⟩
theorem ex_put (w : World) (hT : Tab w) : Calls Tryd.prog 11 #[.int .u64 5, .string ⟨#[97, 98]⟩] w fun e w' => e = .returned (.tuple #[.string ⟨#[2, 5, 250, 203, 56, 72, 97, 98]⟩, .int .i64 0]) ∧ Below w.heap.size w w' := by
  have := fput_ok 5 [97, 98] w (by decide) (by decide) hT
  rwa [ex_fput] at this
theorem ex_take (w : World) (hT : Tab w) : Calls Tryd.prog 13 #[.string ⟨#[2, 5, 250, 203, 56, 72, 97, 98]⟩] w fun e w' => e = .returned (.tuple #[.agg #[.int .u64 5, .string ⟨#[97, 98]⟩, .int .i64 8], .int .i64 0]) ∧ Below w.heap.size w w' := by
  have := ffirst_any exL w (by decide) hT
  have hv : firstV exL = .tuple #[.agg #[.int .u64 5, .string ⟨#[97, 98]⟩, .int .i64 8], .int .i64 0] := by
    unfold firstV
    rw [ex_first]
    show Value.tuple #[.agg #[fq (5, [97, 98]), fb (5, [97, 98]), .int .i64 ((Frm.size (5, [97, 98]) : Nat) : Int)], .int .i64 0] = _
    rw [ex_size]
    rfl
  rwa [hv] at this

set_option maxRecDepth 100000 in
set_option maxHeartbeats 800000 in
theorem fshown_any (w : World) (hT : Tab w) : Calls Tryd.prog 10 #[] w fun e w' => e = .returned (.bool true) ∧ Below w.heap.size w w' := by
  have HT := hide hT
  clear hT
  have k1 : (⟨#[2, 5, 250, 203, 56, 72, 97, 98]⟩ : ByteArray).extract 0 2 = ⟨#[2, 5]⟩ := by rfl
  have k2 : (⟨#[2, 5, 250, 203, 56, 72, 97, 98]⟩ : ByteArray).extract 6 8 = ⟨#[97, 98]⟩ := by rfl
  go_enter Tryd.func10, Tryd.ntmps10
  go_wp2_with fail
  refine (ex_put _ HT.out).mono ?_
  rintro e w1 ⟨rfl, hb1⟩
  go_wp2_with fail
  refine (ex_take _ (HT.out.below hb1)).mono ?_
  rintro e w2 ⟨rfl, hb2⟩
  have hb3 := bl hb1 hb2
  clear hb1 hb2
  go_wp2
  go_ret
  exact ⟨rfl, hb3.alloc hb3.size _⟩
end Go.Proofs.YtdpkpcoadojkhaaDoor
