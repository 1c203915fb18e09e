/-
  A file that is cut.
-/
import Derived.Test.YtpbiongoigbmpaaGreatDskFileW
import Derived.Test.YtpbiongoigbmpaaGreatGrowK
namespace Go.Proofs.YtpbiongoigbmpaaGreat
open Go.RowKit
open Dsk (Nm Hold Fl Ct By)

theorem uu8 : Tryz.prog.underlying 5 = some (.int .u8) := by kernel_rfl
theorem conv_none (w : World) (a : Option Addr) (c : Nat) : (convert 71 9 (.slice a 0 c)).run Tryz.prog w = .ok (.string ByteArray.empty) w := by
  cases a with
  | none =>
    rw [run_convert_bytes_string w _ _ 5 none 0 c ubytes uu8 ustr]
    simp [Conv.bytesToString]
  | some a => exact run_convert_bytes_back (P := Tryz.prog) w 71 9 5 a c [] ubytes uu8 ustr (fun j hj => by simp at hj)
/-- 'string(text[n:])'. -/
theorem conv_from {w : World} {g : Nat} {cur : Array Value} {t : By} (h : w.heap[g]? = some (.cells cur 5 (0, 0))) (ht : cur.toList.take t.length = bytesV t) (n c : Nat) :
    (convert 71 9 (.slice (some ⟨g, n, none⟩) (t.length - n) c)).run Tryz.prog w = .ok (.string (Num.bs (t.drop n))) w := by
  have := run_convert_bytes_back (P := Tryz.prog) w 71 9 5 ⟨g, n, none⟩ c (t.drop n) ubytes uu8 ustr (fun j hj => by
    rw [List.length_drop] at hj
    have e : (⟨g, n, none⟩ : Addr).add j = ⟨g, n + j, none⟩ := Addr.add_lit ..
    rw [e, List.getElem_drop]
    refine cell_of h (n + j) ?_
    have h1 : (cur.toList.take t.length)[n + j]? = some (.int .u8 ((t[n + j]'(by omega)).toNat : Int)) := by rw [ht]; simp [bytesV, show n + j < t.length by omega]
    rw [List.getElem?_take_of_lt (by omega)] at h1
    simpa using h1)
  rw [List.length_drop] at this
  exact this

theorem ubytesE : Tryz.prog.underlying 71 = some (.slice (Tryz.prog.elem 71)) := by kernel_rfl
theorem elem_bytes : Tryz.prog.elem 71 = 5 := by kernel_rfl
theorem size_u8 (w : World) : (sizeOf 5).run Tryz.prog w = .ok 1 w := by
  obtain ⟨i, hi, _, hs, _⟩ := u8_info
  simp [sizeOf, typeInfo, hi, hs]
/-- 'text[n:]', 'text[:n]'. -/
theorem slice_from (a : Option Addr) (l c n : Nat) (h : n ≤ l) (w : World) : (Instr.slice 71 (.slice a l c) (some (.int .i64 (n : Int))) none none).run Tryz.prog w = .ok (.slice (if c = n then a else a.map (·.add n)) (l - n) (c - n)) w := by
  rw [run_slice_l (P := Tryz.prog) w 71 a l c ubytesE .i64 (n : Int) (by omega) (by omega), elem_bytes, size_u8]
  simp [Result.andThen, sliced]
theorem slice_upto (a : Option Addr) (l c n : Nat) (h : n ≤ c) (w : World) : (Instr.slice 71 (.slice a l c) none (some (.int .i64 (n : Int))) none).run Tryz.prog w = .ok (.slice a n c) w := by
  rw [run_slice_h (P := Tryz.prog) w 71 a l c ubytesE .i64 (n : Int) (by omega) (by omega), elem_bytes, size_u8]
  simp only [Result.andThen, sliced, Int.toNat_natCast, Nat.sub_zero, Result.ok.injEq, Value.slice.injEq, and_true]
  split
  · rfl
  · cases a with
    | none => rfl
    | some a => cases a; simp [Addr.add]
/-- The first n of bytes in a row. -/
theorem TextAt.take {w : World} {a : Option Addr} {l c : Nat} {t : By} (h : TextAt w (.slice a l c) t) {n : Nat} (hn : n ≤ t.length) : TextAt w (.slice a n c) (t.take n) ∧ rowB (.slice a n c) = rowB (.slice a l c) := by
  rcases h with ⟨rfl, a', e, hsp⟩ | ⟨g, cap, cur, e, h1, h2, h3, h4, h5⟩
  · simp only [Value.slice.injEq] at e
    obtain ⟨rfl, rfl, rfl⟩ := e
    have hn0 : n = 0 := by simpa using hn
    subst hn0
    exact ⟨.inl ⟨rfl, _, rfl, hsp⟩, rfl⟩
  · simp only [Value.slice.injEq] at e
    obtain ⟨rfl, rfl, rfl⟩ := e
    have e1 : (t.take n).length = n := by rw [List.length_take]; omega
    refine ⟨.inr ⟨g, cap, cur, by rw [e1], h1, by omega, h3, h4, ?_⟩, rfl⟩
    rw [e1]
    have := congrArg (List.take n) h5
    rw [List.take_take, show min n t.length = n by omega] at this
    rw [this]
    simp [bytesV, List.map_take]
theorem TextAt.conv {w : World} {a : Option Addr} {l c : Nat} {t : By} (h : TextAt w (.slice a l c) t) {n : Nat} (hn : n ≤ t.length) (W : World) (hW : ∀ b, rowB (.slice a l c) = some b → W.heap[b]? = w.heap[b]?) :
    (convert 71 9 (.slice (if c = n then a else a.map (·.add n)) (l - n) (c - n))).run Tryz.prog W = .ok (.string (Num.bs (t.drop n))) W := by
  rcases h with ⟨rfl, a', e, hsp⟩ | ⟨g, cap, cur, e, h1, h2, h3, h4, h5⟩
  · simp only [Value.slice.injEq] at e
    obtain ⟨rfl, rfl, rfl⟩ := e
    rw [Nat.zero_sub, conv_none]
    simp [Num.bs]
    rfl
  · simp only [Value.slice.injEq] at e
    obtain ⟨rfl, rfl, rfl⟩ := e
    by_cases hc : cap + 1 = n
    · rw [if_pos hc, show t.length - n = 0 by omega, conv_none, List.drop_of_length_le (by omega)]
      simp [Num.bs]
      rfl
    · rw [if_neg hc]
      simp only [Option.map_some]
      rw [show (⟨g, 0, none⟩ : Addr).add n = ⟨g, n, none⟩ by rw [Addr.add_lit, Nat.zero_add]]
      exact conv_from ((hW g rfl).trans h1) h5 n _
theorem cut_info : ∃ i, Tryz.prog.info? 109 = some i ∧ i.zero = some (.agg #[.int .i64 0, .string ByteArray.empty]) ∧ i.size = 2 ∧ i.bytes = 24 := by
  have h : (Tryz.prog.info? 109).map (fun i => (i.zero, i.size, i.bytes)) = some (some (.agg #[.int .i64 0, .string ByteArray.empty]), 2, 24) := by kernel_rfl
  obtain ⟨i, hi, e⟩ := Option.map_eq_some_iff.1 h
  simp only [Prod.mk.injEq] at e
  exact ⟨i, hi, e.1, e.2.1, e.2.2⟩
theorem ucuts : Tryz.prog.underlying 74 = some (.slice 109) := by kernel_rfl
theorem cutV_snoc (l : List Ct) (c : Ct) : cutV (l ++ [c]) = cutV l ++ [.int .i64 (c.1 : Int), .string (Num.bs c.2)] := by simp [cutV]
/-- Two cells in a new block. -/
theorem two_new (w : World) (x y : Value) (t : TypeId) : ∀ j u, [x, y][j]? = some u → (w.alloc (.cells #[x, y] t)).cell? ((⟨w.heap.size, 0, none⟩ : Addr).add j) = some u := by
  intro j u h
  rw [Addr.add_lit, Nat.zero_add]
  match j, h with
  | 0, h => simp at h ⊢; exact h
  | 1, h => simp at h ⊢; exact h
theorem CutsAt.app {w : World} {v : Value} {l : List Ct} (h : CutsAt w v l) (g : Nat) (t : By) (hl : l.length ≤ 1000000000000) (ty : TypeId) :
    ∃ v' w', (Builtin.append_ #[74, 74] ty #[v, .slice (some ⟨w.heap.size, 0, none⟩) 1 1]).run Tryz.prog (w.alloc (.cells #[.int .i64 (g : Int), .string (Num.bs t)] 109)) = .ok v' w' ∧
      CutsAt w' v' (l ++ [(g, t)]) ∧ (w.alloc (.cells #[.int .i64 (g : Int), .string (Num.bs t)] 109)).grownBy w' v.ownBlock ∧ (∀ x, v'.ownBlock = some x → v.ownBlock = some x ∨ w.heap.size ≤ x) ∧ ∃ a n c, v' = .slice a n c := by
  obtain ⟨i, hi, hz, hs, hby⟩ := cut_info
  obtain ⟨v', w', hr, ho, hg, hb⟩ := app_own (w.alloc (.cells #[.int .i64 (g : Int), .string (Num.bs t)] 109)) 0 74 ty 109 i _ 2 24 ucuts hi hz hs hby rfl (by decide) v l.length (cutV l) (h.alloc _) ⟨w.heap.size, 0, none⟩ 1 1
    [.int .i64 (g : Int), .string (Num.bs t)] rfl (two_new _ _ _ _) (fun u hu => by simp at hu; rcases hu with rfl | rfl <;> rfl) (by unfold maxLen; omega) (by omega) (Nat.zero_le _)
  refine ⟨v', w', hr, ?_, hg, fun x e => ?_, ?_⟩
  · unfold CutsAt
    rw [cutV_snoc, List.length_append]
    exact ho
  · rcases hb with hb | hb
    · exact .inl (hb ▸ e)
    · rw [hb] at e
      simp only [World.size_alloc, Option.some.injEq] at e
      exact .inr (by omega)
  · rcases ho.2 with ⟨e, _⟩ | ⟨g, cap, cur, e, _⟩
    · exact ⟨_, _, _, e⟩
    · exact ⟨_, _, _, e⟩

set_option maxRecDepth 100000 in
set_option maxHeartbeats 1600000 in
theorem fcut_at {S : Nat → Prop} {w : World} {p : Nat} {h : Hd} (H : HeapDisk S w p h) {i : Nat} (hi : i < h.made) (n : Nat) (hn : n ≤ (h.fl i).text.length) (hg : (h.fl i).cuts.length ≤ 1000000000000) :
    Calls Tryz.prog 66 #[.pointer (some ⟨h.bl i, 0, none⟩), .int .i64 (n : Int)] w fun e w' => e = .returned (.tuple #[]) ∧
      (∃ tv kv, HeapDisk (more S w w') w' p (h.file i { text := (h.fl i).text.take n, cuts := (h.fl i).cuts ++ [((h.fl i).grown, (h.fl i).text.drop n)], grown := 0 } tv kv)) ∧ Only S w w' := by
  have HH := hide H
  have hfi := H.files i hi
  have HF := hide hfi
  obtain ⟨c0, c1, c2, c3, cf, hbl⟩ := H.lookF hi
  have hS : ∀ b, (b = h.bl i ∨ rowB (h.tv i) = some b) → S b := fun b e => by
    rcases e with rfl | e
    · exact hfi.s1
    · exact hfi.s2 b e
  obtain ⟨aT, cT, hv, hlc⟩ := hfi.text.len
  have hTa : TextAt w (.slice aT (h.fl i).text.length cT) (h.fl i).text := hv ▸ hfi.text
  have hU := slice_from aT (h.fl i).text.length cT n hn
  have HC := fun (W : World) (hW : ∀ b, (b = h.bl i ∨ rowB (h.tv i) = some b) → W.heap[b]? = w.heap[b]?) => hTa.conv hn W (fun b e => hW b (.inr (hv ▸ e)))
  generalize hUU : Value.slice (if cT = n then aT else aT.map (fun x : Addr => x.add n)) ((h.fl i).text.length - n) (cT - n) = U at hU HC
  clear hUU
  have hV := slice_upto aT (h.fl i).text.length cT n (by omega)
  obtain ⟨hTt, hTr⟩ := hTa.take hn
  rw [← hv] at hTr
  have HTA := hide hTt
  have HTR := hide hTr
  clear hTa hTt hTr
  rw [hv] at c1
  have HV := hide hv
  clear hfi hv
  go_enter Tryz.func66, Tryz.ntmps66
  go_wp2_with fail
  refine wp_region_growK (fun b => b = h.bl i ∨ rowB (h.tv i) = some b) [([0, 1, 2, 3, 4, 5, 6, 7, 8, 9, 10, 11, 12, 13, 14, 15, 16], 17), ([], 18)] [] [19, 20, 21] (by kernel_rfl) (by kernel_rfl) (by kernel_rfl) (by kernel_rfl) ?_
  intro w1 hb1
  simp only [stagesOfK, getLK, pickLK]
  have inh : Nonempty (GrK (fun b => b = h.bl i ∨ rowB (h.tv i) = some b) w1) := GrK.some _ w1
  have x1 : ∀ x : GrK (fun b => b = h.bl i ∨ rowB (h.tv i) = some b) w1, x.w.cell? _ = _ := fun x => x.cell (a := ⟨h.bl i, 1, none⟩) (.inl rfl) ((hb1.cell (p := ⟨h.bl i, 1, none⟩) hbl).trans c1)
  have x2 : ∀ x : GrK (fun b => b = h.bl i ∨ rowB (h.tv i) = some b) w1, x.w.cell? _ = _ := fun x => x.cell (a := ⟨h.bl i, 2, none⟩) (.inl rfl) ((hb1.cell (p := ⟨h.bl i, 2, none⟩) hbl).trans c2)
  have x3 : ∀ x : GrK (fun b => b = h.bl i ∨ rowB (h.tv i) = some b) w1, x.w.cell? _ = _ := fun x => x.cell (a := ⟨h.bl i, 3, none⟩) (.inl rfl) ((hb1.cell (p := ⟨h.bl i, 3, none⟩) hbl).trans c3)
  have xu := fun x : GrK (fun b => b = h.bl i ∨ rowB (h.tv i) = some b) w1 => hU x.w
  have xc := fun x : GrK (fun b => b = h.bl i ∨ rowB (h.tv i) = some b) w1 => HC x.w (fun b e => (x.below.block b e).trans (hb1.block b (HH.out.lt b (hS b e))))
  clear c0 c1 c2 c3 cf
  refine wpG_stageK ?_
  repeat (go_big_quiet_step (fail))
  refine wpQuiet_nil ?_
  clear x1 x2 x3 xu xc inh
  obtain ⟨kv', w2, hr, hK, hgr, hkr, ak, nk, ck, rfl⟩ := CutsAt.app (own_keep HF.out.cuts (fun g e => hb1.block g (HH.out.lt g (HF.out.s3 g e)))) (h.fl i).grown ((h.fl i).text.drop n) hg 74
  have hHR := hide hr
  clear hr
  go_wp2
  refine OnToK.mk (Kept.of_below ((Below.refl _ w1).alloc (Nat.le_refl _) _) (fun b e => Nat.lt_of_lt_of_le (HH.out.lt b (hS b e)) hb1.size)) (Sub.refl _) ?_
  refine wpG_stageK (wpQuiet_nil ?_)
  go_wp2_with (at_builtin; refine wpList_app_run rfl _ _ _ _ rfl rfl rfl hHR.out ?_)
  have hk2 : ∀ b, b < w.heap.size → (h.kv i).ownBlock ≠ some b → w2.heap[b]? = w.heap[b]? := fun b hb hn => by
    rw [hgr.block b (by simp; have := hb1.size; omega) (fun e => hn e.symm), Below.heap_alloc _ _ _ (by have := hb1.size; omega)]
    exact hb1.block b hb
  have hne1 : (h.kv i).ownBlock ≠ some (h.bl i) := fun e => by
    obtain ⟨cur, hc⟩ := own_kind HF.out.cuts e
    exact kind_ne HF.out.blk hc (by decide) rfl
  have hne2 : ∀ b, rowB (h.tv i) = some b → (h.kv i).ownBlock ≠ some b := fun b e e' => by
    obtain ⟨cur, hc⟩ := own_kind HF.out.cuts e'
    obtain ⟨cur', hc'⟩ := HF.out.text.kind e
    exact kind_ne hc hc' (by decide) rfl
  have hbk : w2.heap[h.bl i]? = some (fileCells i (h.tv i) (h.kv i) (h.fl i).grown) := (hk2 _ hbl hne1).trans HF.out.blk
  have hz2 : w.heap.size ≤ w2.heap.size := by have := hgr.size; have := hb1.size; simp at *; omega
  refine OnToK.mk ⟨hgr.os, hgr.tape, hgr.output, hgr.size, fun b e => ?_⟩ (Sub.refl _) ?_
  · refine hgr.block b (by have := HH.out.lt b (hS b e); have := hb1.size; simp; omega) (fun k => ?_)
    rcases e with rfl | e
    · exact hne1 k.symm
    · exact hne2 b e k.symm
  refine wpG_lastK (wpQuiet_nil ?_)
  have d1 : w2.cell? ⟨h.bl i, 1, none⟩ = some (.slice aT (h.fl i).text.length cT) := by rw [← HV.out]; exact cell_of hbk 1 rfl
  obtain ⟨kA, kN, kC, hkv⟩ : ∃ kA kN kC, h.kv i = .slice kA kN kC := by
    rcases HF.out.cuts.2 with ⟨e, _⟩ | ⟨g, cap, cur, e, _⟩
    · exact ⟨_, _, _, e⟩
    · exact ⟨_, _, _, e⟩
  have d2 : w2.cell? ⟨h.bl i, 2, none⟩ = some (.slice kA kN kC) := by rw [← hkv]; exact cell_of hbk 2 rfl
  have d3 : w2.cell? ⟨h.bl i, 3, none⟩ = some (.int .i64 ((h.fl i).grown : Int)) := cell_of hbk 3 rfl
  have df : ∀ j, w2.frozen? ⟨h.bl i, j, none⟩ = false := frozen_of hbk
  have HBK := hide hbk
  have HK := hide hK
  have HKR := hide hkr
  have HK2 := hide hk2
  have HG := hide hgr
  have HB1 := hide hb1
  clear hbk hK hkr hk2 hgr hb1 hne1 hne2 hU HC hkv
  go_wp2
  go_end0
  have hkeep : ∀ x, x ≠ h.bl i → (((w2.setCell ⟨h.bl i, 2, none⟩ (.slice ak nk ck)).setCell ⟨h.bl i, 1, none⟩ (.slice aT n cT)).setCell ⟨h.bl i, 3, none⟩ (.int .i64 0)).heap[x]? = w2.heap[x]? := fun x hx => by
    rw [Below.heap_setCell _ _ _ _ hx, Below.heap_setCell _ _ _ _ hx, Below.heap_setCell _ _ _ _ hx]
  have hT2 : TextAt w2 (.slice aT n cT) ((h.fl i).text.take n) := HTA.out.keep (fun g e => HK2.out g (HH.out.lt g (HF.out.s2 g (HTR.out ▸ e))) (fun e' => by
    obtain ⟨cur, hc⟩ := own_kind HF.out.cuts e'
    obtain ⟨cur', hc'⟩ := HF.out.text.kind (HTR.out ▸ e)
    exact kind_ne hc hc' (by decide) rfl))
  refine ⟨rfl, ⟨.slice aT n cT, .slice ak nk ck, HH.out.file hi (by simp [World.setCell]; exact hz2) (fun b hb h1 h2 h3 => ?_) (FileAt.sets ?_ hkeep ⟨_, HBK.out⟩ hT2 HK.out (.inl HF.out.s1) (fun g e => .inl (HF.out.s2 g (HTR.out ▸ e))) (fun g e => ?_)) (fun g e => .inl (HTR.out ▸ e)) (fun g e => ?_)⟩, ?_⟩
  · rw [hkeep b h1]
    exact HK2.out b (HH.out.lt b hb) h3
  · rw [heap_setCell_same _ _ _ _ _ _ (heap_setCell_same _ _ _ _ _ _ (heap_setCell_same _ _ _ _ _ _ HBK.out))]
    simp [fileCells]
  · rcases HKR.out g e with k | k
    · exact .inl (HF.out.s3 g k)
    · refine .inr ⟨Nat.le_trans HB1.out.size k, ?_⟩
      obtain ⟨cur, hc⟩ := own_kind HK.out e
      have := (Array.getElem?_eq_some_iff.1 hc).1
      simpa [World.setCell] using this
  · rcases HKR.out g e with k | k
    · exact .inl k
    · exact .inr (Nat.le_trans HB1.out.size k)
  · have o1 : Only S w w2 := ⟨HG.out.os.trans HB1.out.os, HG.out.tape.trans HB1.out.tape, HG.out.output.trans HB1.out.output, hz2, fun b hb hn => HK2.out b hb (fun e => hn (HF.out.s3 b e))⟩
    exact ((o1.setCell (p := ⟨h.bl i, 2, none⟩) HF.out.s1 _).setCell (p := ⟨h.bl i, 1, none⟩) HF.out.s1 _).setCell (p := ⟨h.bl i, 3, none⟩) HF.out.s1 _
end Go.Proofs.YtpbiongoigbmpaaGreat
