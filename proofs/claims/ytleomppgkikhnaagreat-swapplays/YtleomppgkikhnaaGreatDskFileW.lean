/-
  A file's own: size, grow, sync; within, moments.
-/
import Derived.Test.YtleomppgkikhnaaGreatDskRowW
namespace Go.Proofs.YtleomppgkikhnaaGreat
open Go.RowKit
open Dsk (Nm Hold Fl Ct By)

theorem TextAt.len {w : World} {v : Value} {t : By} (h : TextAt w v t) : ∃ a c, v = .slice a t.length c ∧ t.length ≤ c := by
  rcases h with ⟨rfl, a, rfl, _⟩ | ⟨g, cap, cur, rfl, _, h1, _⟩
  · exact ⟨a, 0, rfl, Nat.le_refl _⟩
  · exact ⟨_, _, rfl, h1⟩

set_option maxRecDepth 100000 in
set_option maxHeartbeats 800000 in
theorem size_none (w : World) : Calls Tryz.prog 88 #[.pointer none] w fun e w' => e = .returned (.int .i64 0) ∧ w' = w := by
  go_enter Tryz.func88, Tryz.ntmps88
  go_wp2
  go_ret
  exact ⟨rfl, rfl⟩
set_option maxRecDepth 100000 in
set_option maxHeartbeats 800000 in
theorem size_at {S : Nat → Prop} {w : World} {p : Nat} {h : Hd} (H : HeapDisk S w p h) {i : Nat} (hi : i < h.made) :
    Calls Tryz.prog 88 #[.pointer (some ⟨h.bl i, 0, none⟩)] w fun e w' => e = .returned (.int .i64 ((h.fl i).text.length : Int)) ∧ w' = w := by
  obtain ⟨c0, c1, c2, c3, cf, _⟩ := H.lookF hi
  obtain ⟨a, c, hv, _⟩ := (H.files i hi).text.len
  rw [hv] at c1
  clear H hv
  go_enter Tryz.func88, Tryz.ntmps88
  go_wp2
  go_ret
  exact ⟨rfl, rfl⟩
set_option maxRecDepth 100000 in
set_option maxHeartbeats 800000 in
theorem within_any (n m : Int) (w : World) :
    Calls Tryz.prog 73 #[.int .i64 n, .int .i64 m] w fun e w' => e = .returned (.int .i64 (min (max n 0) m)) ∧ w' = w := by
  by_cases h0 : n < 0
  · rw [show max n 0 = 0 by omega]
    by_cases h1 : m < 0
    · rw [show min 0 m = m by omega]
      go_enter Tryz.func73, Tryz.ntmps73
      go_wp2
      go_ret
      exact ⟨rfl, rfl⟩
    · rw [show min 0 m = 0 by omega]
      go_enter Tryz.func73, Tryz.ntmps73
      go_wp2
      go_ret
      exact ⟨rfl, rfl⟩
  · rw [show max n 0 = n by omega]
    by_cases h1 : m < n
    · rw [show min n m = m by omega]
      go_enter Tryz.func73, Tryz.ntmps73
      go_wp2
      go_ret
      exact ⟨rfl, rfl⟩
    · rw [show min n m = n by omega]
      go_enter Tryz.func73, Tryz.ntmps73
      go_wp2
      go_ret
      exact ⟨rfl, rfl⟩

/-- A file's cells are others. -/
theorem FileAt.sets {S : Nat → Prop} {w w' : World} {b i : Nat} {F : Fl} {tv kv : Value} (hb : w'.heap[b]? = some (fileCells i tv kv F.grown)) (k : ∀ x, x ≠ b → w'.heap[x]? = w.heap[x]?)
    (hf : ∃ cs, w.heap[b]? = some (.cells cs 74 (0, 0))) (ht : TextAt w tv F.text) (hk : CutsAt w kv F.cuts) (s1 : S b) (s2 : ∀ g, rowB tv = some g → S g) (s3 : ∀ g, kv.ownBlock = some g → S g) : FileAt S w' b i F tv kv := by
  obtain ⟨cs, hf⟩ := hf
  refine ⟨hb, ht.keep (fun g e => k g ?_), own_keep hk (fun g e => k g ?_), s1, s2, s3⟩
  · obtain ⟨cur, hc⟩ := ht.kind e
    exact kind_ne hc hf (by decide)
  · obtain ⟨cur, hc⟩ := own_kind hk e
    exact kind_ne hc hf (by decide)

set_option maxRecDepth 100000 in
set_option maxHeartbeats 1600000 in
theorem grow_at {S : Nat → Prop} {w : World} {p : Nat} {h : Hd} (H : HeapDisk S w p h) {i : Nat} (hi : i < h.made) (s : ByteArray) (hb : (h.fl i).text.length + s.size ≤ 140737488355328) (hg : (h.fl i).grown + s.size ≤ 140737488355328) :
    Calls Tryz.prog 66 #[.pointer (some ⟨h.bl i, 0, none⟩), .string s] w fun e w' => e = .returned (.tuple #[]) ∧
      (∃ v, HeapDisk (more S w w') w' p (h.file i { (h.fl i) with text := (h.fl i).text ++ s.data.toList, grown := (h.fl i).grown + s.size } v (h.kv i))) ∧ Only S w w' := by
  have HH := hide H
  have hfi := H.files i hi
  obtain ⟨c0, c1, c2, c3, cf, hbl⟩ := H.lookF hi
  obtain ⟨v', w1, hr, hT, hgr, hrow⟩ := hfi.text.app s hb 69
  have hne : some (h.bl i) ≠ rowB (h.tv i) := fun e => by
    obtain ⟨cur, hc⟩ := hfi.text.kind e.symm
    exact kind_ne hfi.blk hc (by decide) rfl
  have hb1 := (hgr.block _ hbl hne).trans hfi.blk
  obtain ⟨a0, n0, hv0, _⟩ := hfi.text.len
  have d1 : w1.cell? ⟨h.bl i, 1, none⟩ = some (h.tv i) := cell_of hb1 1 rfl
  have d3 : w1.cell? ⟨h.bl i, 3, none⟩ = some (.int .i64 ((h.fl i).grown : Int)) := cell_of hb1 3 rfl
  have df : ∀ j, w1.frozen? ⟨h.bl i, j, none⟩ = false := frozen_of hb1
  rw [hv0] at c1 d1 hr
  clear hv0
  have HR := hide hrow
  have HN := hide hne
  have HB := hide hb1
  have HT := hide hT
  have HG := hide hgr
  have HF := hide hfi
  clear hrow hne hb1 hT hgr hfi H
  have htv1 : ∃ a n c, v' = .slice a n c := by
    obtain ⟨a, c, e, _⟩ := HT.out.len
    exact ⟨_, _, _, e⟩
  obtain ⟨a', n', c', rfl⟩ := htv1
  have HRR := hide hr
  clear hr
  go_enter Tryz.func66, Tryz.ntmps66
  go_wp2_with (at_builtin; refine wpList_app_run rfl _ _ _ _ rfl rfl rfl HRR.out ?_)
  go_end0
  have hs := HG.out.size
  have hkeep : ∀ x, x ≠ h.bl i → ((w1.setCell ⟨h.bl i, 1, none⟩ (.slice a' n' c')).setCell ⟨h.bl i, 3, none⟩ (.int .i64 (((h.fl i).grown : Int) + (s.size : Int)))).heap[x]? = w1.heap[x]? := fun x hx => by
    rw [Below.heap_setCell _ _ _ _ hx, Below.heap_setCell _ _ _ _ hx]
  refine ⟨rfl, ⟨.slice a' n' c', HH.out.file hi (by simp [World.setCell]; exact hs) (fun b hb h1 h2 h3 => ?_) (FileAt.sets ?_ hkeep ⟨_, HB.out⟩ HT.out ?_ (.inl HF.out.s1) (fun g e => ?_) (fun g e => .inl (HF.out.s3 g e))) HR.out (fun g e => .inl e)⟩, ?_⟩
  · rw [hkeep b h1]
    exact HG.out.block b (HH.out.lt b hb) (fun e => h2 e.symm)
  · rw [heap_setCell_same _ _ _ _ _ _ (heap_setCell_same _ _ _ _ _ _ HB.out)]
    simp [fileCells]
  · exact own_keep HF.out.cuts (fun g e => HG.out.block g (HH.out.lt g (HF.out.s3 g e)) (fun e' => by
      obtain ⟨cur, hc⟩ := own_kind HF.out.cuts e
      obtain ⟨cur', hc'⟩ := HF.out.text.kind e'.symm
      exact kind_ne hc hc' (by decide) rfl))
  · rcases HR.out g e with k | k
    · exact .inl (HF.out.s2 g k)
    · refine .inr ⟨k, ?_⟩
      obtain ⟨cur, hc⟩ := HT.out.kind e
      have := (Array.getElem?_eq_some_iff.1 hc).1
      simpa [World.setCell] using this
  · exact ((Only.grown HG.out (fun g e => HF.out.s2 g e)).setCell (p := ⟨h.bl i, 1, none⟩) HF.out.s1 _).setCell (p := ⟨h.bl i, 3, none⟩) HF.out.s1 _

set_option maxRecDepth 100000 in
set_option maxHeartbeats 1600000 in
theorem fsync_at {S : Nat → Prop} {w : World} {p : Nat} {h : Hd} (H : HeapDisk S w p h) {i : Nat} (hi : i < h.made) :
    Calls Tryz.prog 96 #[.pointer (some ⟨h.bl i, 0, none⟩)] w fun e w' => e = .returned (.tuple #[]) ∧
      HeapDisk (more S w w') w' p (h.file i { (h.fl i) with cuts := [], grown := 0 } (h.tv i) (.slice none 0 0)) ∧ Only S w w' := by
  have HH := hide H
  have HF := hide (H.files i hi)
  obtain ⟨c0, c1, c2, c3, cf, hbl⟩ := H.lookF hi
  have hkv : ∃ a n c, h.kv i = .slice a n c := by
    rcases (H.files i hi).cuts.2 with ⟨e, _⟩ | ⟨g, cap, cur, e, _⟩
    · exact ⟨_, _, _, e⟩
    · exact ⟨_, _, _, e⟩
  obtain ⟨a, n, c, hkv⟩ := hkv
  rw [hkv] at c2
  clear hkv H
  go_enter Tryz.func96, Tryz.ntmps96
  go_wp2
  go_end0
  have hkeep : ∀ x, x ≠ h.bl i → ((w.setCell ⟨h.bl i, 2, none⟩ (.slice none 0 0)).setCell ⟨h.bl i, 3, none⟩ (.int .i64 0)).heap[x]? = w.heap[x]? := fun x hx => by
    rw [Below.heap_setCell _ _ _ _ hx, Below.heap_setCell _ _ _ _ hx]
  refine ⟨rfl, HH.out.file hi (by simp [World.setCell]) (fun b hb h1 h2 h3 => hkeep b h1) (FileAt.sets ?_ hkeep ⟨_, HF.out.blk⟩ HF.out.text (World.ownsRow_nil _ _ _ _) (.inl HF.out.s1) (fun g e => .inl (HF.out.s2 g e)) (fun g e => by cases e)) (fun g e => .inl e) (fun g e => by cases e), ?_⟩
  · rw [heap_setCell_same _ _ _ _ _ _ (heap_setCell_same _ _ _ _ _ _ HF.out.blk)]
    simp [fileCells]
  · exact ((Only.refl S w).setCell (p := ⟨h.bl i, 2, none⟩) HF.out.s1 _).setCell (p := ⟨h.bl i, 3, none⟩) HF.out.s1 _

end Go.Proofs.YtleomppgkikhnaaGreat
