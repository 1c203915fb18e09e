/-
  Chapter 7, plain: how the program keeps a disk: a file as it is, with what was cut; names as they are, with what they were. No program here.
-/
import Derived.Test.YtpbiongoigbmpaaFirsts
namespace Go.Proofs.Ytpbiongoigbmpaa.Dsk
open Go.Proofs.Ytpbiongoigbmpaa

abbrev Ct := Nat × By
structure Fl where
  text : By
  cuts : List Ct
  grown : Nat

/-! ## A file's moments, found backwards -/
def segs (t : By) (g : Nat) : List By := (List.range (g + 1)).map (fun i => t.take (t.length - g + i))
def histR : List Ct → By → Nat → List By
  | [], t, g => segs t g
  | c :: r, t, g => histR r (t.take (t.length - g) ++ c.2) c.1 ++ segs t g
def wfR : List Ct → By → Nat → Prop
  | [], t, g => g ≤ t.length
  | c :: r, t, g => g ≤ t.length ∧ wfR r (t.take (t.length - g) ++ c.2) c.1
def momR : List Ct → Nat → Nat
  | [], g => g
  | c :: r, g => momR r c.1 + g + 1
def behindR : List Ct → By → Nat → Nat → By
  | [], t, _, back => t.take (t.length - back)
  | c :: r, t, g, back => if back ≤ g then t.take (t.length - back) else behindR r (t.take (t.length - g) ++ c.2) c.1 (back - (g + 1))
def moms (f : Fl) : Nat := f.grown + (f.cuts.map (fun c => c.1 + 1)).sum
structure FRel (f : Fl) (h : List By) : Prop where
  wf : wfR f.cuts.reverse f.text f.grown
  eq : h = histR f.cuts.reverse f.text f.grown

theorem segs_len (t : By) (g : Nat) : (segs t g).length = g + 1 := by simp [segs]
theorem segs_at (t : By) {g i : Nat} (h : i ≤ g) : (segs t g).getD i [] = t.take (t.length - g + i) := by
  unfold segs
  rw [List.getD_eq_getElem?_getD, List.getElem?_map, List.getElem?_range (by omega)]
  rfl
theorem segs_last (t : By) (g : Nat) : (segs t g).getLast? = some t := by
  unfold segs
  rw [List.range_succ, List.map_append, List.map_singleton, List.getLast?_concat, List.take_of_length_le (by omega)]
theorem segs_zero (t : By) : segs t 0 = [t] := by simp [segs]
theorem segs_grow (t s : By) {g : Nat} (h : g ≤ t.length) : segs (t ++ s) (g + s.length) = segs t g ++ fronts t s := by
  unfold segs fronts
  rw [show g + s.length + 1 = (g + 1) + s.length by omega, List.range_add, List.map_append, List.map_map]
  congr 1
  · refine List.map_congr_left fun i hi => ?_
    rw [List.mem_range] at hi
    rw [List.length_append, show t.length + s.length - (g + s.length) + i = t.length - g + i by omega, List.take_append_of_le_length (by omega)]
  · refine List.map_congr_left fun i hi => ?_
    simp only [Function.comp]
    rw [List.length_append, show t.length + s.length - (g + s.length) + (g + 1 + i) = t.length + (i + 1) by omega, List.take_append, List.take_of_length_le (l := t) (by omega), show t.length + (i + 1) - t.length = i + 1 by omega]
theorem wfR_g : ∀ {r : List Ct} {t : By} {g : Nat}, wfR r t g → g ≤ t.length
  | [], _, _, h => h
  | _ :: _, _, _, h => h.1
theorem histR_len : ∀ (r : List Ct) (t : By) (g : Nat), (histR r t g).length = momR r g + 1
  | [], t, g => segs_len t g
  | c :: r, t, g => by simp only [histR, List.length_append, histR_len r, segs_len, momR]; omega
theorem histR_last (r : List Ct) (t : By) (g : Nat) : (histR r t g).getLast? = some t := by
  cases r with
  | nil => exact segs_last t g
  | cons c r => simp only [histR, List.getLast?_append, segs_last, Option.some_or]
theorem momR_eq : ∀ (r : List Ct) (g : Nat), momR r g = g + (r.map (fun c => c.1 + 1)).sum
  | [], g => by simp [momR]
  | c :: r, g => by simp only [momR, List.map_cons, List.sum_cons, momR_eq r]; omega
theorem moms_eq (f : Fl) : momR f.cuts.reverse f.grown = moms f := by
  rw [momR_eq, moms, List.map_reverse]
  congr 1
  exact (List.reverse_perm _).sum_nat
theorem histR_grow (s : By) : ∀ (r : List Ct) (t : By) (g : Nat), wfR r t g → wfR r (t ++ s) (g + s.length) ∧ histR r (t ++ s) (g + s.length) = histR r t g ++ fronts t s
  | [], t, g, h => ⟨by show _ ≤ _; rw [List.length_append]; exact Nat.add_le_add_right h _, segs_grow t s h⟩
  | c :: r, t, g, h => by
    have e : (t ++ s).take ((t ++ s).length - (g + s.length)) = t.take (t.length - g) := by
      rw [List.length_append, show t.length + s.length - (g + s.length) = t.length - g by omega, List.take_append_of_le_length (by omega)]
    refine ⟨⟨by rw [List.length_append]; have := h.1; omega, by rw [e]; exact h.2⟩, ?_⟩
    simp only [histR]
    rw [e, segs_grow t s h.1, List.append_assoc]
theorem FRel.grow {f : Fl} {h : List By} (k : FRel f h) (s : By) : FRel { f with text := f.text ++ s, grown := f.grown + s.length } (h ++ fronts f.text s) := by
  obtain ⟨a, b⟩ := histR_grow s _ _ _ k.wf
  exact ⟨a, by rw [k.eq]; exact b.symm⟩
theorem FRel.cut {f : Fl} {h : List By} (k : FRel f h) (n : Nat) : FRel { text := f.text.take n, cuts := f.cuts ++ [(f.grown, f.text.drop n)], grown := 0 } (h ++ [f.text.take n]) := by
  have e : (f.text.take n).take ((f.text.take n).length - 0) ++ f.text.drop n = f.text := by
    rw [Nat.sub_zero, List.take_length, List.take_append_drop]
  refine ⟨?_, ?_⟩
  · show wfR (f.cuts ++ [_]).reverse _ 0
    rw [List.reverse_append]
    simp only [List.reverse_singleton, List.singleton_append]
    refine ⟨Nat.zero_le _, ?_⟩
    rw [e]; exact k.wf
  · show _ = histR (f.cuts ++ [_]).reverse _ 0
    rw [List.reverse_append]
    simp only [List.reverse_singleton, List.singleton_append, histR]
    rw [e, segs_zero, k.eq]
theorem FRel.sync {f : Fl} (t : By) (e : t = f.text) : FRel { f with cuts := [], grown := 0 } [t] := by
  subst e
  exact ⟨Nat.zero_le _, (segs_zero _).symm⟩
theorem FRel.new : FRel ⟨[], [], 0⟩ [[]] := ⟨Nat.zero_le _, (segs_zero _).symm⟩
theorem FRel.one (t : By) : FRel ⟨t, [], 0⟩ [t] := ⟨Nat.zero_le _, (segs_zero _).symm⟩
theorem FRel.last {f : Fl} {h : List By} (k : FRel f h) : h.getLastD [] = f.text := by
  rw [k.eq, List.getLastD_eq_getLast?, histR_last]; rfl
theorem FRel.len {f : Fl} {h : List By} (k : FRel f h) : h.length = moms f + 1 := by rw [k.eq, histR_len, moms_eq]
theorem behindR_eq : ∀ (r : List Ct) (t : By) (g back : Nat), wfR r t g → back ≤ momR r g → behindR r t g back = (histR r t g).getD (momR r g - back) []
  | [], t, g, back, h, hb => by
    simp only [wfR] at h
    simp only [momR] at hb
    simp only [behindR, histR, momR]
    rw [segs_at t (by omega)]
    congr 1; omega
  | c :: r, t, g, back, h, hb => by
    simp only [momR] at hb
    have hl := histR_len r (t.take (t.length - g) ++ c.2) c.1
    have hg := h.1
    simp only [behindR, histR, momR]
    rw [List.getD_eq_getElem?_getD]
    split
    · rename_i hk
      rw [List.getElem?_append_right (by rw [hl]; omega), hl, ← List.getD_eq_getElem?_getD, show momR r c.1 + g + 1 - back - (momR r c.1 + 1) = g - back by omega, segs_at t (by omega)]
      congr 1; omega
    · rename_i hk
      rw [List.getElem?_append_left (by rw [hl]; omega), ← List.getD_eq_getElem?_getD, behindR_eq r _ _ _ h.2 (by omega), show momR r c.1 + g + 1 - back = momR r c.1 - (back - (g + 1)) by omega]
/-- What the file had behind so many moments. -/
def behind (f : Fl) (k : Nat) : By := behindR f.cuts.reverse f.text f.grown (moms f - k)
theorem FRel.behind {f : Fl} {h : List By} (r : FRel f h) {k : Nat} (hk : k ≤ moms f) : Dsk.behind f k = h.getD k [] := by
  unfold Dsk.behind
  rw [behindR_eq _ _ _ _ r.wf (by rw [moms_eq]; omega), moms_eq, r.eq]
  congr 1; omega
theorem histR_mem (r : List Ct) (t : By) (g : Nat) : t ∈ histR r t g := List.mem_of_getLast? (histR_last r t g)
/-! ## Names, found backwards -/
abbrev Nm := ByteArray → Option Nat
abbrev Hold := ByteArray × Option Nat
def putN (h : Hold) (f : Nm) : Nm := fun m => if m = h.1 then h.2 else f m
def undo (c : List Hold) (f : Nm) : Nm := c.foldr putN f
def undoAll (cs : List (List Hold)) (f : Nm) : Nm := cs.foldr undo f
structure NRel (f : Nm) (cs : List (List Hold)) (ds : List Row) : Prop where
  len : ds.length = cs.length + 1
  all : ∀ k, k ≤ cs.length → ∀ n, undoAll (cs.drop k) f n = find (ds.getD k []) n
def chg : List Hold → List Hold → Nm → List Hold × Nm
  | [], c, f => (c, f)
  | h :: r, c, f => chg r (c ++ [(h.1, f h.1)]) (putN h f)
theorem put_back (h : Hold) (f : Nm) : putN (h.1, f h.1) (putN h f) = f := by
  funext m
  unfold putN
  simp only
  split
  · rename_i e; rw [e]
  · rfl
theorem chg_undo : ∀ (now c : List Hold) (f : Nm), undo (chg now c f).1 (chg now c f).2 = undo c f
  | [], _, _ => rfl
  | h :: r, c, f => by
    rw [chg, chg_undo r]
    unfold undo
    rw [List.foldr_append, List.foldr_cons, List.foldr_nil, put_back]
theorem NRel.now {f : Nm} {cs : List (List Hold)} {d : Dk} (h : NRel f cs d.dirs) (n : ByteArray) : f n = find (dir d) n := by
  have := h.all cs.length (Nat.le_refl _) n
  rw [List.drop_length] at this
  refine Eq.trans this ?_
  congr 1
  unfold dir
  rw [List.getLastD_eq_getLast?, List.getLast?_eq_getElem?, List.getD_eq_getElem?_getD, h.len]
  rfl
theorem NRel.add {f f' : Nm} {cs : List (List Hold)} {ds : List Row} (h : NRel f cs ds) {c : List Hold} {row : Row} (hu : undo c f' = f) (hr : ∀ n, f' n = find row n) : NRel f' (cs ++ [c]) (ds ++ [row]) := by
  refine ⟨by simp only [List.length_append, List.length_singleton, h.len], fun k hk n => ?_⟩
  by_cases e : k ≤ cs.length
  · rw [List.drop_append_of_le_length e]
    unfold undoAll
    rw [List.foldr_append, List.foldr_cons, List.foldr_nil, hu]
    refine (h.all k e n).trans ?_
    rw [List.getD_eq_getElem?_getD, List.getD_eq_getElem?_getD, List.getElem?_append_left (by rw [h.len]; omega)]
  · rw [List.length_append, List.length_singleton] at hk
    have hk : k = cs.length + 1 := by omega
    subst hk
    rw [List.drop_of_length_le (by simp)]
    refine (hr n).trans ?_
    rw [List.getD_eq_getElem?_getD, ← h.len, List.getElem?_concat_length]
    rfl
theorem NRel.one {f : Nm} {row : Row} (h : ∀ n, f n = find row n) : NRel f [] [row] := ⟨rfl, fun k hk n => by
  have : k = 0 := by simpa using hk
  subst this
  exact h n⟩
theorem find_without (r : Row) (n m : ByteArray) : find (without r n) m = if m = n then none else find r m := by
  induction r with
  | nil => simp [without, find]
  | cons p r ih =>
    obtain ⟨x, i⟩ := p
    unfold without at ih ⊢
    by_cases e : x = n
    · rw [List.filter_cons_of_neg (by simpa using e), ih]
      subst e
      by_cases h : m = x
      · rw [if_pos h, if_pos h]
      · rw [if_neg h, if_neg h, show find ((x, i) :: r) m = (if x = m then some i else find r m) from rfl, if_neg (fun k => h k.symm)]
    · rw [List.filter_cons_of_pos (by simpa using e)]
      unfold find
      by_cases h : x = m
      · rw [if_pos h, if_pos h, if_neg (by rw [← h]; exact e)]
      · rw [if_neg h, if_neg h, ih]
theorem find_one (n : ByteArray) (i : Nat) (m : ByteArray) : find [(n, i)] m = if m = n then some i else none := by
  unfold find
  by_cases h : n = m
  · rw [if_pos h, if_pos h.symm]
  · rw [if_neg h, if_neg (fun k => h k.symm)]; rfl
theorem find_snoc (r : Row) (n : ByteArray) (i : Nat) (m : ByteArray) : find (without r n ++ [(n, i)]) m = if m = n then some i else find r m := by
  rw [find_app, find_without, find_one]
  by_cases h : m = n
  · rw [if_pos h, if_pos h, if_pos h]; rfl
  · rw [if_neg h, if_neg h, if_neg h, Option.or_none]
theorem sum_without {r : Row} (hr : r.Pairwise (fun p q => p.1 ≠ q.1)) (g : Nat → Nat) (n : ByteArray) : ((without r n).map (fun p => g p.2)).sum + (match find r n with | none => 0 | some i => g i) = (r.map (fun p => g p.2)).sum := by
  induction r with
  | nil => simp [without, find]
  | cons p r ih =>
    obtain ⟨x, i⟩ := p
    obtain ⟨h1, h2⟩ := List.pairwise_cons.1 hr
    have ih := ih h2
    unfold without at ih ⊢
    unfold find
    simp only [List.map_cons, List.sum_cons]
    by_cases e : x = n
    · rw [List.filter_cons_of_neg (by simpa using e), if_pos e]
      have : find r n = none := find_none.2 (fun p hp k => h1 p hp (e.trans k.symm))
      rw [this] at ih
      simp only at ih ⊢
      omega
    · rw [List.filter_cons_of_pos (by simpa using e), if_neg e]
      simp only [List.map_cons, List.sum_cons]
      omega

end Go.Proofs.Ytpbiongoigbmpaa.Dsk
