/-
  Chapter 7, plain, its theorems: names in order; what is left when the power went; what fits. No program here.
-/
import Derived.Test.YtafaobdakicjlaaGreatDskMath
namespace Go.Proofs.YtafaobdakicjlaaGreat.Dsk
open Go.Proofs.YtafaobdakicjlaaGreat

/-! ## Names in order -/
def Up (l : List ByteArray) : Prop := l.Pairwise (fun a b => Lab.lt a b = true)
theorem ins_perm (n : ByteArray) : ∀ l : List ByteArray, (ins n l).Perm (n :: l)
  | [] => List.Perm.refl _
  | m :: r => by
    unfold ins
    split
    · exact List.Perm.refl _
    · exact ((ins_perm n r).cons m).trans (List.Perm.swap n m r)
theorem sortN_perm : ∀ l : List ByteArray, (sortN l).Perm l
  | [] => List.Perm.refl _
  | n :: r => (ins_perm n (sortN r)).trans ((sortN_perm r).cons n)
theorem ins_up {n : ByteArray} : ∀ {l : List ByteArray}, Up l → (∀ m ∈ l, m ≠ n) → Up (ins n l)
  | [], _, _ => List.pairwise_singleton _ _
  | m :: r, h, hn => by
    obtain ⟨h1, h2⟩ := List.pairwise_cons.1 h
    unfold ins
    split
    · rename_i hl
      exact List.pairwise_cons.2 ⟨fun q hq => by
        rcases List.mem_cons.1 hq with rfl | hq
        · exact hl
        · exact Lab.lt_trans hl (h1 q hq), h⟩
    · rename_i hl
      refine List.pairwise_cons.2 ⟨fun q hq => ?_, ins_up h2 (fun q hq => hn q (List.mem_cons_of_mem _ hq))⟩
      rcases List.mem_cons.1 ((ins_perm n r).mem_iff.1 hq) with rfl | hq
      · rcases Lab.lt_total (hn m (List.mem_cons_self ..)) with k | k
        · exact k
        · exact absurd k hl
      · exact h1 q hq
theorem sortN_up : ∀ {l : List ByteArray}, l.Pairwise (fun a b => a ≠ b) → Up (sortN l)
  | [], _ => List.Pairwise.nil
  | n :: r, h => by
    obtain ⟨h1, h2⟩ := List.pairwise_cons.1 h
    exact ins_up (sortN_up h2) (fun m hm e => h1 m ((sortN_perm r).mem_iff.1 hm) e.symm)
theorem up_unique : ∀ {a b : List ByteArray}, Up a → Up b → (∀ x, x ∈ a ↔ x ∈ b) → a = b
  | [], [], _, _, _ => rfl
  | [], y :: b, _, _, h => absurd ((h y).2 (List.mem_cons_self ..)) (by simp)
  | x :: a, [], _, _, h => absurd ((h x).1 (List.mem_cons_self ..)) (by simp)
  | x :: a, y :: b, ha, hb, h => by
    obtain ⟨a1, a2⟩ := List.pairwise_cons.1 ha
    obtain ⟨b1, b2⟩ := List.pairwise_cons.1 hb
    have hxy : x = y := by
      rcases List.mem_cons.1 ((h x).1 (List.mem_cons_self ..)) with e | hx
      · exact e
      · rcases List.mem_cons.1 ((h y).2 (List.mem_cons_self ..)) with e | hy
        · exact e.symm
        · have := Lab.lt_asymm (a1 y hy)
          rw [b1 x hx] at this; cases this
    subst hxy
    have irr : ∀ {c : List ByteArray}, (∀ z ∈ c, Lab.lt x z = true) → x ∉ c := fun hc hm => by
      have := hc x hm
      rw [Lab.lt_irrefl] at this; cases this
    rw [up_unique a2 b2 (fun z => ?_)]
    constructor
    · intro hz
      rcases List.mem_cons.1 ((h z).1 (List.mem_cons_of_mem _ hz)) with rfl | k
      · exact absurd hz (irr a1)
      · exact k
    · intro hz
      rcases List.mem_cons.1 ((h z).2 (List.mem_cons_of_mem _ hz)) with rfl | k
      · exact absurd hz (irr b1)
      · exact k
theorem sortN_eq {a b : List ByteArray} (ha : a.Pairwise (fun x y => x ≠ y)) (h : a.Perm b) : sortN a = sortN b := by
  have hb : b.Pairwise (fun x y => x ≠ y) := h.pairwise ha (fun h e => h e.symm)
  exact up_unique (sortN_up ha) (sortN_up hb) (fun x => by rw [(sortN_perm a).mem_iff, (sortN_perm b).mem_iff, h.mem_iff])
theorem names_ne {r : Row} (h : r.Pairwise (fun p q => p.1 ≠ q.1)) : (names r).Pairwise (fun a b => a ≠ b) := by
  unfold names
  rw [List.pairwise_map]
  exact h
theorem mem_list {d : Dk} {n : ByteArray} : n ∈ list d ↔ ∃ f, (n, f) ∈ dir d := by
  unfold list
  rw [(sortN_perm _).mem_iff]
  unfold names
  simp

/-! ## What is left -/
theorem split_perm {α : Type} (f : α → Nat) : ∀ (N : Nat) (r : List α), ((List.range N).flatMap fun n => r.filter (fun p => decide (f p = n))).Perm (r.filter (fun p => decide (f p < N)))
  | 0, r => by
    have : r.filter (fun p => decide (f p < 0)) = [] := List.filter_eq_nil_iff.2 (fun p _ => by simp)
    rw [this]; exact List.Perm.refl _
  | N + 1, r => by
    rw [List.range_succ, List.flatMap_append]
    have h1 := split_perm f N r
    have h2 : (r.filter (fun p => decide (f p < N)) ++ r.filter (fun p => decide (f p = N))).Perm (r.filter (fun p => decide (f p < N + 1))) := by
      clear h1
      induction r with
      | nil => exact List.Perm.refl _
      | cons p r ih =>
        by_cases a : f p < N
        · rw [List.filter_cons_of_pos (by simpa using a), List.filter_cons_of_neg (by simp; omega), List.filter_cons_of_pos (by simp; omega)]
          exact ih.cons p
        · by_cases b : f p = N
          · rw [List.filter_cons_of_neg (by simpa using a), List.filter_cons_of_pos (by simpa using b), List.filter_cons_of_pos (by simp; omega)]
            exact List.perm_middle.trans (ih.cons p)
          · rw [List.filter_cons_of_neg (by simpa using a), List.filter_cons_of_neg (by simpa using b), List.filter_cons_of_neg (by simp; omega)]
            exact ih
    simp only [List.flatMap_cons, List.flatMap_nil, List.append_nil]
    exact (h1.append_right _).trans h2
theorem row_perm {N : Nat} {r : Row} (h : ∀ p ∈ r, p.2 < N) : ((List.range N).flatMap fun n => r.filter (fun p => decide (p.2 = n))).Perm r := by
  have h1 := split_perm (fun p : ByteArray × Nat => p.2) N r
  rwa [List.filter_eq_self.2 (fun p hp => by simpa using h p hp)] at h1
theorem rowAt_mem {d : Dk} (h : Ok d) (k : Int) : rowAt d k ∈ d.dirs := by
  unfold rowAt
  have hl : 0 < d.dirs.length := List.length_pos_iff.2 h.some
  rw [List.getD_eq_getElem?_getD, List.getElem?_eq_getElem (by omega)]
  exact List.getElem_mem _
/-- Each name of that row, with what its file is. -/
theorem picks_perm {d : Dk} (h : Ok d) (k : Int) (ks : List Int) : (picks d k ks).Perm ((rowAt d k).map (fun p => (p.1, momAt d ks p.2))) := by
  have hr := h.rows _ (rowAt_mem h k)
  have h1 := (row_perm (fun p hp => (hr.1 p hp).2)).map (fun p => (p.1, momAt d ks p.2))
  refine List.Perm.trans (List.Perm.of_eq ?_) h1
  unfold picks
  rw [List.map_flatMap]
  congr 1
  funext n
  refine List.map_congr_left fun p hp => ?_
  have := of_decide_eq_true (List.mem_filter.1 hp).2
  rw [this]
theorem numbered_names : ∀ (i : Nat) (l : List (ByteArray × By)), names (numbered i l) = l.map (·.1)
  | _, [] => rfl
  | i, p :: r => by simp only [numbered, names, List.map_cons]; rw [← numbered_names (i + 1) r]; rfl
theorem numbered_at : ∀ (i : Nat) (l : List (ByteArray × By)) (j : Nat) (h : j < l.length), (numbered i l)[j]? = some (l[j].1, i + j)
  | i, p :: r, 0, _ => rfl
  | i, p :: r, j + 1, h => by
    simp only [numbered, List.getElem?_cons_succ, List.getElem_cons_succ]
    rw [numbered_at (i + 1) r j (by simpa using h), show i + 1 + j = i + (j + 1) by omega]
theorem numbered_len : ∀ (i : Nat) (l : List (ByteArray × By)), (numbered i l).length = l.length
  | _, [] => rfl
  | i, p :: r => by simp [numbered, numbered_len (i + 1) r]
theorem numbered_mem {l : List (ByteArray × By)} {q : ByteArray × Nat} {i : Nat} (h : q ∈ numbered i l) : ∃ j, ∃ hj : j < l.length, q = (l[j].1, i + j) := by
  obtain ⟨j, hj, e⟩ := List.getElem_of_mem h
  rw [numbered_len] at hj
  have := numbered_at i l j hj
  rw [List.getElem?_eq_getElem (by rw [numbered_len]; exact hj)] at this
  exact ⟨j, hj, by rw [← e]; exact Option.some.inj this⟩
theorem numbered_idx (i : Nat) (l : List (ByteArray × By)) : (numbered i l).Pairwise (fun p q => p.2 ≠ q.2) := by
  induction l generalizing i with
  | nil => exact List.Pairwise.nil
  | cons p r ih =>
    refine List.pairwise_cons.2 ⟨fun q hq => ?_, ih (i + 1)⟩
    obtain ⟨j, _, rfl⟩ := numbered_mem hq
    simp only; omega

theorem picks_names {d : Dk} (h : Ok d) (k : Int) (ks : List Int) : ((picks d k ks).map (·.1)).Perm (names (rowAt d k)) := by
  have := (picks_perm h k ks).map (·.1)
  rw [List.map_map] at this
  exact this
theorem picks_ne {d : Dk} (h : Ok d) (k : Int) (ks : List Int) : ((picks d k ks).map (·.1)).Pairwise (fun a b => a ≠ b) :=
  (picks_names h k ks).symm.pairwise (names_ne (h.rows _ (rowAt_mem h k)).2.1) (fun h e => h e.symm)
theorem crash_dir (k : Int) (ks : List Int) (d : Dk) : dir (crash k ks d) = numbered 0 (picks d k ks) := rfl
theorem crash_ok {d : Dk} (h : Ok d) (k : Int) (ks : List Int) : Ok (crash k ks d) := by
  refine ⟨fun r hr => ?_, by simp [crash], fun x hx => ?_, by simp [crash]⟩
  · simp only [crash, List.mem_singleton] at hr
    subst hr
    refine ⟨fun q hq => ?_, ?_, numbered_idx _ _⟩
    · obtain ⟨j, hj, rfl⟩ := numbered_mem hq
      refine ⟨?_, by simp only [crash, List.length_map]; omega⟩
      have hm : (picks d k ks)[j].1 ∈ names (rowAt d k) := (picks_names h k ks).mem_iff.1 (List.mem_map_of_mem (List.getElem_mem hj))
      obtain ⟨p, hp, e⟩ := List.mem_map.1 hm
      rw [← e]
      exact ((h.rows _ (rowAt_mem h k)).1 p hp).1
    · have := picks_ne h k ks
      rw [← numbered_names 0, names, List.pairwise_map] at this
      exact this
  · simp only [crash, List.mem_map] at hx
    obtain ⟨p, _, rfl⟩ := hx
    simp
theorem crash_hist {d : Dk} {k : Int} {ks : List Int} {j : Nat} (hj : j < (picks d k ks).length) : hist (crash k ks d) j = [(picks d k ks)[j].2] := by
  unfold hist crash
  simp [List.getD_eq_getElem?_getD, List.getElem?_map, List.getElem?_eq_getElem hj]
theorem crash_now {d : Dk} {k : Int} {ks : List Int} {j : Nat} (hj : j < (picks d k ks).length) : now (crash k ks d) j = (picks d k ks)[j].2 := by
  unfold now; rw [crash_hist hj]; rfl
/-- What a name has then. -/
theorem crash_read {d : Dk} (h : Ok d) (k : Int) (ks : List Int) {n : ByteArray} {f : Nat} (hn : (n, f) ∈ rowAt d k) : read n (crash k ks d) = (momAt d ks f, 0) := by
  have hm : (n, momAt d ks f) ∈ picks d k ks := (picks_perm h k ks).mem_iff.2 (List.mem_map.2 ⟨(n, f), hn, rfl⟩)
  obtain ⟨j, hj, e⟩ := List.getElem_of_mem hm
  have h1 : (n, j) ∈ dir (crash k ks d) := by
    rw [crash_dir]
    have := numbered_at 0 (picks d k ks) j hj
    rw [e, Nat.zero_add] at this
    exact List.mem_of_getElem? this
  have h2 := find_mem (crash_ok h k ks).row.2.1 h1
  unfold read
  rw [if_neg (by simp [crash]), h2]
  simp only
  rw [crash_now hj, e]
theorem crash_none {d : Dk} (h : Ok d) (k : Int) (ks : List Int) {n : ByteArray} (hn : ∀ p ∈ rowAt d k, p.1 ≠ n) : read n (crash k ks d) = ([], 5) := by
  have h2 : find (dir (crash k ks d)) n = none := by
    refine find_none.2 fun p hp e => ?_
    rw [crash_dir] at hp
    obtain ⟨j, hj, rfl⟩ := numbered_mem hp
    have hm := (picks_names h k ks).mem_iff.1 (List.mem_map_of_mem (List.getElem_mem hj))
    obtain ⟨q, hq, e'⟩ := List.mem_map.1 hm
    exact hn q hq (e'.trans e)
  unfold read
  rw [if_neg (by simp [crash]), h2]
theorem crash_list {d : Dk} (h : Ok d) (k : Int) (ks : List Int) : list (crash k ks d) = sortN (names (rowAt d k)) := by
  unfold list
  rw [crash_dir, numbered_names]
  exact sortN_eq (picks_ne h k ks) (picks_names h k ks)
theorem numbered_sum (g : Nat → Nat) (l : List (ByteArray × By)) : ∀ (i : Nat), (∀ j (hj : j < l.length), g (i + j) = l[j].2.length) → ((numbered i l).map (fun p => g p.2)).sum = (l.map (fun p => p.2.length)).sum := by
  induction l with
  | nil => exact fun _ _ => rfl
  | cons p r ih =>
    intro i h
    simp only [numbered, List.map_cons, List.sum_cons]
    have h0 := h 0 (by simp)
    rw [Nat.add_zero] at h0
    simp only [List.getElem_cons_zero] at h0
    rw [h0, ih (i + 1) (fun j hj => by have := h (j + 1) (by simpa using hj); rw [show i + 1 + j = i + (j + 1) by omega]; simpa using this)]
theorem crash_used {d : Dk} (h : Ok d) (k : Int) (ks : List Int) : used (crash k ks d) = ((rowAt d k).map (fun p => (momAt d ks p.2).length)).sum := by
  unfold used
  rw [crash_dir, numbered_sum (fun j => (now (crash k ks d) j).length) _ 0 (fun j hj => by rw [Nat.zero_add, crash_now hj])]
  have := ((picks_perm h k ks).map (fun p => p.2.length)).sum_nat
  rw [this, List.map_map]
  rfl
/-- A second time nothing more is lost. -/
theorem filter_numbered : ∀ (i : Nat) (l : List (ByteArray × By)) (j : Nat) (h : j < l.length), (numbered i l).filter (fun p => decide (p.2 = i + j)) = [(l[j].1, i + j)]
  | i, p :: r, 0, _ => by
    simp only [numbered, Nat.add_zero, List.getElem_cons_zero]
    rw [List.filter_cons_of_pos (by simp), List.filter_eq_nil_iff.2 ?_]
    intro q hq
    obtain ⟨j, _, rfl⟩ := numbered_mem hq
    simp; omega
  | i, p :: r, j + 1, h => by
    simp only [numbered, List.getElem_cons_succ]
    rw [List.filter_cons_of_neg (by simp)]
    have := filter_numbered (i + 1) r j (by simpa using h)
    rw [show i + 1 + j = i + (j + 1) by omega] at this
    exact this
theorem range_map_get {α : Type} (l : List α) (g : Nat → List α) (h : ∀ j (hj : j < l.length), g j = [l[j]]) : (List.range l.length).flatMap g = l := by
  have : (List.range l.length).flatMap g = (List.range l.length).flatMap (fun j => match l[j]? with | some x => [x] | none => []) := by
    have hc : ∀ j ∈ List.range l.length, g j = (match l[j]? with | some x => [x] | none => []) := fun j hj => by
      rw [List.mem_range] at hj
      rw [h j hj, List.getElem?_eq_getElem hj]
    rw [List.flatMap_def, List.flatMap_def, List.map_congr_left hc]
  rw [this]
  clear this h g
  induction l with
  | nil => rfl
  | cons x r ih =>
    rw [List.length_cons, List.range_succ_eq_map, List.flatMap_cons, List.flatMap_map]
    simp only [List.getElem?_cons_zero, List.getElem?_cons_succ, List.cons_append, List.nil_append]
    rw [ih]
theorem crash_crash (j : Int) (js : List Int) (k : Int) (ks : List Int) (d : Dk) : crash j js (crash k ks d) = crash k ks d := by
  have hp : picks (crash k ks d) j js = picks d k ks := by
    unfold picks
    have hl : (crash k ks d).files.length = (picks d k ks).length := by simp [crash]
    rw [hl]
    refine range_map_get (picks d k ks) _ fun n hn => ?_
    have hr : rowAt (crash k ks d) j = numbered 0 (picks d k ks) := by
      unfold rowAt
      have : (min j (((crash k ks d).dirs.length : Int) - 1)).toNat = 0 := by simp only [crash, List.length_singleton]; omega
      rw [this]; rfl
    rw [hr]
    have := filter_numbered 0 (picks d k ks) n hn
    rw [Nat.zero_add] at this
    rw [this]
    have hm : momAt (crash k ks d) js n = (picks d k ks)[n].2 := by
      unfold momAt
      rw [crash_hist hn]
      split
      · have : (min (js.getD n 0) (([(picks d k ks)[n].2].length : Int) - 1)).toNat = 0 := by simp only [List.length_singleton]; omega
        rw [this]; rfl
      · rfl
    simp [hm]
  show Dk.mk _ _ _ _ _ _ = Dk.mk _ _ _ _ _ _
  rw [hp]
  rfl


/-! ## What fits -/
theorem sum_le {α : Type} (l : List α) (g h : α → Nat) (k : ∀ x ∈ l, g x ≤ h x) : (l.map g).sum ≤ (l.map h).sum := by
  induction l with
  | nil => exact Nat.le_refl _
  | cons x r ih =>
    simp only [List.map_cons, List.sum_cons]
    have := ih (fun y hy => k y (List.mem_cons_of_mem _ hy))
    have := k x (List.mem_cons_self ..)
    omega
theorem sum_eq {α : Type} (l : List α) (g h : α → Nat) (k : ∀ x ∈ l, g x = h x) : (l.map g).sum = (l.map h).sum := by rw [List.map_congr_left k]
theorem sum_filter {α : Type} (l : List α) (g : α → Nat) (p : α → Bool) : ((l.filter p).map g).sum ≤ (l.map g).sum := by
  induction l with
  | nil => exact Nat.le_refl _
  | cons x r ih =>
    by_cases h : p x = true
    · rw [List.filter_cons_of_pos h]; simp only [List.map_cons, List.sum_cons]; omega
    · rw [List.filter_cons_of_neg h]; simp only [List.map_cons, List.sum_cons]; omega
theorem sum_change {r : Row} (hr : r.Pairwise (fun p q => p.2 ≠ q.2)) {g h : Nat → Nat} {f : Nat} (k : ∀ i, i ≠ f → h i = g i) {n : ByteArray} (hm : (n, f) ∈ r) : (r.map (fun p => h p.2)).sum + g f = (r.map (fun p => g p.2)).sum + h f := by
  induction r with
  | nil => simp at hm
  | cons p r ih =>
    obtain ⟨h1, h2⟩ := List.pairwise_cons.1 hr
    simp only [List.map_cons, List.sum_cons]
    rcases List.mem_cons.1 hm with e | hm
    · subst e
      rw [sum_eq r (fun p => h p.2) (fun p => g p.2) (fun q hq => k q.2 (fun e => h1 q hq e.symm))]
      simp only; omega
    · have := ih h2 hm
      rw [k p.2 (h1 _ hm)]
      omega
theorem without_sum {r : Row} {g : ByteArray × Nat → Nat} {n : ByteArray} {f : Nat} (hm : (n, f) ∈ r) : ((without r n).map g).sum + g (n, f) ≤ (r.map g).sum := by
  induction r with
  | nil => simp at hm
  | cons p r ih =>
    unfold without at *
    simp only [List.map_cons, List.sum_cons]
    rcases List.mem_cons.1 hm with e | hm
    · subst e
      rw [List.filter_cons_of_neg (by simp)]
      have := sum_filter r g (fun p => decide (p.1 ≠ n))
      omega
    · have := ih hm
      by_cases h : p.1 = n
      · rw [List.filter_cons_of_neg (by simpa using h)]; omega
      · rw [List.filter_cons_of_pos (by simpa using h)]
        simp only [List.map_cons, List.sum_cons]; omega
theorem now_set (d : Dk) {f : Nat} (hf : f < d.files.length) (l : List By) (k : Nat) (i : Nat) : now { d with fail := k, files := d.files.set f l } i = if i = f then l.getLastD [] else now d i := by
  unfold now
  show ((d.files.set f l).getD i []).getLastD [] = _
  rw [hist_set d hf]
  split <;> rfl
theorem used_set {d : Dk} (h : Ok d) {n : ByteArray} {f : Nat} (hf : find (dir d) n = some f) (l : List By) (k : Nat) : used { d with fail := k, files := d.files.set f l } + (now d f).length = used d + (l.getLastD []).length := by
  unfold used
  show ((dir d).map _).sum + _ = _
  have := sum_change h.row.2.2 (g := fun i => (now d i).length) (h := fun i => (now { d with fail := k, files := d.files.set f l } i).length) (f := f) (fun i hi => by rw [now_set d (find_lt h hf), if_neg hi]) (find_some hf)
  rw [now_set d (find_lt h hf) l k f, if_pos rfl] at this
  exact this
theorem fronts_last (h : List By) (b s : By) (hb : h.getLastD [] = b) : (h ++ fronts b s).getLastD [] = b ++ s := by
  rw [List.getLastD_eq_getLast?, List.getLast?_append]
  cases s with
  | nil => simp only [fronts, List.length_nil, List.range_zero, List.map_nil, List.getLast?_nil, Option.none_or, List.append_nil]; rw [← hb, List.getLastD_eq_getLast?]
  | cons x r =>
    have : (fronts b (x :: r)).getLast? = some (b ++ (x :: r)) := by
      unfold fronts
      rw [List.length_cons, List.range_succ, List.map_append, List.map_singleton, List.getLast?_concat]
      simp
    rw [this]; rfl
theorem take_last (h : List By) (c : By) : (h ++ [c]).getLastD [] = c := by simp [List.getLastD_eq_getLast?]
theorem now_on (d : Dk) (f : Nat) : now (on d) f = now d f := rfl
theorem used_on (d : Dk) : used (on d) = used d := rfl
theorem on_ok {d : Dk} (h : Ok d) : Ok (on d) := act_ok (f := fun d => (d, 0)) (d := d) h (fun _ h => h) |> fun k => by
  unfold act at k
  split at k
  · rename_i e
    refine ⟨h.rows, h.some, h.hists, ?_⟩
    unfold on; simp only; rw [e]; simp
  · exact k
def Fits (d : Dk) : Prop := used d ≤ d.room
theorem act_fits {d : Dk} {f : Dk → Dk × Int} (hk : Ok d) (h : Fits d) (hf : ∀ d, Ok d → Fits d → Fits (f d).1) : Fits (act d f).1 := by
  unfold act
  split
  · exact h
  · exact hf _ (on_ok hk) h
theorem row_fits {d : Dk} (h : Fits d) (r : Row) (hr : (r.map (fun p => (now d p.2).length)).sum ≤ used d) : Fits { d with dirs := d.dirs ++ [r] } := by
  unfold Fits used
  rw [dir_snoc d d.dirs r]
  exact Nat.le_trans hr h
theorem create_fits (n : ByteArray) {d : Dk} (hk : Ok d) (h : Fits d) : Fits (create n d).1 := by
  refine act_fits hk h fun d hk h => ?_
  unfold createB
  split
  · exact h
  · split
    · exact h
    · show used _ ≤ d.room
      unfold used
      rw [dir_snoc { d with files := d.files ++ [[[]]] } d.dirs _, List.map_append, List.sum_append]
      have h1 : ((without (dir d) n).map (fun p => (now { d with files := d.files ++ [[[]]], dirs := d.dirs ++ [without (dir d) n ++ [(n, d.files.length)]] } p.2).length)).sum ≤ used d := by
        refine Nat.le_trans (Nat.le_of_eq (sum_eq _ _ (fun p => (now d p.2).length) fun p hp => ?_)) (sum_filter _ _ _)
        have := (hk.row.1 p (without_sub hp)).2
        unfold now hist
        simp only
        rw [List.getD_eq_getElem?_getD, List.getElem?_append_left this, ← List.getD_eq_getElem?_getD]
      have h2 : now { d with files := d.files ++ [[[]]], dirs := d.dirs ++ [without (dir d) n ++ [(n, d.files.length)]] } d.files.length = [] := by
        unfold now hist
        simp [List.getD_eq_getElem?_getD]
      simp only [List.map_cons, List.map_nil, List.sum_cons, List.sum_nil, h2, List.length_nil]
      unfold Fits at h
      omega
theorem append_fits (n : ByteArray) (s : By) {d : Dk} (hk : Ok d) (h : Fits d) : Fits (append n s d).1 := by
  refine act_fits hk h fun d hk h => ?_
  unfold appendB
  split
  · exact h
  · rename_i f hf
    split
    · exact h
    · rename_i hr
      split
      · exact h
      · have := used_set hk hf (hist d f ++ fronts (now d f) s) (d.fail - 1)
        rw [fronts_last (hist d f) (now d f) s rfl, List.length_append] at this
        show used { d with fail := d.fail - 1, files := d.files.set f (hist d f ++ fronts (now d f) s) } ≤ d.room
        omega
theorem cut_fits (n : ByteArray) (to : Int) {d : Dk} (hk : Ok d) (h : Fits d) : Fits (cut n to d).1 := by
  refine act_fits hk h fun d hk h => ?_
  unfold cutB
  split
  · exact h
  · rename_i f hf
    split
    · exact h
    · have := used_set hk hf (hist d f ++ [(now d f).take to.toNat]) d.fail
      rw [take_last, List.length_take] at this
      unfold Fits at h
      show used { d with fail := d.fail, files := d.files.set f (hist d f ++ [(now d f).take to.toNat]) } ≤ d.room
      omega
theorem sync_fits (n : ByteArray) {d : Dk} (hk : Ok d) (h : Fits d) : Fits (sync n d).1 := by
  refine act_fits hk h fun d hk h => ?_
  unfold syncB
  split
  · exact h
  · rename_i f hf
    split
    · exact h
    · have := used_set hk hf [now d f] (d.fail - 1)
      unfold Fits at h
      show used { d with fail := d.fail - 1, files := d.files.set f [now d f] } ≤ d.room
      simp only [List.getLastD_cons, List.getLastD_nil] at this
      omega
theorem rename_fits (n m : ByteArray) {d : Dk} (hk : Ok d) (h : Fits d) : Fits (rename n m d).1 := by
  refine act_fits hk h fun d hk h => ?_
  unfold renameB
  split
  · exact h
  · rename_i f hf
    split
    · exact h
    · refine row_fits h _ ?_
      rw [List.map_append, List.sum_append]
      simp only [List.map_cons, List.map_nil, List.sum_cons, List.sum_nil]
      have h1 : ((without (without (dir d) n) m).map (fun p => (now d p.2).length)).sum ≤ ((without (dir d) n).map (fun p => (now d p.2).length)).sum := sum_filter _ _ _
      have h2 := without_sum (g := fun p => (now d p.2).length) (find_some hf)
      unfold used
      simp only at h2
      omega
theorem remove_fits (n : ByteArray) {d : Dk} (hk : Ok d) (h : Fits d) : Fits (remove n d).1 := by
  refine act_fits hk h fun d hk h => ?_
  unfold removeB
  split
  · exact h
  · exact row_fits h _ (sum_filter _ _ _)
theorem syncDir_fits {d : Dk} (hk : Ok d) (h : Fits d) : Fits (syncDir d).1 := by
  refine act_fits hk h fun d hk h => ?_
  unfold syncDirB
  exact h

end Go.Proofs.YtafaobdakicjlaaGreat.Dsk
