/-
  Chapter 7, plain: how great a disk is behind so many acts; how many bytes it has behind a change of names. No program here.
-/
import Derived.Test.YtpbiongoigbmpaaGreatFirsts
namespace Go.Proofs.YtpbiongoigbmpaaGreat.Dsk
open Go.Proofs.YtpbiongoigbmpaaGreat

structure Bud (D : Dk) (c : Nat) : Prop where
  files : D.files.length ≤ c
  dirs : D.dirs.length ≤ c + 1
  rows : ∀ r ∈ D.dirs, r.length ≤ c
  hists : ∀ h ∈ D.files, h.length ≤ c + 1
  texts : ∀ h ∈ D.files, ∀ x ∈ h, x.length ≤ c
  ops : D.ops ≤ c
theorem Bud.mono {D : Dk} {c c' : Nat} (h : Bud D c) (k : c ≤ c') : Bud D c' :=
  ⟨Nat.le_trans h.files k, by have := h.dirs; omega, fun r hr => Nat.le_trans (h.rows r hr) k, fun x hx => by have := h.hists x hx; omega, fun x hx y hy => Nat.le_trans (h.texts x hx y hy) k, Nat.le_trans h.ops k⟩
theorem bud_fresh (room : Int) : Bud (fresh room) 0 := ⟨Nat.le_refl _, Nat.le_refl _, fun r hr => by simp [fresh] at hr; subst hr; exact Nat.le_refl _, fun x hx => by simp [fresh] at hx, fun x hx => by simp [fresh] at hx, Nat.le_refl _⟩
theorem Bud.on {D : Dk} {c : Nat} (h : Bud D c) : Bud (on D) (c + 1) := by
  have := h.mono (Nat.le_succ c)
  exact ⟨this.files, this.dirs, this.rows, this.hists, this.texts, Nat.succ_le_succ h.ops⟩
theorem hist_mem {D : Dk} {i : Nat} (h : i < D.files.length) : hist D i ∈ D.files := by
  unfold hist
  rw [List.getD_eq_getElem?_getD, List.getElem?_eq_getElem h]
  exact List.getElem_mem _
theorem now_mem {D : Dk} (hk : Ok D) {i : Nat} (h : i < D.files.length) : now D i ∈ hist D i := by
  unfold now
  have := hk.hists _ (hist_mem h)
  rw [List.getLastD_eq_getLast?, List.getLast?_eq_some_getLast this]
  exact List.getLast_mem this
theorem Bud.now {D : Dk} {c : Nat} (h : Bud D c) (hk : Ok D) (i : Nat) : (Dsk.now D i).length ≤ c := by
  by_cases hi : i < D.files.length
  · exact h.texts _ (hist_mem hi) _ (now_mem hk hi)
  · unfold Dsk.now hist
    rw [List.getD_eq_getElem?_getD, List.getElem?_eq_none (by omega)]
    exact Nat.zero_le _
theorem sum_bound {α : Type} (l : List α) (g : α → Nat) (c : Nat) (h : ∀ x ∈ l, g x ≤ c) : (l.map g).sum ≤ l.length * c := by
  induction l with
  | nil => simp
  | cons x r ih =>
    simp only [List.map_cons, List.sum_cons, List.length_cons, Nat.add_mul, Nat.one_mul]
    have := ih (fun y hy => h y (List.mem_cons_of_mem _ hy))
    have := h x (List.mem_cons_self ..)
    omega
theorem Bud.used {D : Dk} {c : Nat} (h : Bud D c) (hk : Ok D) : Dsk.used D ≤ c * c :=
  Nat.le_trans (sum_bound _ _ c (fun p _ => h.now hk p.2)) (Nat.mul_le_mul_right _ (h.rows _ (dir_mem hk.some)))
theorem Bud.set {D : Dk} {c : Nat} (h : Bud D c) (f k : Nat) (l : List By) (h1 : l.length ≤ c + 1) (h2 : ∀ x ∈ l, x.length ≤ c) : Bud { D with fail := k, files := D.files.set f l } c :=
  ⟨by simp only [List.length_set]; exact h.files, h.dirs, h.rows, fun x hx => by
    rcases List.mem_or_eq_of_mem_set hx with hx | rfl
    · exact h.hists x hx
    · exact h1, fun x hx => by
    rcases List.mem_or_eq_of_mem_set hx with hx | rfl
    · exact h.texts x hx
    · exact h2, h.ops⟩
theorem Bud.row {D : Dk} {c : Nat} (h : Bud D c) (r : Row) (h1 : D.dirs.length ≤ c) (h2 : r.length ≤ c) : Bud { D with dirs := D.dirs ++ [r] } c :=
  ⟨h.files, by simp only [List.length_append, List.length_singleton]; omega, fun x hx => by
    rcases List.mem_append.1 hx with hx | hx
    · exact h.rows x hx
    · simp at hx; subst hx; exact h2, h.hists, h.texts, h.ops⟩
theorem fronts_mem {b s x : By} (h : x ∈ fronts b s) : x.length ≤ b.length + s.length := by
  unfold fronts at h
  obtain ⟨i, _, rfl⟩ := List.mem_map.1 h
  rw [List.length_append, List.length_take]
  omega
theorem fronts_len (b s : By) : (fronts b s).length = s.length := by simp [fronts]
theorem without_len (r : Row) (n : ByteArray) : (without r n).length ≤ r.length := List.length_filter_le _ _

/-- A disk behind one operation. -/
theorem bud_act {D : Dk} {f : Dk → Dk × Int} {c c' : Nat} (h : Bud D c) (hc : c ≤ c') (hf : Bud (on D) (c + 1) → Bud (f (on D)).1 c') : Bud (act D f).1 c' := by
  unfold act
  split
  · exact h.mono hc
  · exact hf h.on
theorem bud_createB {D : Dk} {c : Nat} (n : ByteArray) (h : Bud D c) (h1 : D.dirs.length ≤ c) (h2 : D.files.length + 1 ≤ c) (h3 : (dir D).length + 1 ≤ c) : Bud (createB n D).1 c := by
  unfold createB
  split
  · exact h
  · split
    · exact h
    · refine ⟨by simp only [List.length_append, List.length_singleton]; omega, by simp only [List.length_append, List.length_singleton]; omega, fun x hx => ?_, fun x hx => ?_, fun x hx => ?_, h.ops⟩
      · rcases List.mem_append.1 hx with hx | hx
        · exact h.rows x hx
        · simp at hx; subst hx
          have := without_len (dir D) n
          rw [List.length_append, List.length_singleton]; omega
      · rcases List.mem_append.1 hx with hx | hx
        · exact h.hists x hx
        · simp at hx; subst hx; simp
      · rcases List.mem_append.1 hx with hx | hx
        · exact h.texts x hx
        · simp at hx; subst hx; simp
theorem on_room {D : Dk} {c : Nat} (h : Bud D c) (hk : Ok D) : (on D).dirs.length ≤ c + 1 ∧ (on D).files.length + 1 ≤ c + 1 ∧ (dir (on D)).length + 1 ≤ c + 1 :=
  ⟨h.dirs, Nat.succ_le_succ h.files, Nat.succ_le_succ (h.rows _ (dir_mem hk.some))⟩
theorem bud_create {D : Dk} {c : Nat} (n : ByteArray) (h : Bud D c) (hk : Ok D) : Bud (create n D).1 (c + 1) := by
  obtain ⟨a, b, d⟩ := on_room h hk
  exact bud_act h (Nat.le_succ _) (fun h' => bud_createB n h' a b d)
theorem bud_append {D : Dk} {c : Nat} (n : ByteArray) (s : By) (h : Bud D c) (hk : Ok D) : Bud (append n s D).1 (c + 1 + s.length) := by
  refine bud_act h (by omega) (fun h' => ?_)
  unfold appendB
  have h2 := h'.mono (Nat.le_add_right (c + 1) s.length)
  split
  · exact h2
  · rename_i f hf
    split
    · exact h2
    · split
      · exact ⟨h2.files, h2.dirs, h2.rows, h2.hists, h2.texts, h2.ops⟩
      · have hlt := find_lt (on_ok hk) hf
        refine h2.set f _ _ ?_ (fun x hx => ?_)
        · rw [List.length_append, fronts_len]
          have := h'.hists _ (hist_mem hlt); omega
        · rcases List.mem_append.1 hx with hx | hx
          · exact h2.texts _ (hist_mem hlt) x hx
          · have := fronts_mem hx
            have := h'.now (on_ok hk) f
            omega
theorem bud_cut {D : Dk} {c : Nat} (n : ByteArray) (to : Int) (h : Bud D c) (hk : Ok D) : Bud (cut n to D).1 (c + 1) := by
  refine bud_act h (by omega) (fun h' => ?_)
  unfold cutB
  split
  · exact h'
  · rename_i f hf
    split
    · exact h'
    · have hlt := find_lt (on_ok hk) hf
      refine h'.set f _ _ ?_ (fun x hx => ?_)
      · rw [List.length_append, List.length_singleton]
        have : (hist (on D) f).length ≤ c + 1 := h.hists _ (hist_mem (D := D) hlt)
        omega
      · rcases List.mem_append.1 hx with hx | hx
        · exact h'.texts _ (hist_mem hlt) x hx
        · simp at hx; subst hx
          have := h'.now (on_ok hk) f
          rw [List.length_take]; omega
theorem bud_sync {D : Dk} {c : Nat} (n : ByteArray) (h : Bud D c) (hk : Ok D) : Bud (sync n D).1 (c + 1) := by
  refine bud_act h (by omega) (fun h' => ?_)
  unfold syncB
  split
  · exact h'
  · rename_i f hf
    split
    · exact ⟨h'.files, h'.dirs, h'.rows, h'.hists, h'.texts, h'.ops⟩
    · exact h'.set f _ _ (by simp) (fun x hx => by simp at hx; subst hx; exact h'.now (on_ok hk) f)
theorem bud_rename {D : Dk} {c : Nat} (n m : ByteArray) (h : Bud D c) (hk : Ok D) : Bud (rename n m D).1 (c + 1) := by
  obtain ⟨a, _, d⟩ := on_room h hk
  refine bud_act h (by omega) (fun h' => ?_)
  unfold renameB
  split
  · exact h'
  · split
    · exact h'
    · refine h'.row _ a ?_
      have := without_len (without (dir (on D)) n) m
      have := without_len (dir (on D)) n
      rw [List.length_append, List.length_singleton]; omega
theorem bud_remove {D : Dk} {c : Nat} (n : ByteArray) (h : Bud D c) (hk : Ok D) : Bud (remove n D).1 (c + 1) := by
  obtain ⟨a, _, d⟩ := on_room h hk
  refine bud_act h (by omega) (fun h' => ?_)
  unfold removeB
  split
  · exact h'
  · refine h'.row _ a ?_
    have := without_len (dir (on D)) n
    omega
theorem bud_syncDir {D : Dk} {c : Nat} (h : Bud D c) (hk : Ok D) : Bud (syncDir D).1 (c + 1) := by
  refine bud_act h (by omega) (fun h' => ?_)
  unfold syncDirB
  exact ⟨h'.files, by simp only [List.length_singleton]; omega, fun r hr => by simp at hr; subst hr; exact h'.rows _ (dir_mem (on_ok hk).some), h'.hists, h'.texts, h'.ops⟩
theorem bud_setFail {D : Dk} {c : Nat} (n : Int) (h : Bud D c) : Bud (setFail n D) c := ⟨h.files, h.dirs, h.rows, h.hists, h.texts, h.ops⟩
theorem bud_setStop {D : Dk} {c : Nat} (n : Int) (h : Bud D c) : Bud (setStop n D) c := ⟨h.files, h.dirs, h.rows, h.hists, h.texts, h.ops⟩
theorem bud_crash {D : Dk} {c : Nat} (k : Int) (ks : List Int) (h : Bud D c) (hk : Ok D) : Bud (crash k ks D) c := by
  have hl : (picks D k ks).length ≤ c := by
    have := (picks_names hk k ks).length_eq
    rw [List.length_map] at this
    rw [this, names, List.length_map]
    exact h.rows _ (rowAt_mem hk k)
  refine ⟨by simp only [crash, List.length_map]; exact hl, by simp only [crash, List.length_singleton]; omega, fun r hr => ?_, fun x hx => ?_, fun x hx => ?_, Nat.zero_le _⟩
  · simp only [crash, List.mem_singleton] at hr
    subst hr
    rw [numbered_len]; exact hl
  · simp only [crash, List.mem_map] at hx
    obtain ⟨p, _, rfl⟩ := hx
    simp
  · simp only [crash, List.mem_map] at hx
    obtain ⟨p, hp, rfl⟩ := hx
    intro y hy
    simp at hy
    subst hy
    obtain ⟨q, hq, e⟩ := List.mem_map.1 ((picks_perm hk k ks).mem_iff.1 hp)
    rw [← e]
    simp only
    have hlt := ((hk.rows _ (rowAt_mem hk k)).1 q hq).2
    unfold momAt
    rw [List.getD_eq_getElem?_getD]
    generalize (if q.2 < ks.length then _ else 0) = j
    by_cases hj : j < (hist D q.2).length
    · rw [List.getElem?_eq_getElem hj]
      exact h.texts _ (hist_mem hlt) _ (List.getElem_mem _)
    · rw [List.getElem?_eq_none (by omega)]
      exact Nat.zero_le _

/-! ## How many bytes there are behind a change of names -/
def szN (D : Dk) : Option Nat → Nat
  | none => 0
  | some i => (now D i).length
theorem used_without {D : Dk} (hk : Ok D) (n : ByteArray) : ((without (dir D) n).map (fun p => (now D p.2).length)).sum + szN D (find (dir D) n) = used D := by
  have := sum_without hk.row.2.1 (fun i => (now D i).length) n
  unfold used
  rw [← this]
  cases find (dir D) n <;> rfl
theorem used_remove {D : Dk} (hk : Ok D) (n : ByteArray) : used { D with dirs := D.dirs ++ [without (dir D) n] } + szN D (find (dir D) n) = used D := by
  rw [← used_without hk n]
  unfold used
  rw [dir_snoc D D.dirs _]
  rfl
theorem used_rename {D : Dk} (hk : Ok D) (n m : ByteArray) (i : Nat) : used { D with dirs := D.dirs ++ [without (without (dir D) n) m ++ [(m, i)]] } + szN D (find (without (dir D) n) m) + szN D (find (dir D) n) = used D + szN D (some i) := by
  have h1 := used_without hk n
  have h2 : ((without (without (dir D) n) m).map (fun p => (now D p.2).length)).sum + szN D (find (without (dir D) n) m) = ((without (dir D) n).map (fun p => (now D p.2).length)).sum := by
    rw [← sum_without (hk.row.without n).2.1 (fun i => (now D i).length) m]
    cases find (without (dir D) n) m <;> rfl
  have h3 : used { D with dirs := D.dirs ++ [without (without (dir D) n) m ++ [(m, i)]] } = ((without (without (dir D) n) m).map (fun p => (now D p.2).length)).sum + (now D i).length := by
    unfold used
    rw [dir_snoc D D.dirs _, List.map_append, List.sum_append]
    simp only [List.map_cons, List.map_nil, List.sum_cons, List.sum_nil, Nat.add_zero]
    rfl
  rw [h3]
  show _ + (now D i).length + _ + _ = _ + (now D i).length
  omega
theorem used_create {D : Dk} (hk : Ok D) {n : ByteArray} (hf : find (dir D) n = none) : used { D with files := D.files ++ [[[]]], dirs := D.dirs ++ [without (dir D) n ++ [(n, D.files.length)]] } = used D := by
  have h1 := used_without hk n
  rw [hf] at h1
  simp only [szN, Nat.add_zero] at h1
  unfold used at h1 ⊢
  rw [dir_snoc { D with files := D.files ++ [[[]]] } D.dirs _, List.map_append, List.sum_append, ← h1]
  have h2 : now { D with files := D.files ++ [[[]]], dirs := D.dirs ++ [without (dir D) n ++ [(n, D.files.length)]] } D.files.length = [] := by
    unfold now hist
    simp [List.getD_eq_getElem?_getD]
  simp only [List.map_cons, List.map_nil, List.sum_cons, List.sum_nil, h2, List.length_nil, Nat.add_zero]
  refine sum_eq _ _ _ fun p hp => ?_
  have := (hk.row.1 p (without_sub hp)).2
  unfold now hist
  simp only
  rw [List.getD_eq_getElem?_getD, List.getElem?_append_left this, ← List.getD_eq_getElem?_getD]

end Go.Proofs.YtpbiongoigbmpaaGreat.Dsk
