/-
  Chapter 7, plain: two disks side by side: one whose power goes, one that fails; all that is synced stays; a file that is appended to; a file that is renamed. No program here.
-/
import Derived.Test.YtpbiongoigbmpaaGreatFirsts
namespace Go.Proofs.YtpbiongoigbmpaaGreat.Dsk
open Go.Proofs.YtpbiongoigbmpaaGreat

/-- Acts by their numbers, as the chapter's statements have them. -/
def does (k : Nat) (n t : ByteArray) (s : By) (N : Int) (d : Dk) : Dk × Int :=
  if k < 2 then create n d else if k < 6 then append n s d else if k = 6 then cut n N d else if k < 9 then sync n d else if k = 9 then rename n t d
  else if k = 10 then remove n d else if k < 13 then syncDir d else if k = 13 then (setFail (N.tmod 9) d, 0) else (setStop (N.tmod 50) d, 0)
theorem does_ok (k : Nat) (n t : ByteArray) (s : By) (N : Int) {d : Dk} (h : Ok d) : Ok (does k n t s N d).1 := by
  unfold does
  split
  · exact create_ok n h
  · split
    · exact append_ok n s h
    · split
      · exact cut_ok n N h
      · split
        · exact sync_ok n h
        · split
          · exact rename_ok n t h
          · split
            · exact remove_ok n h
            · split
              · exact syncDir_ok h
              · split
                · exact setFail_ok _ h
                · exact setStop_ok _ h
theorem does_fits (k : Nat) (n t : ByteArray) (s : By) (N : Int) {d : Dk} (hk : Ok d) (h : Fits d) : Fits (does k n t s N d).1 := by
  unfold does
  split
  · exact create_fits n hk h
  · split
    · exact append_fits n s hk h
    · split
      · exact cut_fits n N hk h
      · split
        · exact sync_fits n hk h
        · split
          · exact rename_fits n t hk h
          · split
            · exact remove_fits n hk h
            · split
              · exact syncDir_fits hk h
              · split
                · exact h
                · exact h
theorem fresh_fits (room : Int) : Fits (fresh room) := Nat.zero_le _
theorem act_room {d : Dk} {f : Dk → Dk × Int} (hf : ∀ d, (f d).1.room = d.room) : (act d f).1.room = d.room := by
  unfold act
  split
  · rfl
  · rw [hf]; rfl

/-! ## The power goes -/
/-- A body that sees neither the count nor the power. -/
def Blind (f : Dk → Dk × Int) : Prop := ∀ (a : Dk) (o : Nat) (l : Int), f { a with ops := o, left := l } = ({ (f a).1 with ops := o, left := l }, (f a).2)
theorem Blind.keeps {f : Dk → Dk × Int} (h : Blind f) (a : Dk) : (f a).1.ops = a.ops ∧ (f a).1.left = a.left := by
  have := h a a.ops a.left
  have e : ({ a with ops := a.ops, left := a.left } : Dk) = a := rfl
  rw [e] at this
  have h1 := congrArg (fun x => x.1.ops) this
  have h2 := congrArg (fun x => x.1.left) this
  exact ⟨h1, h2⟩
theorem blind_create (n : ByteArray) : Blind (createB n) := by
  intro a o l
  unfold createB
  show (if isName n = false then _ else match find (dir a) n with | some _ => _ | none => _) = _
  split
  · rfl
  · cases find (dir a) n <;> rfl
theorem blind_append (n : ByteArray) (s : By) : Blind (appendB n s) := by
  intro a o l
  unfold appendB
  show (match find (dir a) n with | none => _ | some f => if a.room < used a + s.length then _ else if a.fail = 1 then _ else _) = _
  cases find (dir a) n with
  | none => rfl
  | some f =>
    simp only
    split
    · rfl
    · split <;> rfl
theorem blind_cut (n : ByteArray) (to : Int) : Blind (cutB n to) := by
  intro a o l
  unfold cutB
  show (match find (dir a) n with | none => _ | some f => if to < 0 ∨ ((now a f).length : Int) < to then _ else _) = _
  cases find (dir a) n with
  | none => rfl
  | some f =>
    simp only
    split <;> rfl
theorem blind_sync (n : ByteArray) : Blind (syncB n) := by
  intro a o l
  unfold syncB
  show (match find (dir a) n with | none => _ | some f => if a.fail = 1 then _ else _) = _
  cases find (dir a) n with
  | none => rfl
  | some f =>
    simp only
    split <;> rfl
theorem blind_rename (n m : ByteArray) : Blind (renameB n m) := by
  intro a o l
  unfold renameB
  show (match find (dir a) n with | none => _ | some f => if isName m = false then _ else _) = _
  cases find (dir a) n with
  | none => rfl
  | some f =>
    simp only
    split <;> rfl
theorem blind_remove (n : ByteArray) : Blind (removeB n) := by
  intro a o l
  unfold removeB
  show (match find (dir a) n with | none => _ | some _ => _) = _
  cases find (dir a) n <;> rfl
theorem blind_syncDir : Blind syncDirB := fun _ _ _ => rfl

/-- a: so many operations, and then no power; b: the same with power for ever. -/
def StopRel (k : Nat) (a b : Dk) : Prop := b = { a with left := -1 } ∧ a.left = (k : Int) - (a.ops : Int) ∧ a.ops ≤ k
theorem StopRel.step {k : Nat} {a b : Dk} (h : StopRel k a b) {f : Dk → Dk × Int} (hf : Blind f) (hk : a.ops < k) : StopRel k (act a f).1 (act b f).1 := by
  obtain ⟨rfl, hl, ho⟩ := h
  have ha : act a f = f { a with ops := a.ops + 1, left := a.left - 1 } := by
    unfold act
    rw [if_neg (by omega)]
    unfold on
    rw [if_pos (by omega)]
  have hb : act { a with left := -1 } f = f { a with ops := a.ops + 1, left := -1 } := by
    unfold act
    rw [if_neg (by simp)]
    rfl
  have e1 := hf a (a.ops + 1) (a.left - 1)
  have e2 := hf a (a.ops + 1) (-1)
  rw [ha, hb, e1, e2]
  refine ⟨rfl, ?_, ?_⟩
  · simp only; omega
  · simp only; omega
theorem StopRel.dead {k : Nat} {a b : Dk} (h : StopRel k a b) (f : Dk → Dk × Int) (hk : ¬ a.ops < k) : act a f = (a, 11) := by
  obtain ⟨_, hl, ho⟩ := h
  unfold act
  rw [if_pos (by omega)]
theorem StopRel.ops {k : Nat} {a b : Dk} (h : StopRel k a b) : b.ops = a.ops := by rw [h.1]
/-- An act that is an operation. -/
theorem does_act {k : Nat} (hk : k ≤ 12) (n t : ByteArray) (s : By) (N : Int) : ∃ f, Blind f ∧ ∀ d, does k n t s N d = act d f := by
  by_cases h1 : k < 2
  · exact ⟨_, blind_create n, fun d => by unfold does; rw [if_pos h1]; rfl⟩
  by_cases h2 : k < 6
  · exact ⟨_, blind_append n s, fun d => by unfold does; rw [if_neg h1, if_pos h2]; rfl⟩
  by_cases h3 : k = 6
  · exact ⟨_, blind_cut n N, fun d => by unfold does; rw [if_neg h1, if_neg h2, if_pos h3]; rfl⟩
  by_cases h4 : k < 9
  · exact ⟨_, blind_sync n, fun d => by unfold does; rw [if_neg h1, if_neg h2, if_neg h3, if_pos h4]; rfl⟩
  by_cases h5 : k = 9
  · exact ⟨_, blind_rename n t, fun d => by unfold does; rw [if_neg h1, if_neg h2, if_neg h3, if_neg h4, if_pos h5]; rfl⟩
  by_cases h6 : k = 10
  · exact ⟨_, blind_remove n, fun d => by unfold does; rw [if_neg h1, if_neg h2, if_neg h3, if_neg h4, if_neg h5, if_pos h6]; rfl⟩
  · exact ⟨_, blind_syncDir, fun d => by unfold does; rw [if_neg h1, if_neg h2, if_neg h3, if_neg h4, if_neg h5, if_neg h6, if_pos (by omega)]; rfl⟩
theorem stop_start (room : Int) (k : Nat) : StopRel k (setStop (k : Int) (fresh room)) (fresh room) := by
  refine ⟨rfl, ?_, Nat.zero_le _⟩
  simp only [setStop, fresh]; omega

/-! ## One fails -/
/-- A body that does not see what fails, either. -/
def Blind3 (f : Dk → Dk × Int) : Prop := ∀ (a : Dk) (o : Nat) (l : Int) (x : Nat), f { a with ops := o, left := l, fail := x } = ({ (f a).1 with ops := o, left := l, fail := x }, (f a).2)
theorem blind3_create (n : ByteArray) : Blind3 (createB n) := by
  intro a o l x
  unfold createB
  show (if isName n = false then _ else match find (dir a) n with | some _ => _ | none => _) = _
  split
  · rfl
  · cases find (dir a) n <;> rfl
theorem blind3_cut (n : ByteArray) (to : Int) : Blind3 (cutB n to) := by
  intro a o l x
  unfold cutB
  show (match find (dir a) n with | none => _ | some f => if to < 0 ∨ ((now a f).length : Int) < to then _ else _) = _
  cases find (dir a) n with
  | none => rfl
  | some f =>
    simp only
    split <;> rfl
theorem blind3_remove (n : ByteArray) : Blind3 (removeB n) := by
  intro a o l x
  unfold removeB
  show (match find (dir a) n with | none => _ | some _ => _) = _
  cases find (dir a) n <;> rfl
theorem blind3_syncDir : Blind3 syncDirB := fun _ _ _ _ => rfl
/-- a has one that fails ahead of it, or behind it (j: how many failed); b none. -/
def FailRel (j : Nat) (a b : Dk) : Prop := ∃ x, a = { b with fail := x, ops := b.ops + j } ∧ b.fail = 0 ∧ b.left = -1 ∧ (j = 0 ∧ 1 ≤ x ∨ j = 1 ∧ x = 0)
theorem on_for {d : Dk} (h : d.left = -1) (f : Dk → Dk × Int) : act d f = f { d with ops := d.ops + 1 } := by
  unfold act
  rw [if_neg (by omega)]
  unfold on
  rw [if_neg (by omega)]
theorem FailRel.step3 {j : Nat} {a b : Dk} (h : FailRel j a b) {f : Dk → Dk × Int} (hf : Blind3 f) : (act a f).2 = (act b f).2 ∧ FailRel j (act a f).1 (act b f).1 := by
  obtain ⟨x, rfl, h1, h2, h3⟩ := h
  have ha := on_for (d := { b with fail := x, ops := b.ops + j }) h2 f
  have hb := on_for h2 f
  have e1 : f { b with ops := b.ops + 1 } = ({ (f b).1 with ops := b.ops + 1, left := b.left, fail := b.fail }, (f b).2) := hf b (b.ops + 1) b.left b.fail
  have e2 : f { b with fail := x, ops := b.ops + j + 1 } = ({ (f b).1 with ops := b.ops + j + 1, left := b.left, fail := x }, (f b).2) := hf b (b.ops + j + 1) b.left x
  rw [ha, hb]
  simp only
  rw [e1, e2]
  refine ⟨rfl, x, ?_, h1, h2, h3⟩
  simp only [Dk.mk.injEq, true_and, and_true]
  omega
/-- Of append and sync: it fails, and nothing is changed; or both tell the same. -/
theorem FailRel.stepF {j : Nat} {a b : Dk} (h : FailRel j a b) {f : Dk → Dk × Int} (hb : Blind f)
    (hf : ∀ (d : Dk) (x : Nat), d.fail = 0 → (f { d with fail := x } = ({ (f d).1 with fail := x }, (f d).2) ∧ (f d).1.fail = 0 ∧ (f d).2 ≠ 10) ∨ ((f d).2 = 0 ∧ (f d).1.fail = 0 ∧ f { d with fail := x } = if x = 1 then ({ d with fail := 0 }, 10) else ({ (f d).1 with fail := x - 1 }, 0))) :
    ((act a f).2 = 10 ∧ j = 0 ∧ FailRel 1 (act a f).1 b) ∨ ((act a f).2 ≠ 10 ∧ (act a f).2 = (act b f).2 ∧ FailRel j (act a f).1 (act b f).1) := by
  obtain ⟨x, rfl, h1, h2, h3⟩ := h
  have ha := on_for (d := { b with fail := x, ops := b.ops + j }) h2 f
  have hbb := on_for h2 f
  have e1 : f { b with ops := b.ops + 1 } = ({ (f b).1 with ops := b.ops + 1, left := b.left }, (f b).2) := hb b (b.ops + 1) b.left
  have e2 : f { b with fail := x, ops := b.ops + j + 1 } = ({ (f { b with fail := x }).1 with ops := b.ops + j + 1, left := b.left }, (f { b with fail := x }).2) := hb { b with fail := x } (b.ops + j + 1) b.left
  rw [ha, hbb]
  simp only
  rw [e1, e2]
  rcases hf b x h1 with ⟨k1, k2, k3⟩ | ⟨k1, k2, k3⟩
  · rw [k1]
    refine .inr ⟨k3, rfl, x, ?_, k2, h2, h3⟩
    simp only [Dk.mk.injEq, true_and, and_true]
    omega
  · rw [k3]
    by_cases hx : x = 1
    · subst hx
      rw [if_pos rfl]
      refine .inl ⟨rfl, by omega, 0, ?_, h1, h2, .inr ⟨rfl, rfl⟩⟩
      simp only [Dk.mk.injEq, true_and, and_true]
      omega
    · rw [if_neg hx]
      refine .inr ⟨by simp, by simp only; rw [k1], x - 1, ?_, k2, h2, by omega⟩
      simp only [Dk.mk.injEq, true_and, and_true]
      omega
theorem failF_append (n : ByteArray) (s : By) (d : Dk) (x : Nat) (h0 : d.fail = 0) :
    (appendB n s { d with fail := x } = ({ (appendB n s d).1 with fail := x }, (appendB n s d).2) ∧ (appendB n s d).1.fail = 0 ∧ (appendB n s d).2 ≠ 10) ∨
    ((appendB n s d).2 = 0 ∧ (appendB n s d).1.fail = 0 ∧ appendB n s { d with fail := x } = if x = 1 then ({ d with fail := 0 }, 10) else ({ (appendB n s d).1 with fail := x - 1 }, 0)) := by
  have e : appendB n s { d with fail := x } = (match find (dir d) n with
      | none => ({ d with fail := x }, 5)
      | some f => if d.room < used d + s.length then ({ d with fail := x }, 9) else if x = 1 then ({ d with fail := 0 }, 10)
        else ({ d with fail := x - 1, files := d.files.set f (hist d f ++ fronts (now d f) s) }, 0)) := rfl
  cases hf : find (dir d) n with
  | none =>
    have e1 : appendB n s d = (d, 5) := by unfold appendB; rw [hf]
    rw [e, hf, e1]; exact .inl ⟨rfl, h0, by simp⟩
  | some f =>
    by_cases hr : d.room < used d + s.length
    · have e1 : appendB n s d = (d, 9) := by unfold appendB; rw [hf]; simp only; rw [if_pos hr]
      rw [e, hf, e1]
      simp only
      rw [if_pos hr]
      exact .inl ⟨rfl, h0, by simp⟩
    · have e1 : appendB n s d = ({ d with fail := d.fail - 1, files := d.files.set f (hist d f ++ fronts (now d f) s) }, 0) := by unfold appendB; rw [hf]; simp only; rw [if_neg hr, if_neg (by omega)]
      rw [e, hf, e1]
      simp only
      rw [if_neg hr]
      exact .inr ⟨trivial, by rw [h0], rfl⟩
theorem failF_sync (n : ByteArray) (d : Dk) (x : Nat) (h0 : d.fail = 0) :
    (syncB n { d with fail := x } = ({ (syncB n d).1 with fail := x }, (syncB n d).2) ∧ (syncB n d).1.fail = 0 ∧ (syncB n d).2 ≠ 10) ∨
    ((syncB n d).2 = 0 ∧ (syncB n d).1.fail = 0 ∧ syncB n { d with fail := x } = if x = 1 then ({ d with fail := 0 }, 10) else ({ (syncB n d).1 with fail := x - 1 }, 0)) := by
  have e : syncB n { d with fail := x } = (match find (dir d) n with
      | none => ({ d with fail := x }, 5)
      | some f => if x = 1 then ({ d with fail := 0 }, 10) else ({ d with fail := x - 1, files := d.files.set f [now d f] }, 0)) := rfl
  cases hf : find (dir d) n with
  | none =>
    have e1 : syncB n d = (d, 5) := by unfold syncB; rw [hf]
    rw [e, hf, e1]; exact .inl ⟨rfl, h0, by simp⟩
  | some f =>
    have e1 : syncB n d = ({ d with fail := d.fail - 1, files := d.files.set f [now d f] }, 0) := by unfold syncB; rw [hf]; simp only; rw [if_neg (by omega)]
    rw [e, hf, e1]
    simp only
    exact .inr ⟨trivial, by rw [h0], trivial⟩
theorem FailRel.same {j : Nat} {a b : Dk} (h : FailRel j a b) : list a = list b ∧ (∀ k ks, crash k ks a = crash k ks b) ∧ a.ops = b.ops + j ∧ j ≤ 1 := by
  obtain ⟨x, rfl, h1, h2, h3⟩ := h
  exact ⟨rfl, fun _ _ => rfl, rfl, by omega⟩


/-! ## All that is synced stays -/
/-- Behind the syncs of the names S: of each file all that it has now is kept; of those of S nothing else is. -/
structure Synced (d c : Dk) (S : List ByteArray) : Prop where
  ok : Ok c
  room : c.room = d.room
  dirs : c.dirs = d.dirs
  fail : c.fail = 0
  left : c.left = -1
  len : c.files.length = d.files.length
  now : ∀ f, now c f = now d f
  one : ∀ n ∈ S, ∀ f, find (dir d) n = some f → hist c f = [Dsk.now d f]
theorem Synced.start {d : Dk} (h : Ok d) : Synced d (setStop (-1) (setFail 0 d)) [] :=
  ⟨setStop_ok _ (setFail_ok _ h), rfl, rfl, rfl, rfl, rfl, fun _ => rfl, fun n hn => by simp at hn⟩
theorem Synced.next {d c : Dk} {S : List ByteArray} (h : Synced d c S) {n : ByteArray} (hn : n ∈ list d) : (sync n c).2 = 0 ∧ Synced d (sync n c).1 (S ++ [n]) := by
  obtain ⟨f, hf⟩ := mem_list.1 hn
  have hdir : dir c = dir d := by unfold dir; rw [h.dirs]
  have hc := find_mem (r := dir c) h.ok.row.2.1 (by rw [hdir]; exact hf)
  have hok := sync_ok n h.ok
  have hlt := find_lt h.ok hc
  have e : sync n c = ({ c with ops := c.ops + 1, fail := 0, files := c.files.set f [Dsk.now c f] }, 0) := by
    unfold sync
    rw [on_for h.left]
    unfold syncB
    have h1 : find (dir { c with ops := c.ops + 1 }) n = some f := hc
    rw [h1]
    simp only
    rw [if_neg (by rw [h.fail]; simp), h.fail]
    rfl
  rw [e] at hok ⊢
  refine ⟨rfl, hok, h.room, h.dirs, rfl, h.left, by simp only [List.length_set]; exact h.len, fun i => ?_, fun m hm g hg => ?_⟩
  · have := now_set { c with ops := c.ops + 1 } (f := f) hlt [Dsk.now c f] 0 i
    refine Eq.trans this ?_
    split
    · rename_i e; subst e; exact h.now i
    · exact h.now i
  · have h2 : hist { c with ops := c.ops + 1, fail := 0, files := c.files.set f [Dsk.now c f] } g = if g = f then [Dsk.now c f] else hist c g := hist_set c hlt [Dsk.now c f] g
    rw [h2]
    split
    · rename_i e; subst e; rw [h.now]
    · rename_i hne
      rcases List.mem_append.1 hm with hm | hm
      · exact h.one m hm g hg
      · simp at hm; subst hm
        rw [hdir] at hc
        rw [hg] at hc
        exact absurd (Option.some.inj hc) hne
/-- .. and of the names: when the power goes all is there as it was. -/
theorem Synced.crash {d c : Dk} (h : Synced d c (list d)) (hd : Ok d) (k : Int) (ks : List Int) :
    (syncDir c).2 = 0 ∧ used (syncDir c).1 = used d ∧ list (syncDir c).1 = list d ∧ list (Dsk.crash k ks (syncDir c).1) = list d ∧ used (Dsk.crash k ks (syncDir c).1) = used d ∧ (Dsk.crash k ks (syncDir c).1).ops = 0 ∧
      ∀ n ∈ list d, ∃ s, read n (syncDir c).1 = (s, 0) ∧ read n (Dsk.crash k ks (syncDir c).1) = (s, 0) := by
  have hdir : dir c = dir d := by unfold dir; rw [h.dirs]
  have e : syncDir c = ({ c with ops := c.ops + 1, dirs := [dir d] }, 0) := by
    unfold syncDir
    rw [on_for h.left]
    unfold syncDirB
    have : dir { c with ops := c.ops + 1 } = dir d := hdir
    rw [this]
  have hok := syncDir_ok h.ok
  rw [e] at hok ⊢
  obtain ⟨C, hC⟩ : ∃ C : Dk, C = { c with ops := c.ops + 1, dirs := [dir d] } := ⟨_, rfl⟩
  have hCd : dir C = dir d := by rw [hC]; rfl
  have hrow : rowAt C k = dir d := by
    unfold rowAt
    have : (min k ((C.dirs.length : Int) - 1)).toNat = 0 := by rw [hC]; simp only [List.length_singleton]; omega
    rw [this, hC]; rfl
  have hCn : ∀ f, Dsk.now C f = Dsk.now d f := fun f => by rw [hC]; exact h.now f
  have hmom : ∀ p ∈ dir d, momAt C ks p.2 = Dsk.now d p.2 := fun p hp => by
    have h1 : hist C p.2 = [Dsk.now d p.2] := by
      rw [hC]
      exact h.one p.1 (mem_list.2 ⟨p.2, hp⟩) p.2 (find_mem hd.row.2.1 hp)
    unfold momAt
    rw [h1]
    split
    · have : (min (ks.getD p.2 0) (([Dsk.now d p.2].length : Int) - 1)).toNat = 0 := by simp only [List.length_singleton]; omega
      rw [this]; rfl
    · rfl
  have hCu : used C = used d := by
    unfold used
    rw [hCd]
    exact sum_eq _ _ _ (fun p _ => by rw [hCn])
  simp only at hok ⊢
  rw [← hC] at hok ⊢
  refine ⟨trivial, hCu, by unfold list; rw [hCd], ?_, ?_, rfl, fun n hn => ?_⟩
  · rw [crash_list hok, hrow]; rfl
  · rw [crash_used hok, hrow]
    unfold used
    exact sum_eq _ _ _ (fun p hp => by rw [hmom p hp])
  · obtain ⟨f, hf⟩ := mem_list.1 hn
    refine ⟨Dsk.now d f, ?_, ?_⟩
    · unfold read
      have h1 : C.left = -1 := by rw [hC]; exact h.left
      rw [if_neg (by omega), hCd, find_mem hd.row.2.1 hf]
      simp only
      rw [hCn]
    · rw [crash_read hok k ks (by rw [hrow]; exact hf), hmom _ hf]

/-! ## A file that is new -/
/-- A disk with power for ever, on which nothing fails: its files, its rows of names. -/
structure At (d : Dk) (room : Nat) (files : List (List By)) (dirs : List Row) : Prop where
  room : d.room = room
  files : d.files = files
  dirs : d.dirs = dirs
  fail : d.fail = 0
  left : d.left = -1
theorem at_fresh (room : Nat) : At (fresh (room : Int)) room [] [[]] := ⟨by simp [fresh], rfl, rfl, rfl, rfl⟩
theorem At.create {d : Dk} {room : Nat} {fs : List (List By)} {ds : List Row} {r : Row} (h : At d room fs (ds ++ [r])) {n : ByteArray} (hn : isName n = true) (hr : ∀ p ∈ r, p.1 ≠ n) :
    (create n d).2 = 0 ∧ At (create n d).1 room (fs ++ [[[]]]) (ds ++ [r] ++ [r ++ [(n, fs.length)]]) := by
  have hdir : dir { d with ops := d.ops + 1 } = r := by
    unfold dir
    show d.dirs.getLastD [] = r
    rw [h.dirs]; simp [List.getLastD_eq_getLast?]
  have hw : without r n = r := List.filter_eq_self.2 (fun p hp => by simpa using hr p hp)
  have e : Dsk.create n d = ({ d with ops := d.ops + 1, files := d.files ++ [[[]]], dirs := d.dirs ++ [r ++ [(n, d.files.length)]] }, 0) := by
    unfold Dsk.create
    rw [on_for h.left]
    unfold createB
    rw [if_neg (by simp [hn]), hdir, find_none.2 hr]
    simp only
    rw [hw]
  rw [e]
  exact ⟨rfl, h.room, by simp only [h.files], by simp only [h.dirs, h.files], h.fail, h.left⟩
theorem At.append {d : Dk} {room : Nat} {fs : List (List By)} {ds : List Row} {r : Row} (h : At d room fs (ds ++ [r])) {n : ByteArray} {f : Nat} (hf : find r n = some f) (s : By) {b : By} (hb : (fs.getD f []).getLastD [] = b)
    (hu : (r.map (fun p => ((fs.getD p.2 []).getLastD []).length)).sum + s.length ≤ room) :
    (append n s d).2 = 0 ∧ At (append n s d).1 room (fs.set f (fs.getD f [] ++ fronts b s)) (ds ++ [r]) := by
  have hdir : dir { d with ops := d.ops + 1 } = r := by
    unfold dir
    show d.dirs.getLastD [] = r
    rw [h.dirs]; simp [List.getLastD_eq_getLast?]
  have hus : used { d with ops := d.ops + 1 } = (r.map (fun p => ((fs.getD p.2 []).getLastD []).length)).sum := by
    unfold used
    rw [hdir]
    unfold now hist
    simp only [h.files]
  have hnow : now { d with ops := d.ops + 1 } f = b := by
    unfold now hist
    simp only [h.files]
    exact hb
  have hhi : hist { d with ops := d.ops + 1 } f = fs.getD f [] := by
    unfold hist
    simp only [h.files]
  have e : Dsk.append n s d = ({ d with ops := d.ops + 1, fail := 0, files := d.files.set f (fs.getD f [] ++ fronts b s) }, 0) := by
    unfold Dsk.append
    rw [on_for h.left]
    unfold appendB
    rw [hdir, hf]
    simp only
    rw [if_neg (by rw [hus, h.room]; omega), if_neg (by rw [h.fail]; simp), hnow, hhi, h.fail]
  rw [e]
  exact ⟨rfl, h.room, by simp only [h.files], h.dirs, rfl, h.left⟩
theorem At.sync {d : Dk} {room : Nat} {fs : List (List By)} {ds : List Row} {r : Row} (h : At d room fs (ds ++ [r])) {n : ByteArray} {f : Nat} (hf : find r n = some f) {b : By} (hb : (fs.getD f []).getLastD [] = b) :
    (sync n d).2 = 0 ∧ At (sync n d).1 room (fs.set f [b]) (ds ++ [r]) := by
  have hdir : dir { d with ops := d.ops + 1 } = r := by
    unfold dir
    show d.dirs.getLastD [] = r
    rw [h.dirs]; simp [List.getLastD_eq_getLast?]
  have hnow : now { d with ops := d.ops + 1 } f = b := by
    unfold now hist
    simp only [h.files]
    exact hb
  have e : Dsk.sync n d = ({ d with ops := d.ops + 1, fail := 0, files := d.files.set f [b] }, 0) := by
    unfold Dsk.sync
    rw [on_for h.left]
    unfold syncB
    rw [hdir, hf]
    simp only
    rw [if_neg (by rw [h.fail]; simp), hnow, h.fail]
  rw [e]
  exact ⟨rfl, h.room, by simp only [h.files], h.dirs, rfl, h.left⟩
theorem At.syncDir {d : Dk} {room : Nat} {fs : List (List By)} {ds : List Row} {r : Row} (h : At d room fs (ds ++ [r])) : (syncDir d).2 = 0 ∧ At (syncDir d).1 room fs [r] := by
  have hdir : dir { d with ops := d.ops + 1 } = r := by
    unfold dir
    show d.dirs.getLastD [] = r
    rw [h.dirs]; simp [List.getLastD_eq_getLast?]
  have e : Dsk.syncDir d = ({ d with ops := d.ops + 1, dirs := [r] }, 0) := by
    unfold Dsk.syncDir
    rw [on_for h.left]
    unfold syncDirB
    rw [hdir]
  rw [e]
  exact ⟨rfl, h.room, h.files, rfl, h.fail, h.left⟩
theorem At.rename {d : Dk} {room : Nat} {fs : List (List By)} {ds : List Row} {r : Row} (h : At d room fs (ds ++ [r])) {n m : ByteArray} {f : Nat} (hf : find r n = some f) (hm : isName m = true) :
    (rename n m d).2 = 0 ∧ At (rename n m d).1 room fs (ds ++ [r] ++ [without (without r n) m ++ [(m, f)]]) := by
  have hdir : dir { d with ops := d.ops + 1 } = r := by
    unfold dir
    show d.dirs.getLastD [] = r
    rw [h.dirs]; simp [List.getLastD_eq_getLast?]
  have e : Dsk.rename n m d = ({ d with ops := d.ops + 1, dirs := d.dirs ++ [without (without r n) m ++ [(m, f)]] }, 0) := by
    unfold Dsk.rename
    rw [on_for h.left]
    unfold renameB
    rw [hdir, hf]
    simp only
    rw [if_neg (by simp [hm])]
  rw [e]
  exact ⟨rfl, h.room, h.files, by simp only [h.dirs], h.fail, h.left⟩
theorem At.read {d : Dk} {room : Nat} {fs : List (List By)} {ds : List Row} {r : Row} (h : At d room fs (ds ++ [r])) (n : ByteArray) :
    read n d = match find r n with | none => ([], 5) | some f => ((fs.getD f []).getLastD [], 0) := by
  have hdir : dir d = r := by
    unfold dir
    rw [h.dirs]; simp [List.getLastD_eq_getLast?]
  unfold Dsk.read
  rw [if_neg (by rw [h.left]; simp), hdir]
  cases find r n with
  | none => rfl
  | some f =>
    simp only
    unfold now hist
    rw [h.files]

/-! ## A file that is appended to -/
def histF (s m : By) : List By := (List.range (m.length + 1)).map (fun i => s ++ m.take i)
theorem histF_nil (s : By) : histF s [] = [s] := by simp [histF]
theorem histF_len (s m : By) : (histF s m).length = m.length + 1 := by simp [histF]
theorem histF_at (s m : By) {i : Nat} (h : i ≤ m.length) : (histF s m).getD i [] = s ++ m.take i := by
  unfold histF
  rw [List.getD_eq_getElem?_getD, List.getElem?_map, List.getElem?_range (by omega)]
  rfl
theorem histF_app (s m l : By) : histF s m ++ fronts (s ++ m) l = histF s (m ++ l) := by
  apply List.ext_getElem?
  intro i
  by_cases h : i < m.length + 1
  · rw [List.getElem?_append_left (by rw [histF_len]; exact h)]
    unfold histF
    rw [List.getElem?_map, List.getElem?_map, List.getElem?_range h, List.getElem?_range (by rw [List.length_append]; omega)]
    simp only [Option.map_some]
    rw [List.take_append_of_le_length (by omega)]
  · rw [List.getElem?_append_right (by rw [histF_len]; omega), histF_len]
    unfold fronts histF
    rw [List.getElem?_map, List.getElem?_map]
    by_cases h2 : i - (m.length + 1) < l.length
    · rw [List.getElem?_range h2, List.getElem?_range (by rw [List.length_append]; omega)]
      simp only [Option.map_some]
      rw [List.take_append, List.take_of_length_le (l := m) (by omega), List.append_assoc, show i - (m.length + 1) + 1 = i - m.length by omega]
    · rw [List.getElem?_eq_none (by simp; omega), List.getElem?_eq_none (by simp; omega)]
      rfl
theorem histF_last (s m : By) : (histF s m).getLastD [] = s ++ m := by
  unfold histF
  rw [List.range_succ, List.map_append, List.map_singleton]
  rw [List.getLastD_eq_getLast?, List.getLast?_concat]
  simp

end Go.Proofs.YtpbiongoigbmpaaGreat.Dsk
