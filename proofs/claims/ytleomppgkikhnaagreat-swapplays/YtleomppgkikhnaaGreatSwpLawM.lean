/-
  Chapter 8, plain: what follows of a writing: a file is one of its texts, as a whole. No program here.
-/
import Derived.Test.YtleomppgkikhnaaGreatSwpM
namespace Go.Proofs.YtleomppgkikhnaaGreat.Dsk
open Go.Proofs.YtleomppgkikhnaaGreat

theorem Wt.read {d : Dk} {room : Nat} {fs : List (List By)} {ds : List Row} {r : Row} {k : Nat} (h : Wt d room fs (ds ++ [r]) k) (hl : d.left = -1) {n : ByteArray} {f : Nat} (hf : find r n = some f) {b : By} (hb : fs.getD f [] = [b]) : read n d = (b, 0) := by
  unfold Dsk.read
  rw [if_neg (by omega), h.dir, hf]
  simp only
  unfold now hist
  rw [h.files, hb]
  rfl
theorem list_len (d : Dk) : (list d).length = (dir d).length := by
  unfold list
  rw [(sortN_perm _).length_eq]
  unfold names
  rw [List.length_map]
/-- With power for ever, nothing that fails, and room: it is written. -/
theorem write_good {n : ByteArray} (hn : maySwap n = true) (s : By) {D : Dk} {room : Nat} {fs : List (List By)} {ds : List Row} {r : Row} {k : Nat} (h : Wt D room fs (ds ++ [r]) k) (hr : ∀ p ∈ r, p.2 < fs.length) (hl : D.left = -1) (k1 : k ≠ 1) (k2 : k - 1 ≠ 1)
    (hu : U fs (without r (tilde n)) + s.length ≤ room) : (write n s D).2 = 0 ∧ Wrote n s D room fs ds r k (write n s D).1 := by
  rcases write_all hn s h hr with h | h | h
  · exact h
  · exact absurd hl h.left
  · rcases h.err with ⟨_, e⟩ | ⟨_, e⟩ | ⟨_, e, _⟩
    · exact absurd hl e
    · omega
    · omega
theorem without_ne_all {r : Row} {o : ByteArray} (h : ∀ p ∈ r, p.1 ≠ o) : without r o = r := without_none (find_none.2 h)

/-! ## SwapNames -/
def nO : ByteArray := ⟨#[111, 116, 104, 101, 114]⟩
def namD : Dk := (append nO [120] (create nO (fresh 1000)).1).1
theorem nam_create : (create nO (fresh 1000)).2 = 0 := by decide
theorem nam_append : (append nO [120] (create nO (fresh 1000)).1).2 = 0 := by decide
theorem nam_wt : Wt namD 1000 [[[], [120]]] ([[]] ++ [[(nO, 0)]]) 0 := ⟨by decide, by decide, by decide, by decide⟩
theorem nam_left : namD.left = -1 := by decide
theorem nam_ops : namD.ops = 2 := by decide
theorem nam_read : read nO namD = ([120], 0) := by decide
theorem nam_list : (list namD).length = 1 := by decide
theorem nam_write {n : ByteArray} (hn : maySwap n = true) (ho : n ≠ nO) (s : By) (hs : s.length ≤ 400) :
    (write n s namD).2 = 0 ∧ read nO (write n s namD).1 = ([120], 0) ∧ read n (write n s namD).1 = (s, 0) ∧ (write n s namD).1.ops = 8 ∧ (list (write n s namD).1).length = 2 := by
  have hW : without [(nO, 0)] (tilde n) = [(nO, 0)] := without_ne_all (fun p hp => by simp at hp; subst hp; exact tilde_ne (by decide))
  have hW2 : without [(nO, 0)] n = [(nO, 0)] := without_ne_all (fun p hp => by simp at hp; subst hp; exact fun e => ho e.symm)
  obtain ⟨h0, h⟩ := write_good hn s nam_wt (by simp) nam_left (by decide) (by decide) (by rw [hW]; simp [U]; omega)
  have hl := h.left nam_left
  have hwt := h.wt
  rw [hW, hW2] at hwt
  have hwt : Wt (write n s namD).1 1000 ([[[], [120]]] ++ [[s]]) ([] ++ [[(nO, 0)] ++ [(n, 1)]]) 0 := hwt
  refine ⟨h0, ?_, hwt.read hl (find_snoc_self (by unfold find; rw [if_neg (fun e => ho e.symm)]; rfl)) rfl, by rw [h.ops, nam_ops], by rw [list_len, hwt.dir]; rfl⟩
  unfold Dsk.read
  rw [if_neg (by omega), hwt.dir]
  have : find ([(nO, 0)] ++ [(n, 1)]) nO = some 0 := by simp [find]
  rw [this]
  simp only
  unfold now hist
  rw [hwt.files]
  rfl

/-! ## A file ck -/
def ck : ByteArray := ⟨#[99, 107]⟩
def ckT : ByteArray := ⟨#[99, 107, 126]⟩
theorem ck_tilde : tilde ck = ckT := by decide
theorem ck_may : maySwap ck = true := by decide
theorem ck_ne : ck ≠ tilde ck := by decide
theorem ck_wo (f : Nat) : without [(ck, f)] (tilde ck) = [(ck, f)] := without_ne_all (fun p hp => by simp at hp; subst hp; exact ck_ne)
theorem ck_wo2 (f : Nat) : without [(ck, f)] ck = [] := by simp [without]
theorem ck_lt : Lab.lt ck ckT = true := by
  show Op.bytesLess ck.toList ckT.toList = true
  rw [ByteArray.toList_eq, ByteArray.toList_eq]
  decide
theorem ck_sort : sortN [ck, ckT] = [ck, ckT] := by
  show (if Lab.lt ck ckT = true then [ck, ckT] else _) = _
  rw [if_pos ck_lt]
/-- One file, of one text, that is synced. -/
structure One (D : Dk) (room : Nat) (b : By) (k : Nat) : Prop where
  wt : ∃ fs f, Wt D room fs ([] ++ [[(ck, f)]]) k ∧ fs.getD f [] = [b] ∧ f < fs.length
/-- Whatever row of names is left: the file has one of two texts; beside it there is its other at most. -/
def Left2 (D : Dk) (room : Nat) (P : By → Prop) : Prop :=
  D.room = room ∧ ∀ x ∈ D.dirs, ∃ f b, hist D f = [b] ∧ P b ∧ (x = [(ck, f)] ∨ ∃ g, x = [(ck, f), (ckT, g)])
theorem hist_wt {D : Dk} {room : Nat} {fs : List (List By)} {ds : List Row} {k : Nat} (h : Wt D room fs ds k) (f : Nat) : hist D f = fs.getD f [] := by unfold hist; rw [h.files]
theorem getD_app {α : Type} (a b : List (List α)) {i : Nat} (h : i < a.length) : (a ++ b).getD i [] = a.getD i [] := by
  rw [List.getD_eq_getElem?_getD, List.getElem?_append_left h, List.getD_eq_getElem?_getD]
theorem getD_end {α : Type} (a : List (List α)) (x : List α) : (a ++ [x]).getD a.length [] = x := by
  rw [List.getD_eq_getElem?_getD, List.getElem?_concat_length]; rfl
theorem One.left2 {D : Dk} {room : Nat} {b : By} {k : Nat} (h : One D room b k) : Left2 D room (fun x => x = b) := by
  obtain ⟨fs, f, h, h1, h2⟩ := h.wt
  refine ⟨h.room, fun x hx => ⟨f, b, by rw [hist_wt h, h1], rfl, .inl ?_⟩⟩
  rw [h.dirs] at hx
  simpa using hx
theorem Left2.mono {D : Dk} {room : Nat} {P Q : By → Prop} (h : Left2 D room P) (k : ∀ b, P b → Q b) : Left2 D room Q :=
  ⟨h.1, fun x hx => by obtain ⟨f, b, h1, h2, h3⟩ := h.2 x hx; exact ⟨f, b, h1, k b h2, h3⟩⟩
/-- .. now, whatever was. -/
def Now (D : Dk) (room : Nat) (b : By) : Prop := ∃ fs f ds k, Wt D room fs (ds ++ [[(ck, f)]]) k ∧ fs.getD f [] = [b] ∧ f < fs.length
theorem One.now {D : Dk} {room : Nat} {b : By} {k : Nat} (h : One D room b k) : Now D room b := by
  obtain ⟨fs, f, h, h1, h2⟩ := h.wt
  exact ⟨fs, f, _, k, h, h1, h2⟩
theorem Now.read {D : Dk} {room : Nat} {b : By} (h : Now D room b) (hl : D.left = -1) : Dsk.read ck D = (b, 0) := by
  obtain ⟨fs, f, ds, k, h, h1, h2⟩ := h
  exact h.read hl (by simp [find]) h1
theorem Now.used {D : Dk} {room : Nat} {b : By} (h : Now D room b) : Dsk.used D = b.length := by
  obtain ⟨fs, f, ds, k, h, h1, h2⟩ := h
  rw [h.used]
  unfold U
  simp only [List.map_cons, List.map_nil, List.sum_cons, List.sum_nil]
  rw [h1]
  rfl
theorem Now.list {D : Dk} {room : Nat} {b : By} (h : Now D room b) : Dsk.list D = [ck] := by
  obtain ⟨fs, f, ds, k, h, h1, h2⟩ := h
  unfold Dsk.list
  rw [h.dir]
  rfl
/-- A writing of ck: told OK it is the new one; else it was, or is both, as the error says. -/
theorem One.write {D : Dk} {room : Nat} {b : By} {k : Nat} (h : One D room b k) (s : By) :
    ((write ck s D).2 = 0 ∧ One (write ck s D).1 room s (k - 1 - 1) ∧ (write ck s D).1.ops = D.ops + 6 ∧ (D.left = -1 → (write ck s D).1.left = -1) ∧ ¬ room < b.length + s.length ∧ k ≠ 1 ∧ k - 1 ≠ 1) ∨
    ((write ck s D).2 = 11 ∧ D.left ≠ -1 ∧ Left2 (write ck s D).1 room (fun x => x = b ∨ x = s)) ∨
    (((write ck s D).2 = 9 ∧ room < b.length + s.length ∨ (write ck s D).2 = 10 ∧ (k = 1 ∨ k - 1 = 1) ∧ ¬ room < b.length + s.length) ∧ Left2 (write ck s D).1 room (fun x => x = b) ∧ (D.left = -1 → (write ck s D).1.left = -1 ∧ Now (write ck s D).1 room b)) := by
  obtain ⟨fs, f, h, h1, h2⟩ := h.wt
  have hU : U fs [(ck, f)] = b.length := by
    unfold U
    simp only [List.map_cons, List.map_nil, List.sum_cons, List.sum_nil]
    rw [h1]
    rfl
  have mids : ∀ (E : Dk) (H : List (List By)) (ds' : List Row) (k' : Nat), Wt E room (fs ++ H) ds' k' → Mids ck fs [] [(ck, f)] ds' → Left2 E room (fun x => x = b) := fun E H ds' k' hE hm => by
    refine ⟨hE.room, fun x hx => ⟨f, b, by rw [hist_wt hE, getD_app _ _ h2, h1], rfl, ?_⟩⟩
    rw [hE.dirs] at hx
    have := hm x hx
    rw [ck_wo] at this
    rcases this with e | e | e | e
    · simp at e
    · exact .inl e
    · exact .inl e
    · exact .inr ⟨fs.length, by rw [e, ck_tilde]; rfl⟩
  rcases write_all ck_may s h (by simpa using h2) with ⟨h0, g⟩ | g | g
  · have hwt := g.wt
    rw [ck_wo, ck_wo2] at hwt
    have hro := g.room
    rw [ck_wo, hU] at hro
    exact .inl ⟨h0, ⟨_, fs.length, hwt, getD_end _ _, by simp⟩, g.ops, g.left, hro, g.k1, g.k2⟩
  · obtain ⟨ds', k', hE, hm⟩ := g.wt
    refine .inr (.inl ⟨g.err, g.left, ?_⟩)
    rw [ck_wo, ck_wo2] at hE
    refine ⟨hE.room, fun x hx => ?_⟩
    rw [hE.dirs] at hx
    rcases List.mem_append.1 hx with hx | hx
    · have := hm x hx
      rw [ck_wo] at this
      refine ⟨f, b, by rw [hist_wt hE, getD_app _ _ h2, h1], .inl rfl, ?_⟩
      rcases this with e | e | e | e
      · simp at e
      · exact .inl e
      · exact .inl e
      · exact .inr ⟨fs.length, by rw [e, ck_tilde]; rfl⟩
    · exact ⟨fs.length, s, by rw [hist_wt hE, getD_end], .inr rfl, .inl (by simpa using hx)⟩
  · obtain ⟨H, ds', k', hE, hm, hl⟩ := g.wt
    have hL := mids _ _ _ _ hE hm
    have he := g.err
    rw [ck_wo, hU] at he
    rcases he with ⟨e, e2⟩ | he
    · exact .inr (.inl ⟨e, e2, hL.mono (fun _ x => .inl x)⟩)
    · refine .inr (.inr ⟨he, hL, fun e => ?_⟩)
      obtain ⟨a1, l, a2⟩ := hl e
      rw [ck_wo] at a2
      refine ⟨a1, _, f, l, k', by rw [← a2]; exact hE, by rw [getD_app _ _ h2, h1], ?_⟩
      rw [List.length_append]
      omega
/-- The first writing, on a new disk. -/
theorem one_first (room : Nat) (s : By) (hs : s.length ≤ room) : (write ck s (fresh (room : Int))).2 = 0 ∧ One (write ck s (fresh (room : Int))).1 room s 0 ∧ (write ck s (fresh (room : Int))).1.left = -1 ∧ (write ck s (fresh (room : Int))).1.ops = 6 := by
  have h0 : Wt (fresh (room : Int)) room [] ([] ++ [[]]) 0 := ⟨by simp [fresh], rfl, rfl, rfl⟩
  obtain ⟨e, h⟩ := write_good ck_may s h0 (by simp) rfl (by decide) (by decide) (by simp [U, without]; omega)
  exact ⟨e, ⟨_, 0, h.wt, rfl, by simp⟩, h.left rfl, h.ops⟩
/-- What is left of it. -/
theorem left2_crash {D : Dk} {room : Nat} {P : By → Prop} (h : Left2 D room P) (ok : Ok D) (k : Int) (ks : List Int) :
    ∃ b, P b ∧ read ck (crash k ks D) = (b, 0) ∧ (clean (crash k ks D)).2 = 0 ∧ One (clean (crash k ks D)).1 room b 0 ∧ (clean (crash k ks D)).1.left = -1 := by
  obtain ⟨f, b, h1, h2, h3⟩ := h.2 _ (rowAt_mem ok k)
  have hm : momAt D ks f = b := mom_one h1 ks
  have hl : (crash k ks D).left = -1 := rfl
  have fin : ∀ (fs : List (List By)) (r : Row) (i : Nat), Wt (crash k ks D) room fs ([] ++ [r]) 0 → find r ck = some i → fs.getD i [] = [b] → i < fs.length → (list (crash k ks D) = [ck] ∧ r = [(ck, i)] ∨ list (crash k ks D) = [ck, ckT] ∧ (∃ j, find r ckT = some j) ∧ without r ckT = [(ck, i)]) →
      ∃ b, P b ∧ read ck (crash k ks D) = (b, 0) ∧ (clean (crash k ks D)).2 = 0 ∧ One (clean (crash k ks D)).1 room b 0 ∧ (clean (crash k ks D)).1.left = -1 := fun fs r i hw hf hg hi hc => by
    refine ⟨b, h2, hw.read hl hf hg, ?_⟩
    rcases hc with ⟨c1, rfl⟩ | ⟨c1, ⟨j, c2⟩, c3⟩
    · have e : clean (crash k ks D) = inOrd [syncDir] (crash k ks D) := by
        unfold clean cleanL
        rw [c1]
        rfl
      rw [e]
      rcases hw.syncDir with ⟨x, _⟩ | ⟨x, y, z⟩
      · omega
      · rw [inOrd_ok x]
        exact ⟨rfl, ⟨fs, i, z, hg, hi⟩, y.left hl⟩
    · have e : clean (crash k ks D) = inOrd [remove ckT, syncDir] (crash k ks D) := by
        unfold clean cleanL
        rw [c1]
        rfl
      rw [e]
      rcases hw.remove c2 with ⟨x, _⟩ | ⟨x, y, z⟩
      · omega
      · rw [inOrd_ok x]
        rw [c3] at z
        rcases z.syncDir with ⟨x2, _⟩ | ⟨x2, y2, z2⟩
        · have := y.left hl; omega
        · rw [inOrd_ok x2]
          exact ⟨rfl, ⟨fs, i, z2, hg, hi⟩, y2.left (y.left hl)⟩
  have hwt : ∀ l, picks D k ks = l → Wt (crash k ks D) room (l.map (fun p => [p.2])) ([] ++ [numbered 0 l]) 0 := fun l e => ⟨h.1, by rw [← e]; rfl, by rw [← e]; rfl, rfl⟩
  have hlist := crash_list ok k ks
  have hp := picks_perm ok k ks
  rcases h3 with h3 | ⟨g, h3⟩
  · rw [h3] at hp hlist
    have hp : (picks D k ks).Perm [(ck, momAt D ks f)] := hp
    rw [hm] at hp
    exact fin _ _ 0 (hwt _ (List.perm_singleton.1 hp)) rfl rfl (by simp) (.inl ⟨hlist, rfl⟩)
  · rw [h3] at hp hlist
    have hp : (picks D k ks).Perm [(ck, momAt D ks f), (ckT, momAt D ks g)] := hp
    rw [hm] at hp
    have hlist : list (crash k ks D) = [ck, ckT] := hlist.trans ck_sort
    have two : picks D k ks = [(ck, b), (ckT, momAt D ks g)] ∨ picks D k ks = [(ckT, momAt D ks g), (ck, b)] := by
      have hlen := hp.length_eq
      match hpk : picks D k ks, hlen with
      | [x, y], _ =>
        rw [hpk] at hp
        have hx : x ∈ [(ck, b), (ckT, momAt D ks g)] := hp.mem_iff.1 (by simp)
        have hy : (ck, b) ∈ [x, y] := hp.mem_iff.2 (by simp)
        have hz : (ckT, momAt D ks g) ∈ [x, y] := hp.mem_iff.2 (by simp)
        have hne : (ck, b) ≠ (ckT, momAt D ks g) := fun e => by
          have : ck = ckT := congrArg Prod.fst e
          exact absurd this (by decide)
        simp only [List.mem_cons, List.not_mem_nil, or_false] at hx hy hz
        rcases hx with rfl | rfl
        · rcases hz with e | e
          · exact absurd e.symm hne
          · exact .inl (by rw [e])
        · rcases hy with e | e
          · exact absurd e hne
          · exact .inr (by rw [e])
    rcases two with e | e
    · exact fin _ _ 0 (hwt _ e) (by simp [numbered, find]) rfl (by simp) (.inr ⟨hlist, ⟨1, show find [(ck, 0), (ckT, 1)] ckT = some 1 by decide⟩, show without [(ck, 0), (ckT, 1)] ckT = [(ck, 0)] by decide⟩)
    · exact fin _ _ 1 (hwt _ e) (show find [(ckT, 0), (ck, 1)] ck = some 1 by decide) rfl (by simp) (.inr ⟨hlist, ⟨0, show find [(ckT, 0), (ck, 1)] ckT = some 0 by decide⟩, show without [(ckT, 0), (ck, 1)] ckT = [(ck, 1)] by decide⟩)

end Go.Proofs.YtleomppgkikhnaaGreat.Dsk
