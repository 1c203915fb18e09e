/-
  Chapter 8, plain: two files that are written in turns. No program here.
-/
import Derived.Test.YtaheckbdmkendaaSwpLawM
namespace Go.Proofs.Ytaheckbdmkendaa.Dsk
open Go.Proofs.Ytaheckbdmkendaa

/-- Two files, each of one text, that are synced. -/
def Duo (D : Dk) (x y : ByteArray) (bx cy : By) : Prop := ∃ fs f g, Wt D 1000000 fs ([] ++ [[(x, f), (y, g)]]) 0 ∧ fs.getD f [] = [bx] ∧ fs.getD g [] = [cy] ∧ f < fs.length ∧ g < fs.length
/-- Whatever row of names is left, each has one of its texts. -/
def Ends (E : Dk) (x y : ByteArray) (P Q : By → Prop) : Prop := ∀ r ∈ E.dirs, (∃ f b, find r x = some f ∧ hist E f = [b] ∧ P b) ∧ ∃ g b, find r y = some g ∧ hist E g = [b] ∧ Q b
theorem Ends.swap {E : Dk} {x y : ByteArray} {P Q : By → Prop} (h : Ends E x y P Q) : Ends E y x Q P := fun r hr => (h r hr).symm
theorem Ends.crash {E : Dk} {x y : ByteArray} {P Q : By → Prop} (h : Ends E x y P Q) (ok : Ok E) (k : Int) (ks : List Int) : (∃ b, P b ∧ read x (Dsk.crash k ks E) = (b, 0)) ∧ ∃ b, Q b ∧ read y (Dsk.crash k ks E) = (b, 0) := by
  obtain ⟨⟨f, b, h1, h2, h3⟩, g, c, i1, i2, i3⟩ := h _ (rowAt_mem ok k)
  exact ⟨⟨b, h3, by rw [crash_read ok k ks (find_some h1), mom_one h2]⟩, c, i3, by rw [crash_read ok k ks (find_some i1), mom_one i2]⟩
theorem Duo.ends {D : Dk} {x y : ByteArray} {bx cy : By} (hne : x ≠ y) (h : Duo D x y bx cy) : Ends D x y (fun b => b = bx) (fun b => b = cy) := by
  obtain ⟨fs, f, g, h, h1, h2, _⟩ := h
  intro r hr
  rw [h.dirs] at hr
  have hr : r = [(x, f), (y, g)] := by simpa using hr
  subst hr
  exact ⟨⟨f, bx, by simp [find], by rw [hist_wt h, h1], rfl⟩, g, cy, by simp [find, hne], by rw [hist_wt h, h2], rfl⟩
theorem Duo.next {D : Dk} {x y : ByteArray} {bx cy : By} (hx : maySwap x = true) (hne : x ≠ y) (hy : endsT y = false) (h : Duo D x y bx cy) (t : By) :
    ((write x t D).2 = 0 ∧ Duo (write x t D).1 y x cy t) ∨ ((write x t D).2 ≠ 0 ∧ Ends (write x t D).1 x y (fun b => b = bx ∨ b = t) (fun b => b = cy)) := by
  obtain ⟨fs, f, g, h, f1, g1, fl, gl⟩ := h
  have hxT : endsT x = false := (maySwap_iff.1 hx).2.2
  have hW : without [(x, f), (y, g)] (tilde x) = [(x, f), (y, g)] := without_ne_all (fun p hp => by
    simp only [List.mem_cons, List.not_mem_nil, or_false] at hp
    rcases hp with rfl | rfl
    · exact tilde_ne hxT
    · exact tilde_ne hy)
  have hW2 : without [(x, f), (y, g)] x = [(y, g)] := by
    have : y ≠ x := fun e => hne e.symm
    simp [without, this]
  have hfx : find [(x, f), (y, g)] x = some f := by simp [find]
  have hfy : find [(x, f), (y, g)] y = some g := by simp [find, hne]
  have mid : ∀ (E : Dk) (H : List (List By)) (ds' : List Row) (k' : Nat), Wt E 1000000 (fs ++ H) ds' k' → ∀ l, Mids x fs [] [(x, f), (y, g)] l → ∀ r ∈ l, (∃ f b, find r x = some f ∧ hist E f = [b] ∧ (b = bx ∨ b = t)) ∧ ∃ g b, find r y = some g ∧ hist E g = [b] ∧ b = cy := fun E H ds' k' hE l hm r hr => by
    have a1 : hist E f = [bx] := by rw [hist_wt hE, getD_app _ _ fl, f1]
    have a2 : hist E g = [cy] := by rw [hist_wt hE, getD_app _ _ gl, g1]
    have := hm r hr
    rw [hW] at this
    have key : r = [(x, f), (y, g)] ∨ r = [(x, f), (y, g)] ++ [(tilde x, fs.length)] := by
      rcases this with e | e | e | e
      · simp at e
      · exact .inl e
      · exact .inl e
      · exact .inr e
    rcases key with rfl | rfl
    · exact ⟨⟨f, bx, hfx, a1, .inl rfl⟩, g, cy, hfy, a2, rfl⟩
    · exact ⟨⟨f, bx, by rw [find_app1 (tilde_ne hxT)]; exact hfx, a1, .inl rfl⟩, g, cy, by rw [find_app1 (tilde_ne hy)]; exact hfy, a2, rfl⟩
  rcases write_all hx t h (by simpa using ⟨fl, gl⟩) with ⟨h0, q⟩ | q | q
  · refine .inl ⟨h0, _, g, fs.length, by have := q.wt; rw [hW, hW2] at this; exact this, by rw [getD_app _ _ gl, g1], getD_end _ _, by rw [List.length_append]; omega, by simp⟩
  · obtain ⟨ds', k', hE, hm⟩ := q.wt
    refine .inr ⟨by rw [q.err]; simp, fun r hr => ?_⟩
    rw [hE.dirs] at hr
    rcases List.mem_append.1 hr with hr | hr
    · exact mid _ _ _ _ hE _ hm r hr
    · rw [hW, hW2] at hr
      have hr : r = [(y, g)] ++ [(x, fs.length)] := by simpa using hr
      subst hr
      exact ⟨⟨fs.length, t, find_snoc_self (by simp [find]; exact fun e => hne e.symm), by rw [hist_wt hE, getD_end], .inr rfl⟩, g, cy, by rw [find_app1 (fun e => hne e.symm)]; simp [find], by rw [hist_wt hE, getD_app _ _ gl, g1], rfl⟩
  · obtain ⟨H, ds', k', hE, hm, _⟩ := q.wt
    refine .inr ⟨?_, fun r hr => ?_⟩
    · rcases q.err with ⟨e, _⟩ | ⟨e, _⟩ | ⟨e, _⟩ <;> (rw [e]; simp)
    · rw [hE.dirs] at hr
      exact mid _ _ _ _ hE _ hm r hr
theorem rA_may : maySwap rA = true := by decide
theorem rB_may : maySwap rB = true := by decide
def twoD : Dk := (write rB [98] (write rA [97] (fresh 1000000)).1).1
theorem two_first : (write rA [97] (fresh 1000000)).2 = 0 ∧ (write rB [98] (write rA [97] (fresh 1000000)).1).2 = 0 ∧ Duo twoD rA rB [97] [98] := by
  have h0 : Wt (fresh 1000000) 1000000 [] ([] ++ [[]]) 0 := ⟨by decide, rfl, rfl, rfl⟩
  obtain ⟨e1, h1⟩ := write_good rA_may [97] h0 (by simp) rfl (by decide) (by decide) (by decide)
  have hw : Wt (write rA [97] (fresh 1000000)).1 1000000 [[[97]]] ([] ++ [[(rA, 0)]]) 0 := h1.wt
  obtain ⟨e2, h2⟩ := write_good rB_may [98] hw (by simp) (h1.left rfl) (by decide) (by decide) (by decide)
  have hw2 : Wt twoD 1000000 [[[97]], [[98]]] ([] ++ [[(rA, 0), (rB, 1)]]) 0 := h2.wt
  exact ⟨e1, e2, _, 0, 1, hw2, rfl, rfl, by simp, by simp⟩
theorem Duo.stop {D : Dk} {x y : ByteArray} {bx cy : By} (h : Duo D x y bx cy) (n : Int) : Duo (setStop n D) x y bx cy := by
  obtain ⟨fs, f, g, h, r⟩ := h
  exact ⟨fs, f, g, ⟨h.room, h.files, h.dirs, h.fail⟩, r⟩

end Go.Proofs.Ytaheckbdmkendaa.Dsk
