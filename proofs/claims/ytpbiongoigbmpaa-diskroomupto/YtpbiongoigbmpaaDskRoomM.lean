/-
  Chapter 7, plain: what fits, and what does not, of a file that is there. No program here.
-/
import Derived.Test.YtpbiongoigbmpaaDskRunM
import Derived.Test.YtpbiongoigbmpaaDskBudM
namespace Go.Proofs.Ytpbiongoigbmpaa.Dsk
open Go.Proofs.Ytpbiongoigbmpaa

structure Pre (n u : Nat) (d : Dk) : Prop where
  ok : Ok d
  room : d.room = n
  used : used d = u
  fail : d.fail = 0
  left : d.left = -1
structure Rdy (z : ByteArray) (n u : Nat) (d : Dk) : Prop extends Pre n u d where
  there : ∃ f, find (dir d) z = some f
theorem does_room (k : Nat) (n t : ByteArray) (s : By) (N : Int) (d : Dk) : (does k n t s N d).1.room = d.room := by
  unfold does
  split
  · refine act_room fun d => ?_
    unfold createB
    split
    · rfl
    · split <;> rfl
  · split
    · refine act_room fun d => ?_
      unfold appendB
      split
      · rfl
      · split
        · rfl
        · split <;> rfl
    · split
      · refine act_room fun d => ?_
        unfold cutB
        split
        · rfl
        · split <;> rfl
      · split
        · refine act_room fun d => ?_
          unfold syncB
          split
          · rfl
          · split <;> rfl
        · split
          · refine act_room fun d => ?_
            unfold renameB
            split
            · rfl
            · split <;> rfl
          · split
            · refine act_room fun d => ?_
              unfold removeB
              split <;> rfl
            · split
              · exact act_room fun d => rfl
              · split <;> rfl
theorem Pre.create {n u : Nat} {d : Dk} (h : Pre n u d) {z : ByteArray} (hz : isName z = true) : Rdy z n u (create z d).1 := by
  have hok := create_ok z h.ok
  have e := on_for h.left (createB z)
  unfold Dsk.create at hok ⊢
  rw [e] at hok ⊢
  unfold createB at hok ⊢
  rw [if_neg (by simp [hz])] at hok ⊢
  have hd : dir { d with ops := d.ops + 1 } = dir d := rfl
  rw [hd] at hok ⊢
  cases hf : find (dir d) z with
  | some f =>
    rw [hf] at hok
    exact ⟨⟨hok, h.room, h.used, h.fail, h.left⟩, f, hf⟩
  | none =>
    rw [hf] at hok
    refine ⟨⟨hok, h.room, ?_, h.fail, h.left⟩, d.files.length, ?_⟩
    · have := used_create h.ok hf
      rw [h.used] at this
      exact this
    · have hsn : dir { d with ops := d.ops + 1, files := d.files ++ [[[]]], dirs := d.dirs ++ [without (dir d) z ++ [(z, d.files.length)]] } = without (dir d) z ++ [(z, d.files.length)] := dir_snoc { d with ops := d.ops + 1, files := d.files ++ [[[]]] } d.dirs _
      show find (dir { d with ops := d.ops + 1, files := d.files ++ [[[]]], dirs := d.dirs ++ [without (dir d) z ++ [(z, d.files.length)]] }) z = _
      rw [hsn, find_app, find_none.2 (fun p hp => without_ne hp)]
      simp [find]
theorem Rdy.fits {z : ByteArray} {n u : Nat} {d : Dk} (h : Rdy z n u d) {s : By} (hs : u + s.length ≤ n) : (append z s d).2 = 0 ∧ Rdy z n (u + s.length) (append z s d).1 := by
  obtain ⟨f, hf⟩ := h.there
  have hok := append_ok z s h.ok
  have e := on_for h.left (appendB z s)
  unfold Dsk.append at hok ⊢
  rw [e] at hok ⊢
  unfold appendB at hok ⊢
  have hd : dir { d with ops := d.ops + 1 } = dir d := rfl
  rw [hd, hf] at hok ⊢
  simp only at hok ⊢
  have hu : Dsk.used { d with ops := d.ops + 1 } = u := h.used
  have hr : d.room = n := h.room
  have h0 : d.fail = 0 := h.fail
  rw [if_neg (by rw [hu, hr]; omega), if_neg (by rw [h0]; simp)] at hok ⊢
  have h3 := used_set (d := { d with ops := d.ops + 1 }) (by have := on_ok h.ok; unfold on at this; rw [if_neg (by rw [h.left]; simp)] at this; exact this) (n := z) (f := f) hf (hist { d with ops := d.ops + 1 } f ++ fronts (now { d with ops := d.ops + 1 } f) s) (d.fail - 1)
  rw [fronts_last (hist { d with ops := d.ops + 1 } f) (now { d with ops := d.ops + 1 } f) s rfl, List.length_append, hu] at h3
  refine ⟨rfl, ⟨⟨hok, hr, ?_, by simp only; omega, h.left⟩, f, hf⟩⟩
  have h4 : Dsk.used { d with ops := d.ops + 1, fail := d.fail - 1, files := d.files.set f (hist { d with ops := d.ops + 1 } f ++ fronts (now { d with ops := d.ops + 1 } f) s) } + (now { d with ops := d.ops + 1 } f).length = u + ((now { d with ops := d.ops + 1 } f).length + s.length) := h3
  show Dsk.used { d with ops := d.ops + 1, fail := d.fail - 1, files := d.files.set f (hist { d with ops := d.ops + 1 } f ++ fronts (now { d with ops := d.ops + 1 } f) s) } = u + s.length
  omega
theorem Rdy.full {z : ByteArray} {n u : Nat} {d : Dk} (h : Rdy z n u d) {s : By} (hs : n < u + s.length) : (append z s d).2 = 9 ∧ Rdy z n u (append z s d).1 := by
  obtain ⟨f, hf⟩ := h.there
  have hok := append_ok z s h.ok
  have e := on_for h.left (appendB z s)
  unfold Dsk.append at hok ⊢
  rw [e] at hok ⊢
  unfold appendB at hok ⊢
  have hd : dir { d with ops := d.ops + 1 } = dir d := rfl
  rw [hd, hf] at hok ⊢
  simp only at hok ⊢
  have hu : Dsk.used { d with ops := d.ops + 1 } = u := h.used
  have hr : d.room = n := h.room
  rw [if_pos (by rw [hu, hr]; exact hs)] at hok ⊢
  exact ⟨rfl, ⟨⟨hok, hr, hu, h.fail, h.left⟩, f, hf⟩⟩

end Go.Proofs.Ytpbiongoigbmpaa.Dsk
