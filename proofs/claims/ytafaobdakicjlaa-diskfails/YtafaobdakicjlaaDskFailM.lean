/-
  Chapter 7, plain: an act on two disks, of which one has an operation that fails. No program here.
-/
import Derived.Test.YtafaobdakicjlaaDskRunM
namespace Go.Proofs.Ytafaobdakicjlaa.Dsk
open Go.Proofs.Ytafaobdakicjlaa

/-- Acts by their numbers, as DiskFails has them. -/
def opF (k : Nat) (n : ByteArray) (s : By) (N : Int) (d : Dk) : Dk × Int :=
  if k < 2 then create n d else if k < 6 then append n s d else if k = 6 then cut n N d else if k < 9 then sync n d else if k < 11 then remove n d else syncDir d
theorem fresh_fail (room : Int) (x : Nat) (hx : 1 ≤ x) : FailRel 0 (setFail (x : Int) (fresh room)) (fresh room) := ⟨x, rfl, rfl, rfl, .inl ⟨rfl, hx⟩⟩
theorem not10_create (n : ByteArray) (d : Dk) : (createB n d).2 ≠ 10 := by unfold createB; split; · simp
                                                                           split <;> simp
theorem not10_cut (n : ByteArray) (to : Int) (d : Dk) : (cutB n to d).2 ≠ 10 := by
  unfold cutB
  split
  · simp
  · split <;> simp
theorem not10_remove (n : ByteArray) (d : Dk) : (removeB n d).2 ≠ 10 := by
  unfold removeB
  split <;> simp
theorem FailRel.plain {j : Nat} {a b : Dk} (h : FailRel j a b) {f : Dk → Dk × Int} (hf : Blind3 f) (hn : ∀ d, (f d).2 ≠ 10) :
    ((act a f).2 = 10 ∧ j = 0 ∧ FailRel 1 (act a f).1 b) ∨ ((act a f).2 ≠ 10 ∧ (act a f).2 = (act b f).2 ∧ FailRel j (act a f).1 (act b f).1) := by
  obtain ⟨e, k⟩ := h.step3 hf
  refine .inr ⟨?_, e, k⟩
  rw [e]
  obtain ⟨_, _, _, hl, _⟩ := h
  rw [on_for hl]
  exact hn _
theorem FailRel.op {j : Nat} {a b : Dk} (h : FailRel j a b) (k : Nat) (n : ByteArray) (s : By) (N : Int) :
    ((opF k n s N a).2 = 10 ∧ j = 0 ∧ FailRel 1 (opF k n s N a).1 b) ∨ ((opF k n s N a).2 ≠ 10 ∧ (opF k n s N a).2 = (opF k n s N b).2 ∧ FailRel j (opF k n s N a).1 (opF k n s N b).1) := by
  unfold opF
  split
  · exact h.plain (blind3_create n) (not10_create n)
  · split
    · exact h.stepF (blind_append n s) (failF_append n s)
    · split
      · exact h.plain (blind3_cut n N) (not10_cut n N)
      · split
        · exact h.stepF (blind_sync n) (failF_sync n)
        · split
          · exact h.plain (blind3_remove n) (not10_remove n)
          · exact h.plain blind3_syncDir (fun d => by simp [syncDirB])

end Go.Proofs.Ytafaobdakicjlaa.Dsk
