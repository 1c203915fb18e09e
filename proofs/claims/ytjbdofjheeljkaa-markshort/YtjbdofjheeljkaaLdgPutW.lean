/-
  The boxes of the statements' own does.
-/
import Derived.Test.YtjbdofjheeljkaaPlain
import Derived.Test.YtjbdofjheeljkaaLdgAsW
namespace Go.Proofs.Ytjbdofjheeljkaa
open Go.RowKit
open Ldg (De Le Rd Rl)

def zeroL : Array Value := #[.int .u64 0, .int .u64 0, .slice none 0 0]
/-- The boxes of does: what came in, what is told, what is made. -/
structure BoxD (w W : World) (X : Nat) (F N : Nat) (s1 s2 : Value) (op nm sq kd : Int) (p q : Array Value) : Prop where
  c0 : W.heap[w.heap.size]? = some (.cells #[.int .u64 (F : Int), .int .u64 (N : Int), s1] 27 (0, 0))
  c1 : W.heap[w.heap.size + 1]? = some (.cells #[.int .u64 (F : Int), .int .u64 (N : Int), s2] 31 (0, 0))
  c2 : W.heap[w.heap.size + 2]? = some (.cells #[.int .i64 op, .int .i64 nm, .int .i64 sq, .int .i64 kd] 36 (0, 0))
  c3 : W.heap[w.heap.size + 3]? = some (.cells #[.int .u64 0, .int .u64 0, .slice none 0 0] 27 (0, 0))
  c4 : W.heap[w.heap.size + 4]? = some (.cells #[.int .u64 0, .int .u64 0, .slice none 0 0] 31 (0, 0))
  x : W.heap[X]? = some (.cells p 27 (0, 0))
  y : W.heap[X + 1]? = some (.cells q 31 (0, 0))
  lo : w.heap.size + 5 ≤ X
  sz : X + 1 < W.heap.size
  bel : Below w.heap.size w W
theorem BoxD.then {w W W' : World} {X F N : Nat} {s1 s2 : Value} {op nm sq kd : Int} {p q : Array Value} (h : BoxD w W X F N s1 s2 op nm sq kd p q) (hb : Below W.heap.size W W') : BoxD w W' X F N s1 s2 op nm sq kd p q := by
  have h1 := h.lo
  have h2 := h.sz
  have h3 := hb.size
  exact ⟨(hb.block _ (by omega)).trans h.c0, (hb.block _ (by omega)).trans h.c1, (hb.block _ (by omega)).trans h.c2, (hb.block _ (by omega)).trans h.c3, (hb.block _ (by omega)).trans h.c4, (hb.block _ (by omega)).trans h.x, (hb.block _ (by omega)).trans h.y, h1, by omega, bl h.bel hb⟩
theorem set3 {g : Nat} {w : World} {u v z : Value} {t : TypeId} (h : w.heap[g]? = some (.cells #[u, v, z] t (0, 0))) (a b c : Value) : (((w.setCell ⟨g, 0, none⟩ a).setCell ⟨g, 1, none⟩ b).setCell ⟨g, 2, none⟩ c).heap[g]? = some (.cells #[a, b, c] t (0, 0)) :=
  box_set (box_set (box_set h a) b) c
theorem BoxD.setx {w W : World} {X F N : Nat} {s1 s2 u v z : Value} {op nm sq kd : Int} {q : Array Value} (h : BoxD w W X F N s1 s2 op nm sq kd #[u, v, z] q) (a b c : Value) : BoxD w (((W.setCell ⟨X, 0, none⟩ a).setCell ⟨X, 1, none⟩ b).setCell ⟨X, 2, none⟩ c) X F N s1 s2 op nm sq kd #[a, b, c] q := by
  have h1 := h.lo
  have hk := kept3 W X a b c
  have h2 := h.sz
  have h3 := hk.size
  exact ⟨(hk.block _ (by omega)).trans h.c0, (hk.block _ (by omega)).trans h.c1, (hk.block _ (by omega)).trans h.c2, (hk.block _ (by omega)).trans h.c3, (hk.block _ (by omega)).trans h.c4, set3 h.x a b c, (hk.block _ (by omega)).trans h.y, h1, by omega, h.bel.trans (hk.bel (fun b hb => by omega))⟩
theorem BoxD.sety {w W : World} {X F N : Nat} {s1 s2 u v z : Value} {op nm sq kd : Int} {p : Array Value} (h : BoxD w W X F N s1 s2 op nm sq kd p #[u, v, z]) (a b c : Value) : BoxD w (((W.setCell ⟨X + 1, 0, none⟩ a).setCell ⟨X + 1, 1, none⟩ b).setCell ⟨X + 1, 2, none⟩ c) X F N s1 s2 op nm sq kd p #[a, b, c] := by
  have h1 := h.lo
  have hk := kept3 W (X + 1) a b c
  have h2 := h.sz
  have h3 := hk.size
  exact ⟨(hk.block _ (by omega)).trans h.c0, (hk.block _ (by omega)).trans h.c1, (hk.block _ (by omega)).trans h.c2, (hk.block _ (by omega)).trans h.c3, (hk.block _ (by omega)).trans h.c4, (hk.block _ (by omega)).trans h.x, set3 h.y a b c, h1, by omega, h.bel.trans (hk.bel (fun b hb => by omega))⟩
theorem five_at (w : World) (o0 o1 o2 o3 o4 : Obj) {W : World} (hW : ((((w.alloc o0).alloc o1).alloc o2).alloc o3).alloc o4 = W) :
    W.heap[w.heap.size]? = some o0 ∧ W.heap[w.heap.size + 1]? = some o1 ∧ W.heap[w.heap.size + 2]? = some o2 ∧ W.heap[w.heap.size + 3]? = some o3 ∧ W.heap[w.heap.size + 4]? = some o4 ∧ W.heap.size = w.heap.size + 5 ∧ Below w.heap.size w W := by
  subst hW
  have e : (((((w.alloc o0).alloc o1).alloc o2).alloc o3).alloc o4).heap = ((((w.heap.push o0).push o1).push o2).push o3).push o4 := rfl
  rw [e]
  refine ⟨?_, ?_, ?_, ?_, ?_, by simp, ?_⟩
  · rw [Array.getElem?_push, if_neg (by simp only [Array.size_push] <;> omega), Array.getElem?_push, if_neg (by simp only [Array.size_push] <;> omega), Array.getElem?_push, if_neg (by simp only [Array.size_push] <;> omega), Array.getElem?_push, if_neg (by simp only [Array.size_push] <;> omega), Array.getElem?_push, if_pos rfl]
  · rw [Array.getElem?_push, if_neg (by simp only [Array.size_push] <;> omega), Array.getElem?_push, if_neg (by simp only [Array.size_push] <;> omega), Array.getElem?_push, if_neg (by simp only [Array.size_push] <;> omega), Array.getElem?_push, if_pos (by simp only [Array.size_push])]
  · rw [Array.getElem?_push, if_neg (by simp only [Array.size_push] <;> omega), Array.getElem?_push, if_neg (by simp only [Array.size_push] <;> omega), Array.getElem?_push, if_pos (by simp only [Array.size_push])]
  · rw [Array.getElem?_push, if_neg (by simp only [Array.size_push] <;> omega), Array.getElem?_push, if_pos (by simp only [Array.size_push])]
  · rw [Array.getElem?_push, if_pos (by simp only [Array.size_push])]
  exact (((((Below.refl w.heap.size w).alloc (Nat.le_refl _) _).alloc (by simp) _).alloc (by simp; omega) _).alloc (by simp; omega) _).alloc (by simp; omega) _
/-- Two boxes more. -/
theorem BoxD.made {w wA W1 : World} {F N : Nat} {s1 s2 : Value} {op nm sq kd : Int} {X : Nat} (hX : W1.heap.size = X)
    (hA : ((((w.alloc (.cells #[.int .u64 (F : Int), .int .u64 (N : Int), s1] 27)).alloc (.cells #[.int .u64 (F : Int), .int .u64 (N : Int), s2] 31)).alloc (.cells #[.int .i64 op, .int .i64 nm, .int .i64 sq, .int .i64 kd] 36)).alloc (.cells #[.int .u64 0, .int .u64 0, .slice none 0 0] 27)).alloc (.cells #[.int .u64 0, .int .u64 0, .slice none 0 0] 31) = wA)
    (hb : Below wA.heap.size wA W1) : BoxD w ((W1.alloc (.cells #[.int .u64 0, .int .u64 0, .slice none 0 0] 27)).alloc (.cells #[.int .u64 0, .int .u64 0, .slice none 0 0] 31)) X F N s1 s2 op nm sq kd #[.int .u64 0, .int .u64 0, .slice none 0 0] #[.int .u64 0, .int .u64 0, .slice none 0 0] := by
  obtain ⟨a0, a1, a2, a3, a4, az, ab⟩ := five_at w _ _ _ _ _ hA
  have hs := hb.size
  have hb2 : Below W1.heap.size W1 ((W1.alloc (.cells #[.int .u64 0, .int .u64 0, .slice none 0 0] 27)).alloc (.cells #[.int .u64 0, .int .u64 0, .slice none 0 0] 31)) := ((Below.refl W1.heap.size W1).alloc (Nat.le_refl _) _).alloc (by simp) _
  have hb3 := hb.trans (hb2.mono hs)
  subst hX
  refine ⟨(hb3.block _ (by omega)).trans a0, (hb3.block _ (by omega)).trans a1, (hb3.block _ (by omega)).trans a2, (hb3.block _ (by omega)).trans a3, (hb3.block _ (by omega)).trans a4, two_old W1 _ _, two_new W1 _ _, by omega, by simp, bl ab hb3⟩

/-! ## What lies in rows lies in no box of noughts -/
theorem zero_cell {w : World} {X : Nat} {t : TypeId} (h : w.heap[X]? = some (.cells #[.int .u64 0, .int .u64 0, .slice none 0 0] t (0, 0))) {j : Nat} {u : Value} (hu : w.cell? ⟨X, j, none⟩ = some u) : u = .int .u64 0 ∨ u = .slice none 0 0 := by
  match j with
  | 0 => rw [lcell_of h 0 rfl] at hu; exact .inl (Option.some.inj hu).symm
  | 1 => rw [lcell_of h 1 rfl] at hu; exact .inl (Option.some.inj hu).symm
  | 2 => rw [lcell_of h 2 rfl] at hu; exact .inr (Option.some.inj hu).symm
  | j + 3 => simp [World.cell?, h] at hu
theorem LedAt.put {w w' : World} {v : Value} {L : Le} {X : Nat} {t : TypeId} (h : LedAt w v L) (hz : ∀ d ∈ L.dests, ∀ x ∈ d.above, x ≠ 0) (hx : w.heap[X]? = some (.cells #[.int .u64 0, .int .u64 0, .slice none 0 0] t (0, 0))) (hk : Kept (fun b => b ≠ X) w w') : LedAt w' v L := by
  obtain ⟨a, c, ps, e, hc, hd, hs⟩ := h
  refine ⟨a, c, ps, e, hc, hd, ⟨fun i hi => ?_, fun p hp => ?_⟩⟩
  · obtain ⟨b, off, ha, hl, hcs⟩ := hs.cells i hi
    have hne : b ≠ X := by
      rintro rfl
      have h1 := hcs i hi 0 _ (show (drow ps[i])[0]? = some (.string ps[i].1.name) from rfl)
      rcases zero_cell hx h1 with h2 | h2 <;> cases h2
    have := hk.size
    exact ⟨b, off, ha, by omega, fun j hj k u hu => (hk.cell (by exact hne)).trans (hcs j hj k u hu)⟩
  · obtain ⟨a', c', e', h1, h2, h3⟩ := hs.sls p hp
    refine ⟨a', c', e', h1, h2, fun i hi => ?_⟩
    obtain ⟨b, off, ha, hb, hX, hcs⟩ := h3 i hi
    have hne : b ≠ X := by
      rintro rfl
      have h4 := hz p.1 (by rw [hd]; exact List.mem_map_of_mem hp) _ (List.getElem_mem hi)
      rcases zero_cell hx (hcs i hi) with h5 | h5
      · simp only [Value.int.injEq, true_and] at h5; omega
      · cases h5
    have := hk.size
    exact ⟨b, off, ha, by omega, hX, fun j hj => (hk.cell (by exact hne)).trans (hcs j hj)⟩
theorem RlAt.put {w w' : World} {v : Value} {R : Rl} {X : Nat} {t : TypeId} (h : RlAt w v R) (hx : w.heap[X]? = some (.cells #[.int .u64 0, .int .u64 0, .slice none 0 0] t (0, 0))) (hk : Kept (fun b => b ≠ X) w w') : RlAt w' v R := by
  obtain ⟨a, c, ps, e, hc, hd, hs⟩ := h
  refine ⟨a, c, ps, e, hc, hd, ⟨fun i hi => ?_, fun p hp => ?_⟩⟩
  · obtain ⟨b, off, ha, hl, hcs⟩ := hs.cells i hi
    have hne : b ≠ X := by
      rintro rfl
      have h1 := hcs i hi 0 _ (show (rrow ps[i])[0]? = some (.string ps[i].1.name) from rfl)
      rcases zero_cell hx h1 with h2 | h2 <;> cases h2
    have := hk.size
    exact ⟨b, off, ha, by omega, fun j hj k u hu => (hk.cell (by exact hne)).trans (hcs j hj k u hu)⟩
  · obtain ⟨a', c', e', h1, h2, h3⟩ := hs.sls p hp
    refine ⟨a', c', e', h1, h2, fun i hi => ?_⟩
    obtain ⟨b, off, ha, hb, hX, hcs⟩ := h3 i hi
    have hne : b ≠ X := by
      rintro rfl
      rcases zero_cell hx (hcs i hi) with h5 | h5 <;> cases h5
    have := hk.size
    exact ⟨b, off, ha, by omega, hX, fun j hj => (hk.cell (by exact hne)).trans (hcs j hj)⟩
theorem above_pos {R : Rl} (h : R.Ok) : ∀ d ∈ R.abs.dests, ∀ x ∈ d.above, x ≠ 0 := by
  intro d hd x hx
  obtain ⟨r, hr, rfl⟩ := List.mem_map.1 hd
  have h1 := (h.each r hr).since
  have h2 := Ldg.low_ge r
  have h3 := Ldg.above_mem (d := r) hx
  omega
theorem none_pos : ∀ d ∈ Rl.none.abs.dests, ∀ x ∈ d.above, x ≠ 0 := fun d hd => by simp [Ldg.Rl.none, Ldg.Rl.abs] at hd
end Go.Proofs.Ytjbdofjheeljkaa
