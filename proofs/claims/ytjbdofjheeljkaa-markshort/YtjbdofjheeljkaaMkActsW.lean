/-
  Acts of whole numbers that came in.
-/
import Derived.Test.YtjbdofjheeljkaaKinds
import Derived.Test.YtjbdofjheeljkaaBase
import Derived.Deep.SlicePairs
import Derived.OpenShut
import Derived.Lib.SmallJoins
namespace Go.Proofs.Ytjbdofjheeljkaa
open Go.RowKit Go.Deep

structure Ma where
  op : Int
  nm : Int
  sq : Int
structure MaOk (x : Ma) : Prop where
  op0 : -9223372036854775808 ≤ x.op
  op1 : x.op ≤ 9223372036854775807
  nm0 : -9223372036854775808 ≤ x.nm
  nm1 : x.nm ≤ 9223372036854775807
  sq0 : -9223372036854775808 ≤ x.sq
  sq1 : x.sq ≤ 9223372036854775807
structure MaCells (w : World) (g o : Nat) (x : Ma) : Prop where
  c0 : w.cell? ⟨g, o, none⟩ = some (.int .i64 x.op)
  c1 : w.cell? ⟨g, o + 1, none⟩ = some (.int .i64 x.nm)
  c2 : w.cell? ⟨g, o + 2, none⟩ = some (.int .i64 x.sq)
theorem MaCells.below {n : Nat} {w w' : World} {g o : Nat} {x : Ma} (h : MaCells w g o x) (hb : Below n w w') (hg : g < n) : MaCells w' g o x :=
  ⟨(hb.cell (p := ⟨g, o, none⟩) hg).trans h.c0, (hb.cell (p := ⟨g, o + 1, none⟩) hg).trans h.c1, (hb.cell (p := ⟨g, o + 2, none⟩) hg).trans h.c2⟩
/-- Acts behind an address. -/
def MasAt (w : World) (a : Option Addr) (l : List Ma) : Prop := ∀ i, i < l.length → ∃ g o, a = some ⟨g, o, none⟩ ∧ g < w.heap.size ∧ ∀ j (hj : j < l.length), MaCells w g (o + j * 3) l[j]
theorem MasAt.nil (w : World) (a : Option Addr) : MasAt w a [] := fun _ hi => absurd hi (Nat.not_lt_zero _)
theorem MasAt.below {w w' : World} {a : Option Addr} {l : List Ma} (h : MasAt w a l) (hb : Below w.heap.size w w') : MasAt w' a l := fun i hi => by
  obtain ⟨g, o, h1, h2, h3⟩ := h i hi
  exact ⟨g, o, h1, Nat.lt_of_lt_of_le h2 hb.size, fun j hj => (h3 j hj).below hb h2⟩
theorem MasAt_of {w : World} {x : Addr} {len : Nat} {q : Nat → Ma} (h : ∀ i, i < len → w.cell? (x.add (i * 3)) = some (.int .i64 (q i).op) ∧ w.cell? (x.add (i * 3 + 1)) = some (.int .i64 (q i).nm) ∧ w.cell? (x.add (i * 3 + 2)) = some (.int .i64 (q i).sq)) : MasAt w (some x) ((List.range len).map q) := by
  intro i hi
  have hi' : i < len := by simpa using hi
  obtain ⟨b, off, spot⟩ := x
  have h0 := (h 0 (by omega)).1
  have hs : spot = none := by simpa [Addr.add] using World.cell?_spot h0
  subst hs
  refine ⟨b, off, rfl, ?_, fun j hj => ?_⟩
  · have := World.block_lt_of_cell? w _ h0
    simpa [Addr.add] using this
  · have hj' : j < len := by simpa using hj
    have := h j hj'
    simp only [Addr.add_lit] at this
    simp only [List.getElem_map, List.getElem_range]
    obtain ⟨a0, a1, a2⟩ := this
    exact ⟨a0, by rw [Nat.add_assoc]; exact a1, by rw [Nat.add_assoc]; exact a2⟩
/-- Their data. -/
def MaD {H : Type} (d : DataW H) (l : List Ma) : Prop := l = [] ∨ ∃ (D : Nat → DataW H) (sp : List (DataW H)), d = .slice ((List.range l.length).map D) sp
set_option maxRecDepth 100000 in
theorem open_Mas {H : Type} {enc : TypeId × Value → H} {w : World} {base : Nat} {spare : Nat → Bool} {held : Bool} {fuel : Nat} {cs : List Value} {x : DataW H × List MemPlace} (h : DataW.trod enc Try.prog w base spare held fuel 78 cs = some x) :
    ∃ a l cap, cs = [.slice a l.length cap] ∧ MasAt w a l ∧ l.length ≤ maxLen ∧ l.length ≤ cap ∧ (∀ p ∈ l, MaOk p) ∧ (a = none → cap = 0) := by
  rcases open_slice Try.underlying78 h with ⟨rfl, _⟩ | ⟨a, len, cap, m, n, D, Pl, rfl, _, hl, hm, hmm, hx, hc⟩
  · exact ⟨none, [], 0, rfl, MasAt.nil _ _, Nat.zero_le _, Nat.zero_le _, fun p hp => by simp at hp, fun _ => rfl⟩
  · have hlm : len ≤ m := by rw [hmm]; split <;> omega
    have ce : Try.prog.cellsOf 116 = 3 := by kernel_rfl
    have each : ∀ i, i < len → ∃ q : Ma, (w.cell? (a.add (i * 3)) = some (.int .i64 q.op) ∧ w.cell? (a.add (i * 3 + 1)) = some (.int .i64 q.nm) ∧ w.cell? (a.add (i * 3 + 2)) = some (.int .i64 q.sq)) ∧ MaOk q := by
      intro i hi
      obtain ⟨cs', h1, h2⟩ := hc i (by omega)
      rw [ce] at h1
      obtain ⟨_, hlen, hcell⟩ := World.cells?_some h1
      obtain ⟨xs, k, hk, hxy, _, hxl, hf⟩ := DataW.trod_struct Try.underlying116 h2
      match xs, hxl, cs', hlen with
      | [y0, y1, y2], _, [v0, v1, v2], _ =>
        have g0 := hf 0 _ rfl
        have g1 := hf 1 _ rfl
        have g2 := hf 2 _ rfl
        have k2 : Try.prog.cellsOf 3 = 1 := by kernel_rfl
        simp [k2] at g0 g1 g2
        obtain ⟨s0, e0, _, z0⟩ := DataW.trod_int Try.underlying3 g0
        obtain ⟨s1, e1, _, z1⟩ := DataW.trod_int Try.underlying3 g1
        obtain ⟨s2, e2, _, z2⟩ := DataW.trod_int Try.underlying3 g2
        have c0 := hcell 0 (by omega)
        have c1 := hcell 1 (by omega)
        have c2 := hcell 2 (by omega)
        rw [add_add] at c0 c1 c2
        simp at e0 e1 e2 c0 c1 c2
        subst e0 e1 e2
        exact ⟨⟨s0, s1, s2⟩, ⟨c0, c1, c2⟩, ⟨(bounds_i64 z0).1, (bounds_i64 z0).2, (bounds_i64 z1).1, (bounds_i64 z1).2, (bounds_i64 z2).1, (bounds_i64 z2).2⟩⟩
    have inh : Inhabited Ma := ⟨⟨0, 0, 0⟩⟩
    obtain ⟨q, hq⟩ := choose_lt each
    refine ⟨some a, (List.range len).map q, cap, by simp, MasAt_of fun i hi => (hq i hi).1, by simp; omega, by simpa using hl, fun p hp => ?_, fun e => by cases e⟩
    obtain ⟨i, hi, rfl⟩ := List.mem_map.1 hp
    exact (hq i (List.mem_range.1 hi)).2
set_option maxRecDepth 100000 in
theorem open_MaV {H : Type} {enc : TypeId × Value → H} {w : World} {base : Nat} {spare : Nat → Bool} {held : Bool} {r : Reach} {b0 : Nat} {v : Value} {d : DataW H} {p : List MemPlace} (hv : Value.okWide Try.prog w r b0 116 v) (h : DataW.Trod enc Try.prog w base spare held 116 v d p) :
    ∃ q : Ma, v = .agg #[.int .i64 q.op, .int .i64 q.nm, .int .i64 q.sq] ∧ MaOk q := by
  obtain ⟨v0, v1, v2, y0, y1, y2, n, rfl, _, _, t0, t1, t2⟩ := Go.Joins.open_agg3 Try.underlying116 (by kernel_rfl) (by kernel_rfl) hv h
  obtain ⟨s0, e0, _, z0⟩ := DataW.trod_int Try.underlying3 t0
  obtain ⟨s1, e1, _, z1⟩ := DataW.trod_int Try.underlying3 t1
  obtain ⟨s2, e2, _, z2⟩ := DataW.trod_int Try.underlying3 t2
  simp at e0 e1 e2
  subst e0 e1 e2
  exact ⟨⟨s0, s1, s2⟩, rfl, ⟨(bounds_i64 z0).1, (bounds_i64 z0).2, (bounds_i64 z1).1, (bounds_i64 z1).2, (bounds_i64 z2).1, (bounds_i64 z2).2⟩⟩
end Go.Proofs.Ytjbdofjheeljkaa
