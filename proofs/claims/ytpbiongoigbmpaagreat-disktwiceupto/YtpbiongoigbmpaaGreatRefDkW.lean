/-
  The document's disk in memory: its cells, the row of its files' moments, the row of its names.
-/
import Derived.Test.YtpbiongoigbmpaaGreatDskRelW
namespace Go.Proofs.YtpbiongoigbmpaaGreat
open Go.RowKit
open Dsk (By Dk)

def strsV (l : List By) : List Value := l.map (fun b => .string (Num.bs b))
def nmdV (r : Dsk.Row) : List Value := r.flatMap (fun p => [.string p.1, .int .i64 (p.2 : Int)])
theorem nmdV_len (l : Dsk.Row) : (nmdV l).length = l.length * 2 := by
  induction l with
  | nil => rfl
  | cons c r ih => simp only [nmdV, List.flatMap_cons, List.length_append, List.length_cons, List.length_nil] at ih ⊢; rw [ih]; omega
theorem nmdV_at : ∀ {l : Dsk.Row} {j : Nat} (hj : j < l.length), (nmdV l)[j * 2]? = some (.string l[j].1) ∧ (nmdV l)[j * 2 + 1]? = some (.int .i64 (l[j].2 : Int))
  | x :: l, 0, _ => ⟨rfl, rfl⟩
  | x :: l, j + 1, hj => by
    have := nmdV_at (l := l) (j := j) (by simpa using hj)
    simp only [nmdV, List.flatMap_cons, List.getElem_cons_succ] at this ⊢
    rw [show (j + 1) * 2 = j * 2 + 2 by omega, show j * 2 + 2 + 1 = j * 2 + 1 + 2 by omega]
    simpa using this
theorem nmdV_app (a b : Dsk.Row) : nmdV (a ++ b) = nmdV a ++ nmdV b := by simp [nmdV]
def NmdAt (S : Nat → Prop) (w : World) (v : Value) (r : Dsk.Row) : Prop := w.ownsRow 0 79 2 v r.length (nmdV r) ∧ ∀ g, v.ownBlock = some g → S g
def StrAt (S : Nat → Prop) (w : World) (v : Value) (h : List By) : Prop := w.ownsRow 0 9 1 v h.length (strsV h) ∧ ∀ g, v.ownBlock = some g → S g
def refArr (D : Dk) (fv dv : Value) : Array Value := #[.int .i64 (D.room : Int), fv, dv, .int .i64 (D.ops : Int), .int .i64 (D.fail : Int), .int .i64 D.left]
structure RefAt (S : Nat → Prop) (w : World) (p : Nat) (D : Dk) (fv dv : Value) (fs ds : List Value) : Prop where
  blk : w.heap[p]? = some (.cells (refArr D fv dv) 61 (0, 0))
  files : w.ownsRow 0 42 1 fv D.files.length fs
  dirs : w.ownsRow 0 77 1 dv D.dirs.length ds
  file : ∀ i (hi : i < D.files.length), ∃ v, fs[i]? = some v ∧ StrAt S w v D.files[i]
  dir : ∀ i (hi : i < D.dirs.length), ∃ v, ds[i]? = some v ∧ NmdAt S w v D.dirs[i]
  apart : ∀ (i j : Nat) (u v : Value), i ≠ j → fs[i]? = some u → fs[j]? = some v → ∀ g, u.ownBlock = some g → v.ownBlock ≠ some g
  sp : S p
  sf : ∀ g, fv.ownBlock = some g → S g
  sd : ∀ g, dv.ownBlock = some g → S g
  lt : ∀ b, S b → b < w.heap.size
theorem own_lt {w : World} {base e size n : Nat} {v : Value} {xs : List Value} (h : w.ownsRow base e size v n xs) {g : Nat} (k : v.ownBlock = some g) : g < w.heap.size := by
  obtain ⟨cur, hc⟩ := own_kind h k
  exact (Array.getElem?_eq_some_iff.1 hc).1
theorem StrAt.keep {S T : Nat → Prop} {w w' : World} {v : Value} {h : List By} (k : StrAt S w v h) (hs : ∀ g, S g → T g) (e : ∀ g, v.ownBlock = some g → w'.heap[g]? = w.heap[g]?) : StrAt T w' v h := ⟨own_keep k.1 e, fun g x => hs g (k.2 g x)⟩
theorem NmdAt.keep {S T : Nat → Prop} {w w' : World} {v : Value} {h : Dsk.Row} (k : NmdAt S w v h) (hs : ∀ g, S g → T g) (e : ∀ g, v.ownBlock = some g → w'.heap[g]? = w.heap[g]?) : NmdAt T w' v h := ⟨own_keep k.1 e, fun g x => hs g (k.2 g x)⟩
theorem RefAt.keep {S : Nat → Prop} {w w' : World} {p : Nat} {D : Dk} {fv dv : Value} {fs ds : List Value} (H : RefAt S w p D fv dv fs ds) (hs : w.heap.size ≤ w'.heap.size) (k : ∀ b, S b → w'.heap[b]? = w.heap[b]?) : RefAt S w' p D fv dv fs ds :=
  ⟨(k p H.sp).trans H.blk, own_keep H.files (fun g e => k g (H.sf g e)), own_keep H.dirs (fun g e => k g (H.sd g e)), fun i hi => by
    obtain ⟨v, h1, h2⟩ := H.file i hi
    exact ⟨v, h1, h2.keep (fun _ x => x) (fun g e => k g (h2.2 g e))⟩, fun i hi => by
    obtain ⟨v, h1, h2⟩ := H.dir i hi
    exact ⟨v, h1, h2.keep (fun _ x => x) (fun g e => k g (h2.2 g e))⟩, H.apart, H.sp, H.sf, H.sd, fun b hb => Nat.lt_of_lt_of_le (H.lt b hb) hs⟩
theorem RefAt.mono {S T : Nat → Prop} {w : World} {p : Nat} {D : Dk} {fv dv : Value} {fs ds : List Value} (H : RefAt S w p D fv dv fs ds) (k : ∀ b, S b → T b) (hl : ∀ b, T b → b < w.heap.size) : RefAt T w p D fv dv fs ds :=
  ⟨H.blk, H.files, H.dirs, fun i hi => by
    obtain ⟨v, h1, h2⟩ := H.file i hi
    exact ⟨v, h1, h2.1, fun g e => k g (h2.2 g e)⟩, fun i hi => by
    obtain ⟨v, h1, h2⟩ := H.dir i hi
    exact ⟨v, h1, h2.1, fun g e => k g (h2.2 g e)⟩, H.apart, k _ H.sp, fun g e => k g (H.sf g e), fun g e => k g (H.sd g e), hl⟩
theorem RefAt.below {S : Nat → Prop} {w w' : World} {p : Nat} {D : Dk} {fv dv : Value} {fs ds : List Value} (H : RefAt S w p D fv dv fs ds) (hb : Below w.heap.size w w') : RefAt S w' p D fv dv fs ds := H.keep hb.size (fun b h => hb.block b (H.lt b h))
theorem RefAt.wide {S : Nat → Prop} (w : World) {w' : World} {p : Nat} {D : Dk} {fv dv : Value} {fs ds : List Value} (H : RefAt S w' p D fv dv fs ds) : RefAt (more S w w') w' p D fv dv fs ds :=
  H.mono (fun _ => .inl) (fun b hb => by rcases hb with hb | hb; exact H.lt b hb; exact hb.2)
/-- Other cells of its own, and rows. All that is not named has not changed. -/
theorem RefAt.cells {S T : Nat → Prop} {w w' : World} {p : Nat} {D D' : Dk} {fv dv fv' dv' : Value} {fs ds fs' ds' : List Value} (H : RefAt S w p D fv dv fs ds)
    (hs : ∀ b, S b → T b) (hl : ∀ b, T b → b < w'.heap.size) (hp : w'.heap[p]? = some (.cells (refArr D' fv' dv') 61 (0, 0)))
    (h1 : w'.ownsRow 0 42 1 fv' D'.files.length fs') (s1 : ∀ g, fv'.ownBlock = some g → T g) (h2 : w'.ownsRow 0 77 1 dv' D'.dirs.length ds') (s2 : ∀ g, dv'.ownBlock = some g → T g)
    (h3 : ∀ i (hi : i < D'.files.length), ∃ v, fs'[i]? = some v ∧ StrAt T w' v D'.files[i]) (h4 : ∀ i (hi : i < D'.dirs.length), ∃ v, ds'[i]? = some v ∧ NmdAt T w' v D'.dirs[i])
    (h5 : ∀ (i j : Nat) (u v : Value), i ≠ j → fs'[i]? = some u → fs'[j]? = some v → ∀ g, u.ownBlock = some g → v.ownBlock ≠ some g) : RefAt T w' p D' fv' dv' fs' ds' :=
  ⟨hp, h1, h2, h3, h4, h5, hs _ H.sp, s1, s2, hl⟩
/-- What is of another kind than what has changed. -/
theorem RefAt.kinds {S : Nat → Prop} {w w' : World} {p : Nat} {D : Dk} {fv dv : Value} {fs ds : List Value} (H : RefAt S w p D fv dv fs ds) {t : TypeId} (k : ∀ b, S b → (∀ c, w.heap[b]? ≠ some (.cells c t (0, 0))) → w'.heap[b]? = w.heap[b]?) :
    (t ≠ 61 → w'.heap[p]? = w.heap[p]?) ∧ (t ≠ 42 → w'.ownsRow 0 42 1 fv D.files.length fs) ∧ (t ≠ 77 → w'.ownsRow 0 77 1 dv D.dirs.length ds) ∧
    (t ≠ 9 → ∀ i (hi : i < D.files.length), ∃ v, fs[i]? = some v ∧ StrAt S w' v D.files[i]) ∧ (t ≠ 79 → ∀ i (hi : i < D.dirs.length), ∃ v, ds[i]? = some v ∧ NmdAt S w' v D.dirs[i]) := by
  have q : ∀ {b : Nat} {c : Array Value} {u : TypeId}, S b → w.heap[b]? = some (.cells c u (0, 0)) → t ≠ u → w'.heap[b]? = w.heap[b]? := fun hb hc hn => k _ hb (fun c' e => by
    rw [hc] at e
    simp only [Option.some.injEq, Obj.cells.injEq] at e
    exact hn e.2.1.symm)
  refine ⟨fun n => q H.sp H.blk n, fun n => own_keep H.files (fun g e => ?_), fun n => own_keep H.dirs (fun g e => ?_), fun n i hi => ?_, fun n i hi => ?_⟩
  · obtain ⟨cur, hc⟩ := own_kind H.files e
    exact q (H.sf g e) hc n
  · obtain ⟨cur, hc⟩ := own_kind H.dirs e
    exact q (H.sd g e) hc n
  · obtain ⟨v, h1, h2⟩ := H.file i hi
    refine ⟨v, h1, h2.keep (fun _ x => x) (fun g e => ?_)⟩
    obtain ⟨cur, hc⟩ := own_kind h2.1 e
    exact q (h2.2 g e) hc n
  · obtain ⟨v, h1, h2⟩ := H.dir i hi
    refine ⟨v, h1, h2.keep (fun _ x => x) (fun g e => ?_)⟩
    obtain ⟨cur, hc⟩ := own_kind h2.1 e
    exact q (h2.2 g e) hc n
/-- One of its numbers is another. -/
theorem RefAt.set {S : Nat → Prop} {w : World} {p : Nat} {D D' : Dk} {fv dv : Value} {fs ds : List Value} (H : RefAt S w p D fv dv fs ds) (i : Nat) (v : Value) (hc : (refArr D fv dv).setIfInBounds i v = refArr D' fv dv) (e : D' = { D with ops := D'.ops, fail := D'.fail, left := D'.left }) :
    RefAt S (w.setCell ⟨p, i, none⟩ v) p D' fv dv fs ds := by
  have hk := H.kinds (w' := w.setCell ⟨p, i, none⟩ v) (t := 61) (fun b _ hn => Below.heap_setCell _ _ _ _ (fun e => hn (refArr D fv dv) (e ▸ H.blk)))
  obtain ⟨room, files, dirs, ops, fail, left⟩ := D
  obtain ⟨room', files', dirs', ops', fail', left'⟩ := D'
  simp only [Dk.mk.injEq, and_true] at e
  obtain ⟨rfl, rfl, rfl⟩ := e
  refine ⟨?_, hk.2.1 (by decide), hk.2.2.1 (by decide), hk.2.2.2.1 (by decide), hk.2.2.2.2 (by decide), H.apart, H.sp, H.sf, H.sd, fun b hb => by have := H.lt b hb; simpa [World.setCell] using this⟩
  rw [show (w.setCell ⟨p, i, none⟩ v).heap[p]? = some (.cells ((refArr _ fv dv).setIfInBounds i v) 61 (0, 0)) from heap_setCell_same w p i _ _ v H.blk, hc]
theorem RefAt.only {S : Nat → Prop} {w : World} {p : Nat} {D : Dk} {fv dv : Value} {fs ds : List Value} (H : RefAt S w p D fv dv fs ds) (i : Nat) (v : Value) : Only S w (w.setCell ⟨p, i, none⟩ v) := (Only.refl S w).setCell (p := ⟨p, i, none⟩) H.sp v
theorem RefAt.look {S : Nat → Prop} {w : World} {p : Nat} {D : Dk} {fv dv : Value} {fs ds : List Value} (H : RefAt S w p D fv dv fs ds) :
    w.cell? ⟨p, 0, none⟩ = some (.int .i64 (D.room : Int)) ∧ w.cell? ⟨p, 1, none⟩ = some fv ∧ w.cell? ⟨p, 2, none⟩ = some dv ∧ w.cell? ⟨p, 3, none⟩ = some (.int .i64 (D.ops : Int)) ∧
    w.cell? ⟨p, 4, none⟩ = some (.int .i64 (D.fail : Int)) ∧ w.cell? ⟨p, 5, none⟩ = some (.int .i64 D.left) ∧ (∀ j, w.frozen? ⟨p, j, none⟩ = false) ∧ p < w.heap.size :=
  ⟨cell_of H.blk 0 rfl, cell_of H.blk 1 rfl, cell_of H.blk 2 rfl, cell_of H.blk 3 rfl, cell_of H.blk 4 rfl, cell_of H.blk 5 rfl, frozen_of H.blk, H.lt _ H.sp⟩
/-- A row that has something lies in a block. -/
theorem own_view {w : World} {base e size n : Nat} {v : Value} {xs : List Value} (h : w.ownsRow base e size v n xs) (hn : 0 < n) : ∃ g c, v = .slice (some ⟨g, 0, none⟩) n c ∧ g < w.heap.size ∧ (∀ j u, xs[j]? = some u → w.cell? ⟨g, j, none⟩ = some u) ∧ (∀ j, w.frozen? ⟨g, j, none⟩ = false) ∧ n ≤ c := by
  rcases h.2 with ⟨_, h0⟩ | ⟨g, cap, cur, rfl, hb, hh, hnc, _⟩
  · omega
  · refine ⟨g, cap, rfl, (Array.getElem?_eq_some_iff.1 hh).1, fun j u hj => ?_, fun j => frozen_of hh j, hnc⟩
    have := h.cells (g := g) rfl j u hj
    rw [Addr.add_lit, Nat.zero_add] at this
    exact this
/-- One element of a row is another. -/
theorem own_set {w : World} {base e n g c : Nat} {xs : List Value} (h : w.ownsRow base e 1 (.slice (some ⟨g, 0, none⟩) n c) n xs) (i : Nat) (u : Value) : (w.setCell ⟨g, i, none⟩ u).ownsRow base e 1 (.slice (some ⟨g, 0, none⟩) n c) n (xs.set i u) := by
  rcases h.2 with ⟨h0, _⟩ | ⟨g', cap, cur, e1, hb, hh, hnc, hcm, hcs, ht⟩
  · cases h0
  · simp only [Value.slice.injEq, Option.some.injEq, Addr.mk.injEq, and_true, true_and] at e1
    obtain ⟨rfl, rfl⟩ := e1
    refine ⟨by rw [List.length_set]; exact h.1, .inr ⟨g, c, cur.setIfInBounds i u, rfl, hb, heap_setCell_same w g i _ _ u hh, hnc, hcm, by simpa using hcs, ?_⟩⟩
    rw [← ht, Array.toList_setIfInBounds, List.take_set]

/-- Behind p lies the document's disk, which is D. -/
structure IsRef (S : Nat → Prop) (w : World) (p : Nat) (D : Dk) (c : Nat) : Prop where
  ok : Dsk.Ok D
  bud : Dsk.Bud D c
  lim : Lim D
  fail : D.fail ≤ 9223372036854775807
  heap : ∃ fv dv fs ds, RefAt S w p D fv dv fs ds
theorem IsRef.below {S : Nat → Prop} {w w' : World} {p : Nat} {D : Dk} {c : Nat} (h : IsRef S w p D c) (hb : Below w.heap.size w w') : IsRef S w' p D c := by
  obtain ⟨a, b, l, f, fv, dv, fs, ds, H⟩ := h
  exact ⟨a, b, l, f, fv, dv, fs, ds, H.below hb⟩
theorem IsRef.other {S T : Nat → Prop} {w w' : World} {p : Nat} {D : Dk} {c : Nat} (h : IsRef S w p D c) (hb : Only T w w') (k : ∀ b, S b → T b → False) : IsRef S w' p D c := by
  obtain ⟨a, b, l, f, fv, dv, fs, ds, H⟩ := h
  exact ⟨a, b, l, f, fv, dv, fs, ds, H.keep hb.size (fun b h => hb.block b (H.lt b h) (k b h))⟩
theorem IsRef.lt {S : Nat → Prop} {w : World} {p : Nat} {D : Dk} {c : Nat} (h : IsRef S w p D c) : ∀ b, S b → b < w.heap.size := by
  obtain ⟨_, _, _, _, fv, dv, fs, ds, H⟩ := h
  exact H.lt
theorem IsRef.mono {S : Nat → Prop} {w : World} {p : Nat} {D : Dk} {c c' : Nat} (h : IsRef S w p D c) (k : c ≤ c') : IsRef S w p D c' := ⟨h.ok, h.bud.mono k, h.lim, h.fail, h.heap⟩
theorem IsRef.grow {S : Nat → Prop} (w : World) {w' : World} {p : Nat} {D : Dk} {c : Nat} (h : IsRef S w' p D c) : IsRef (more S w w') w' p D c := by
  obtain ⟨a, b, l, f, fv, dv, fs, ds, H⟩ := h
  exact ⟨a, b, l, f, fv, dv, fs, ds, H.wide w⟩

end Go.Proofs.YtpbiongoigbmpaaGreat
