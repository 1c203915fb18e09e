/-
  Laid one behind the other: RefDkW RefOpW RefWoW RefRowW RefActW RefRenW RefCreW RefCutW.
-/
import Derived.Test.YtleomppgkikhnaaGreatDskRelW
import Derived.Test.YtleomppgkikhnaaGreatDskAct4W
import Derived.Test.YtleomppgkikhnaaGreatGrowK
import Derived.Test.YtleomppgkikhnaaGreatDskNameW
import Derived.Test.YtleomppgkikhnaaGreatGrowF
namespace Go.Proofs.YtleomppgkikhnaaGreat
open Go.RowKit
open Dsk (By Dk)

def strsV (l : List By) : List Value := l.map (fun b => .string (Num.bs b))
def nmdV (r : Dsk.Row) : List Value := r.flatMap (fun p => [.string p.1, .int .i64 (p.2 : Int)])
theorem nmdV_len (l : Dsk.Row) : (nmdV l).length = l.length * 2 := by
  induction l with
  | nil => rfl
  | cons c r ih => simp only [nmdV, List.flatMap_cons, List.length_append, List.length_cons, List.length_nil] at ih ⊢; rw [ih]; omega
theorem nmdV_at : ∀ {l : Dsk.Row} {j : Nat} (hj : j < l.length), (nmdV l)[j * 2]? = some (.string l[j].1) ∧ (nmdV l)[j * 2 + 1]? = some (.int .i64 (l[j].2 : Int))
  | x :: l, 0, _ => ⟨rfl, rfl⟩
  | x :: l, j + 1, hj => by
    have := nmdV_at (l := l) (j := j) (by simpa using hj)
    simp only [nmdV, List.flatMap_cons, List.getElem_cons_succ] at this ⊢
    rw [show (j + 1) * 2 = j * 2 + 2 by omega, show j * 2 + 2 + 1 = j * 2 + 1 + 2 by omega]
    simpa using this
theorem nmdV_app (a b : Dsk.Row) : nmdV (a ++ b) = nmdV a ++ nmdV b := by simp [nmdV]
def NmdAt (S : Nat → Prop) (w : World) (v : Value) (r : Dsk.Row) : Prop := w.ownsRow 0 77 2 v r.length (nmdV r) ∧ ∀ g, v.ownBlock = some g → S g
def StrAt (S : Nat → Prop) (w : World) (v : Value) (h : List By) : Prop := w.ownsRow 0 9 1 v h.length (strsV h) ∧ ∀ g, v.ownBlock = some g → S g
def refArr (D : Dk) (fv dv : Value) : Array Value := #[.int .i64 (D.room : Int), fv, dv, .int .i64 (D.ops : Int), .int .i64 (D.fail : Int), .int .i64 D.left]
structure RefAt (S : Nat → Prop) (w : World) (p : Nat) (D : Dk) (fv dv : Value) (fs ds : List Value) : Prop where
  blk : w.heap[p]? = some (.cells (refArr D fv dv) 53 (0, 0))
  files : w.ownsRow 0 44 1 fv D.files.length fs
  dirs : w.ownsRow 0 75 1 dv D.dirs.length ds
  file : ∀ i (hi : i < D.files.length), ∃ v, fs[i]? = some v ∧ StrAt S w v D.files[i]
  dir : ∀ i (hi : i < D.dirs.length), ∃ v, ds[i]? = some v ∧ NmdAt S w v D.dirs[i]
  apart : ∀ (i j : Nat) (u v : Value), i ≠ j → fs[i]? = some u → fs[j]? = some v → ∀ g, u.ownBlock = some g → v.ownBlock ≠ some g
  sp : S p
  sf : ∀ g, fv.ownBlock = some g → S g
  sd : ∀ g, dv.ownBlock = some g → S g
  lt : ∀ b, S b → b < w.heap.size
theorem own_lt {w : World} {base e size n : Nat} {v : Value} {xs : List Value} (h : w.ownsRow base e size v n xs) {g : Nat} (k : v.ownBlock = some g) : g < w.heap.size := by
  obtain ⟨cur, hc⟩ := own_kind h k
  exact (Array.getElem?_eq_some_iff.1 hc).1
theorem StrAt.keep {S T : Nat → Prop} {w w' : World} {v : Value} {h : List By} (k : StrAt S w v h) (hs : ∀ g, S g → T g) (e : ∀ g, v.ownBlock = some g → w'.heap[g]? = w.heap[g]?) : StrAt T w' v h := ⟨own_keep k.1 e, fun g x => hs g (k.2 g x)⟩
theorem NmdAt.keep {S T : Nat → Prop} {w w' : World} {v : Value} {h : Dsk.Row} (k : NmdAt S w v h) (hs : ∀ g, S g → T g) (e : ∀ g, v.ownBlock = some g → w'.heap[g]? = w.heap[g]?) : NmdAt T w' v h := ⟨own_keep k.1 e, fun g x => hs g (k.2 g x)⟩
theorem RefAt.keep {S : Nat → Prop} {w w' : World} {p : Nat} {D : Dk} {fv dv : Value} {fs ds : List Value} (H : RefAt S w p D fv dv fs ds) (hs : w.heap.size ≤ w'.heap.size) (k : ∀ b, S b → w'.heap[b]? = w.heap[b]?) : RefAt S w' p D fv dv fs ds :=
  ⟨(k p H.sp).trans H.blk, own_keep H.files (fun g e => k g (H.sf g e)), own_keep H.dirs (fun g e => k g (H.sd g e)), fun i hi => by
    obtain ⟨v, h1, h2⟩ := H.file i hi
    exact ⟨v, h1, h2.keep (fun _ x => x) (fun g e => k g (h2.2 g e))⟩, fun i hi => by
    obtain ⟨v, h1, h2⟩ := H.dir i hi
    exact ⟨v, h1, h2.keep (fun _ x => x) (fun g e => k g (h2.2 g e))⟩, H.apart, H.sp, H.sf, H.sd, fun b hb => Nat.lt_of_lt_of_le (H.lt b hb) hs⟩
theorem RefAt.mono {S T : Nat → Prop} {w : World} {p : Nat} {D : Dk} {fv dv : Value} {fs ds : List Value} (H : RefAt S w p D fv dv fs ds) (k : ∀ b, S b → T b) (hl : ∀ b, T b → b < w.heap.size) : RefAt T w p D fv dv fs ds :=
  ⟨H.blk, H.files, H.dirs, fun i hi => by
    obtain ⟨v, h1, h2⟩ := H.file i hi
    exact ⟨v, h1, h2.1, fun g e => k g (h2.2 g e)⟩, fun i hi => by
    obtain ⟨v, h1, h2⟩ := H.dir i hi
    exact ⟨v, h1, h2.1, fun g e => k g (h2.2 g e)⟩, H.apart, k _ H.sp, fun g e => k g (H.sf g e), fun g e => k g (H.sd g e), hl⟩
theorem RefAt.below {S : Nat → Prop} {w w' : World} {p : Nat} {D : Dk} {fv dv : Value} {fs ds : List Value} (H : RefAt S w p D fv dv fs ds) (hb : Below w.heap.size w w') : RefAt S w' p D fv dv fs ds := H.keep hb.size (fun b h => hb.block b (H.lt b h))
theorem RefAt.wide {S : Nat → Prop} (w : World) {w' : World} {p : Nat} {D : Dk} {fv dv : Value} {fs ds : List Value} (H : RefAt S w' p D fv dv fs ds) : RefAt (more S w w') w' p D fv dv fs ds :=
  H.mono (fun _ => .inl) (fun b hb => by rcases hb with hb | hb; exact H.lt b hb; exact hb.2)
/-- Other cells of its own, and rows. All that is not named has not changed. -/
theorem RefAt.cells {S T : Nat → Prop} {w w' : World} {p : Nat} {D D' : Dk} {fv dv fv' dv' : Value} {fs ds fs' ds' : List Value} (H : RefAt S w p D fv dv fs ds)
    (hs : ∀ b, S b → T b) (hl : ∀ b, T b → b < w'.heap.size) (hp : w'.heap[p]? = some (.cells (refArr D' fv' dv') 53 (0, 0)))
    (h1 : w'.ownsRow 0 44 1 fv' D'.files.length fs') (s1 : ∀ g, fv'.ownBlock = some g → T g) (h2 : w'.ownsRow 0 75 1 dv' D'.dirs.length ds') (s2 : ∀ g, dv'.ownBlock = some g → T g)
    (h3 : ∀ i (hi : i < D'.files.length), ∃ v, fs'[i]? = some v ∧ StrAt T w' v D'.files[i]) (h4 : ∀ i (hi : i < D'.dirs.length), ∃ v, ds'[i]? = some v ∧ NmdAt T w' v D'.dirs[i])
    (h5 : ∀ (i j : Nat) (u v : Value), i ≠ j → fs'[i]? = some u → fs'[j]? = some v → ∀ g, u.ownBlock = some g → v.ownBlock ≠ some g) : RefAt T w' p D' fv' dv' fs' ds' :=
  ⟨hp, h1, h2, h3, h4, h5, hs _ H.sp, s1, s2, hl⟩
/-- What is of another kind than what has changed. -/
theorem RefAt.kinds {S : Nat → Prop} {w w' : World} {p : Nat} {D : Dk} {fv dv : Value} {fs ds : List Value} (H : RefAt S w p D fv dv fs ds) {t : TypeId} (k : ∀ b, S b → (∀ c, w.heap[b]? ≠ some (.cells c t (0, 0))) → w'.heap[b]? = w.heap[b]?) :
    (t ≠ 53 → w'.heap[p]? = w.heap[p]?) ∧ (t ≠ 44 → w'.ownsRow 0 44 1 fv D.files.length fs) ∧ (t ≠ 75 → w'.ownsRow 0 75 1 dv D.dirs.length ds) ∧
    (t ≠ 9 → ∀ i (hi : i < D.files.length), ∃ v, fs[i]? = some v ∧ StrAt S w' v D.files[i]) ∧ (t ≠ 77 → ∀ i (hi : i < D.dirs.length), ∃ v, ds[i]? = some v ∧ NmdAt S w' v D.dirs[i]) := by
  have q : ∀ {b : Nat} {c : Array Value} {u : TypeId}, S b → w.heap[b]? = some (.cells c u (0, 0)) → t ≠ u → w'.heap[b]? = w.heap[b]? := fun hb hc hn => k _ hb (fun c' e => by
    rw [hc] at e
    simp only [Option.some.injEq, Obj.cells.injEq] at e
    exact hn e.2.1.symm)
  refine ⟨fun n => q H.sp H.blk n, fun n => own_keep H.files (fun g e => ?_), fun n => own_keep H.dirs (fun g e => ?_), fun n i hi => ?_, fun n i hi => ?_⟩
  · obtain ⟨cur, hc⟩ := own_kind H.files e
    exact q (H.sf g e) hc n
  · obtain ⟨cur, hc⟩ := own_kind H.dirs e
    exact q (H.sd g e) hc n
  · obtain ⟨v, h1, h2⟩ := H.file i hi
    refine ⟨v, h1, h2.keep (fun _ x => x) (fun g e => ?_)⟩
    obtain ⟨cur, hc⟩ := own_kind h2.1 e
    exact q (h2.2 g e) hc n
  · obtain ⟨v, h1, h2⟩ := H.dir i hi
    refine ⟨v, h1, h2.keep (fun _ x => x) (fun g e => ?_)⟩
    obtain ⟨cur, hc⟩ := own_kind h2.1 e
    exact q (h2.2 g e) hc n
/-- One of its numbers is another. -/
theorem RefAt.set {S : Nat → Prop} {w : World} {p : Nat} {D D' : Dk} {fv dv : Value} {fs ds : List Value} (H : RefAt S w p D fv dv fs ds) (i : Nat) (v : Value) (hc : (refArr D fv dv).setIfInBounds i v = refArr D' fv dv) (e : D' = { D with ops := D'.ops, fail := D'.fail, left := D'.left }) :
    RefAt S (w.setCell ⟨p, i, none⟩ v) p D' fv dv fs ds := by
  have hk := H.kinds (w' := w.setCell ⟨p, i, none⟩ v) (t := 53) (fun b _ hn => Below.heap_setCell _ _ _ _ (fun e => hn (refArr D fv dv) (e ▸ H.blk)))
  obtain ⟨room, files, dirs, ops, fail, left⟩ := D
  obtain ⟨room', files', dirs', ops', fail', left'⟩ := D'
  simp only [Dk.mk.injEq, and_true] at e
  obtain ⟨rfl, rfl, rfl⟩ := e
  refine ⟨?_, hk.2.1 (by decide), hk.2.2.1 (by decide), hk.2.2.2.1 (by decide), hk.2.2.2.2 (by decide), H.apart, H.sp, H.sf, H.sd, fun b hb => by have := H.lt b hb; simpa [World.setCell] using this⟩
  rw [show (w.setCell ⟨p, i, none⟩ v).heap[p]? = some (.cells ((refArr _ fv dv).setIfInBounds i v) 53 (0, 0)) from heap_setCell_same w p i _ _ v H.blk, hc]
theorem RefAt.only {S : Nat → Prop} {w : World} {p : Nat} {D : Dk} {fv dv : Value} {fs ds : List Value} (H : RefAt S w p D fv dv fs ds) (i : Nat) (v : Value) : Only S w (w.setCell ⟨p, i, none⟩ v) := (Only.refl S w).setCell (p := ⟨p, i, none⟩) H.sp v
theorem RefAt.look {S : Nat → Prop} {w : World} {p : Nat} {D : Dk} {fv dv : Value} {fs ds : List Value} (H : RefAt S w p D fv dv fs ds) :
    w.cell? ⟨p, 0, none⟩ = some (.int .i64 (D.room : Int)) ∧ w.cell? ⟨p, 1, none⟩ = some fv ∧ w.cell? ⟨p, 2, none⟩ = some dv ∧ w.cell? ⟨p, 3, none⟩ = some (.int .i64 (D.ops : Int)) ∧
    w.cell? ⟨p, 4, none⟩ = some (.int .i64 (D.fail : Int)) ∧ w.cell? ⟨p, 5, none⟩ = some (.int .i64 D.left) ∧ (∀ j, w.frozen? ⟨p, j, none⟩ = false) ∧ p < w.heap.size :=
  ⟨cell_of H.blk 0 rfl, cell_of H.blk 1 rfl, cell_of H.blk 2 rfl, cell_of H.blk 3 rfl, cell_of H.blk 4 rfl, cell_of H.blk 5 rfl, frozen_of H.blk, H.lt _ H.sp⟩
/-- A row that has something lies in a block. -/
theorem own_view {w : World} {base e size n : Nat} {v : Value} {xs : List Value} (h : w.ownsRow base e size v n xs) (hn : 0 < n) : ∃ g c, v = .slice (some ⟨g, 0, none⟩) n c ∧ g < w.heap.size ∧ (∀ j u, xs[j]? = some u → w.cell? ⟨g, j, none⟩ = some u) ∧ (∀ j, w.frozen? ⟨g, j, none⟩ = false) ∧ n ≤ c := by
  rcases h.2 with ⟨_, h0⟩ | ⟨g, cap, cur, rfl, hb, hh, hnc, _⟩
  · omega
  · refine ⟨g, cap, rfl, (Array.getElem?_eq_some_iff.1 hh).1, fun j u hj => ?_, fun j => frozen_of hh j, hnc⟩
    have := h.cells (g := g) rfl j u hj
    rw [Addr.add_lit, Nat.zero_add] at this
    exact this
/-- One element of a row is another. -/
theorem own_set {w : World} {base e n g c : Nat} {xs : List Value} (h : w.ownsRow base e 1 (.slice (some ⟨g, 0, none⟩) n c) n xs) (i : Nat) (u : Value) : (w.setCell ⟨g, i, none⟩ u).ownsRow base e 1 (.slice (some ⟨g, 0, none⟩) n c) n (xs.set i u) := by
  rcases h.2 with ⟨h0, _⟩ | ⟨g', cap, cur, e1, hb, hh, hnc, hcm, hcs, ht⟩
  · cases h0
  · simp only [Value.slice.injEq, Option.some.injEq, Addr.mk.injEq, and_true, true_and] at e1
    obtain ⟨rfl, rfl⟩ := e1
    refine ⟨by rw [List.length_set]; exact h.1, .inr ⟨g, c, cur.setIfInBounds i u, rfl, hb, heap_setCell_same w g i _ _ u hh, hnc, hcm, by simpa using hcs, ?_⟩⟩
    rw [← ht, Array.toList_setIfInBounds, List.take_set]

/-- Behind p lies the document's disk, which is D. -/
structure IsRef (S : Nat → Prop) (w : World) (p : Nat) (D : Dk) (c : Nat) : Prop where
  ok : Dsk.Ok D
  bud : Dsk.Bud D c
  lim : Lim D
  fail : D.fail ≤ 9223372036854775807
  heap : ∃ fv dv fs ds, RefAt S w p D fv dv fs ds
theorem IsRef.below {S : Nat → Prop} {w w' : World} {p : Nat} {D : Dk} {c : Nat} (h : IsRef S w p D c) (hb : Below w.heap.size w w') : IsRef S w' p D c := by
  obtain ⟨a, b, l, f, fv, dv, fs, ds, H⟩ := h
  exact ⟨a, b, l, f, fv, dv, fs, ds, H.below hb⟩
theorem IsRef.other {S T : Nat → Prop} {w w' : World} {p : Nat} {D : Dk} {c : Nat} (h : IsRef S w p D c) (hb : Only T w w') (k : ∀ b, S b → T b → False) : IsRef S w' p D c := by
  obtain ⟨a, b, l, f, fv, dv, fs, ds, H⟩ := h
  exact ⟨a, b, l, f, fv, dv, fs, ds, H.keep hb.size (fun b h => hb.block b (H.lt b h) (k b h))⟩
theorem IsRef.lt {S : Nat → Prop} {w : World} {p : Nat} {D : Dk} {c : Nat} (h : IsRef S w p D c) : ∀ b, S b → b < w.heap.size := by
  obtain ⟨_, _, _, _, fv, dv, fs, ds, H⟩ := h
  exact H.lt
theorem IsRef.mono {S : Nat → Prop} {w : World} {p : Nat} {D : Dk} {c c' : Nat} (h : IsRef S w p D c) (k : c ≤ c') : IsRef S w p D c' := ⟨h.ok, h.bud.mono k, h.lim, h.fail, h.heap⟩
theorem IsRef.grow {S : Nat → Prop} (w : World) {w' : World} {p : Nat} {D : Dk} {c : Nat} (h : IsRef S w' p D c) : IsRef (more S w w') w' p D c := by
  obtain ⟨a, b, l, f, fv, dv, fs, ds, H⟩ := h
  exact ⟨a, b, l, f, fv, dv, fs, ds, H.wide w⟩

end Go.Proofs.YtleomppgkikhnaaGreat
namespace Go.Proofs.YtleomppgkikhnaaGreat
open Go.RowKit
open Dsk (By Dk)

theorem RefAt.hist {S : Nat → Prop} {w : World} {p : Nat} {D : Dk} {fv dv : Value} {fs ds : List Value} (H : RefAt S w p D fv dv fs ds) {i : Nat} (hi : i < D.files.length) : ∃ v, fs[i]? = some v ∧ StrAt S w v (Dsk.hist D i) := by
  obtain ⟨v, h1, h2⟩ := H.file i hi
  refine ⟨v, h1, ?_⟩
  unfold Dsk.hist
  rw [List.getD_eq_getElem?_getD, List.getElem?_eq_getElem hi]
  exact h2
theorem RefAt.last {S : Nat → Prop} {w : World} {p : Nat} {D : Dk} {fv dv : Value} {fs ds : List Value} (H : RefAt S w p D fv dv fs ds) (ok : Dsk.Ok D) : ∃ v, ds[D.dirs.length - 1]? = some v ∧ NmdAt S w v (Dsk.dir D) := by
  have hl : 0 < D.dirs.length := List.length_pos_iff.2 ok.some
  obtain ⟨v, h1, h2⟩ := H.dir (D.dirs.length - 1) (by omega)
  refine ⟨v, h1, ?_⟩
  have : Dsk.dir D = D.dirs[D.dirs.length - 1] := by
    unfold Dsk.dir
    rw [List.getLastD_eq_getLast?, List.getLast?_eq_getElem?, List.getElem?_eq_getElem (by omega)]
    rfl
  rw [this]
  exact h2

theorem dn_below {n : Nat} {a w : World} (h : Below n a w) (k : Nat) : Below n a (w.drewN k) := ⟨h.os, h.tape, h.output, h.size, h.block⟩
set_option maxRecDepth 100000 in
set_option maxHeartbeats 600000 in
theorem rdir_at {S : Nat → Prop} {w : World} {p : Nat} {D : Dk} {fv dv : Value} {fs ds : List Value} (H : RefAt S w p D fv dv fs ds) (ok : Dsk.Ok D) (hd : D.dirs.length ≤ 1000000000000) :
    Calls Tryz.prog 63 #[.pointer (some ⟨p, 0, none⟩)] w fun e w' => ∃ v, e = .returned v ∧ NmdAt S w v (Dsk.dir D) ∧ ds[D.dirs.length - 1]? = some v ∧ Below w.heap.size w w' := by
  obtain ⟨v, h1, h2⟩ := H.last ok
  have hl : 0 < D.dirs.length := List.length_pos_iff.2 ok.some
  obtain ⟨g, c, rfl, hg, hcell, _, hnc⟩ := own_view H.dirs hl
  obtain ⟨_, _, c2, _⟩ := H.look
  have v1 := hcell _ _ h1
  obtain ⟨m, hm⟩ : ∃ m, D.dirs.length = m + 1 := ⟨D.dirs.length - 1, by omega⟩
  rw [hm] at c2 v1 hd
  simp only [Nat.add_sub_cancel] at v1
  have HX := hide (And.intro h1 h2)
  clear H h1 h2 hcell hm
  go_enter Tryz.func63, Tryz.ntmps63
  go_wp2_with fail
  go_quiet (fail)
  go_wp2
  go_ret
  exact ⟨v, rfl, HX.out.2, HX.out.1, dn_below (Below.refl _ _) _⟩

def numV : Option Nat → Int
  | none => -1
  | some i => (i : Int)
theorem find_take {r : Dsk.Row} {n : ByteArray} {k : Nat} (hk : k < r.length) (h : ∀ x ∈ r.take k, x.1 ≠ n) : Dsk.find r n = if r[k].1 = n then some r[k].2 else Dsk.find (r.drop (k + 1)) n := by
  have e : r = r.take k ++ (r[k] :: r.drop (k + 1)) := by rw [List.getElem_cons_drop, List.take_append_drop]
  have h0 := Dsk.find_none.2 h
  conv => lhs; rw [e, Dsk.find_app, h0]
  simp only [Option.none_or, Dsk.find]
set_option maxRecDepth 100000 in
set_option maxHeartbeats 600000 in
theorem rnumber_at {S : Nat → Prop} {w : World} {p : Nat} {D : Dk} {fv dv : Value} {fs ds : List Value} (H : RefAt S w p D fv dv fs ds) (ok : Dsk.Ok D) (hd : D.dirs.length ≤ 1000000000000) (hr : (Dsk.dir D).length ≤ 1000000000000) (n : ByteArray) :
    Calls Tryz.prog 61 #[.pointer (some ⟨p, 0, none⟩), .string n] w fun e w' => e = .returned (.int .i64 (numV (Dsk.find (Dsk.dir D) n))) ∧ Below w.heap.size w w' := by
  have HH := hide H
  obtain ⟨o, ho⟩ : ∃ o, Dsk.find (Dsk.dir D) n = o := ⟨_, rfl⟩
  rw [ho]
  have HO := hide ho
  clear H ho
  go_enter Tryz.func61, Tryz.ntmps61
  go_wp2_with fail
  refine (rdir_at HH.out ok hd).mono ?_
  rintro e w1 ⟨v, rfl, hv, _, hb1⟩
  obtain ⟨a, c, rfl⟩ := own_slice hv.1
  obtain ⟨r, hre⟩ : ∃ r, Dsk.dir D = r := ⟨_, rfl⟩
  rw [hre] at hv hr HO ⊢
  have HV := hide hv
  clear hv hre
  go_wp2
  go_loopw [6] (fun i wr => ∃ k : Nat, k ≤ r.length ∧ i = .int .i64 (k : Int) ∧ Hid (∀ x ∈ r.take k, x.1 ≠ n) ∧ Below w.heap.size w wr) (fun i _ => r.length - (intOf i).toNat)
  case atStart => exact ⟨0, Nat.zero_le _, rfl, by simp [Hid], hb1⟩
  case round =>
    obtain ⟨k, hk, rfl, HT, hnx⟩ := hrel
    by_cases hlt : k < r.length
    · obtain ⟨g, c', e, hg, hcell, _, _⟩ := own_view HV.out.1 (by omega)
      simp only [Value.slice.injEq] at e
      obtain ⟨rfl, _, rfl⟩ := e
      obtain ⟨n1, n2⟩ := nmdV_at hlt
      have v1 := (hnx.cell (p := ⟨g, k * 2, none⟩) hg).trans (hcell _ _ n1)
      have v2 := (hnx.cell (p := ⟨g, k * 2 + 1, none⟩) hg).trans (hcell _ _ n2)
      have hft := find_take hlt HT.out
      obtain ⟨x, hx⟩ : ∃ x, r[k].1 = x := ⟨_, rfl⟩
      obtain ⟨y, hy⟩ : ∃ y, r[k].2 = y := ⟨_, rfl⟩
      rw [hx] at v1
      rw [hy] at v2
      rw [hx, hy] at hft
      have HX := hide hx
      have HF := hide hft
      clear hcell n1 n2 hx hy hft
      by_cases heq : (x.toList == n.toList) = true
      · go_wp2
        go_ret
        refine ⟨?_, hnx⟩
        have := HF.out
        rw [if_pos (Lab.eqB_true heq), HO.out] at this
        rw [this]
        rfl
      · have heq' : (x.toList == n.toList) = false := by simpa using heq
        clear heq
        go_wp2
        go_roundw
        case rel =>
          refine ⟨k + 1, by omega, by go_num, hide (fun z hz => ?_), hnx⟩
          rw [List.take_succ_eq_append_getElem hlt] at hz
          rcases List.mem_append.1 hz with hz | hz
          · exact HT.out z hz
          · simp at hz
            subst hz
            rw [HX.out]
            exact Lab.eqB_false heq'
        case measure => simp [intOf]; omega
    · have hz : o = none := by
        rw [← HO.out]
        refine Dsk.find_none.2 ?_
        have := HT.out
        rwa [List.take_of_length_le (by omega)] at this
      subst hz
      go_wp2
      go_ret
      exact ⟨rfl, hnx⟩

theorem now_last {D : Dk} (ok : Dsk.Ok D) {i : Nat} (hi : i < D.files.length) : ∃ m, (Dsk.hist D i).length = m + 1 ∧ (strsV (Dsk.hist D i))[m]? = some (.string (Num.bs (Dsk.now D i))) := by
  have h := ok.hists _ (Dsk.hist_mem hi)
  have hl : 0 < (Dsk.hist D i).length := List.length_pos_iff.2 h
  refine ⟨(Dsk.hist D i).length - 1, by omega, ?_⟩
  unfold strsV Dsk.now
  rw [List.getElem?_map, ← List.getLast?_eq_getElem?, List.getLastD_eq_getLast?, List.getLast?_eq_some_getLast h]
  rfl
set_option maxRecDepth 100000 in
set_option maxHeartbeats 600000 in
theorem rnow_at {S : Nat → Prop} {w : World} {p : Nat} {D : Dk} {fv dv : Value} {fs ds : List Value} (H : RefAt S w p D fv dv fs ds) (ok : Dsk.Ok D) {i : Nat} (hi : i < D.files.length) (hf : D.files.length ≤ 1000000000000) (hh : (Dsk.hist D i).length ≤ 1000000000000) :
    Calls Tryz.prog 68 #[.pointer (some ⟨p, 0, none⟩), .int .i64 (i : Int)] w fun e w' => e = .returned (.string (Num.bs (Dsk.now D i))) ∧ Below w.heap.size w w' := by
  obtain ⟨v, h1, h2⟩ := H.hist hi
  obtain ⟨g, c, rfl, hg, hcell, _, hnc⟩ := own_view H.files (by omega)
  obtain ⟨m, hm, hml⟩ := now_last ok hi
  obtain ⟨g2, c2, rfl, hg2, hcell2, _, hnc2⟩ := own_view h2.1 (by omega)
  obtain ⟨_, c1, _⟩ := H.look
  have v1 := hcell _ _ h1
  have v2 := hcell2 _ _ hml
  obtain ⟨s, hs⟩ : ∃ s, Num.bs (Dsk.now D i) = s := ⟨_, rfl⟩
  rw [hs] at v2 ⊢
  obtain ⟨N, hN⟩ : ∃ N, D.files.length = N := ⟨_, rfl⟩
  rw [hN] at c1 hi hf
  rw [hm] at v1 hh
  clear H h1 h2 hcell hcell2 hm hml hN hs hnc hnc2
  go_enter Tryz.func68, Tryz.ntmps68
  go_wp2_with fail
  go_quiet (fail)
  go_wp2
  go_ret
  exact ⟨rfl, dn_below (Below.refl _ _) _⟩

set_option maxRecDepth 100000 in
set_option maxHeartbeats 600000 in
theorem rbegin_dead {S : Nat → Prop} {w : World} {p : Nat} {D : Dk} {fv dv : Value} {fs ds : List Value} (H : RefAt S w p D fv dv fs ds) (h0 : D.left = 0) :
    Calls Tryz.prog 59 #[.pointer (some ⟨p, 0, none⟩)] w fun e w' => e = .returned (.bool false) ∧ w' = w := by
  obtain ⟨_, _, _, _, _, c5, _⟩ := H.look
  rw [h0] at c5
  clear H
  go_enter Tryz.func59, Tryz.ntmps59
  go_wp2
  go_ret
  exact ⟨rfl, rfl⟩
set_option maxRecDepth 100000 in
set_option maxHeartbeats 600000 in
theorem rbegin_on {S : Nat → Prop} {w : World} {p : Nat} {D : Dk} {fv dv : Value} {fs ds : List Value} (H : RefAt S w p D fv dv fs ds) (h0 : D.left ≠ 0) (h1 : -1 ≤ D.left) (h2 : D.left ≤ 9223372036854775807) (ho : D.ops < 4611686018427387904) :
    Calls Tryz.prog 59 #[.pointer (some ⟨p, 0, none⟩)] w fun e w' => e = .returned (.bool true) ∧ RefAt S w' p (Dsk.on D) fv dv fs ds ∧ Only S w w' := by
  obtain ⟨c0, c1, c2, c3, c4, c5, cf, hp⟩ := H.look
  have HH := hide H
  clear H
  by_cases hm : D.left = -1
  · have e1 : Dsk.on D = { D with ops := D.ops + 1 } := by unfold Dsk.on; rw [if_neg (by omega)]
    rw [e1]
    clear e1 h0 h1 h2
    rw [hm] at c5
    have HM := hide hm
    clear hm
    go_enter Tryz.func59, Tryz.ntmps59
    go_wp2
    go_ret
    exact ⟨rfl, HH.out.set (D' := { D with ops := D.ops + 1 }) 3 _ rfl rfl, HH.out.only _ _⟩
  · have e1 : Dsk.on D = { D with ops := D.ops + 1, left := D.left - 1 } := by unfold Dsk.on; rw [if_pos (by omega)]
    rw [e1]
    clear e1
    have hp : 1 ≤ D.left := by omega
    clear h0 h1
    go_enter Tryz.func59, Tryz.ntmps59
    go_wp2
    go_ret
    have H1 := HH.out.set (D' := { D with left := D.left - 1 }) 5 (.int .i64 (D.left - 1)) rfl rfl
    exact ⟨rfl, H1.set (D' := { D with ops := D.ops + 1, left := D.left - 1 }) 3 _ rfl rfl, (HH.out.only _ _).trans' (H1.only _ _)⟩

set_option maxRecDepth 100000 in
set_option maxHeartbeats 600000 in
theorem rfails_at {S : Nat → Prop} {w : World} {p : Nat} {D : Dk} {fv dv : Value} {fs ds : List Value} (H : RefAt S w p D fv dv fs ds) (hf : D.fail ≤ 9223372036854775807) :
    Calls Tryz.prog 67 #[.pointer (some ⟨p, 0, none⟩)] w fun e w' => e = .returned (.bool (decide (D.fail = 1))) ∧ RefAt S w' p { D with fail := D.fail - 1 } fv dv fs ds ∧ Only S w w' := by
  obtain ⟨c0, c1, c2, c3, c4, c5, cf, hp⟩ := H.look
  have HH := hide H
  clear H
  by_cases h0 : D.fail = 0
  · have e1 : ({ D with fail := D.fail - 1 } : Dk) = D := by rw [h0]; cases D; simp at h0; subst h0; rfl
    rw [e1, show decide (D.fail = 1) = false from decide_eq_false (by omega)]
    rw [h0] at c4
    clear e1
    go_enter Tryz.func67, Tryz.ntmps67
    go_wp2
    go_ret
    exact ⟨rfl, HH.out, Only.refl _ _⟩
  · obtain ⟨x, hx⟩ : ∃ x, D.fail = x + 1 := ⟨D.fail - 1, by omega⟩
    have hd : decide (D.fail = 1) = decide ((x : Int) = 0) := by
      rw [hx]; simp
    rw [hd]
    have e1 : ({ D with fail := D.fail - 1 } : Dk) = { D with fail := x } := by rw [hx]; rfl
    rw [e1]
    rw [hx] at c4 hf
    have HX := hide hx
    clear e1 hd h0 hx
    go_enter Tryz.func67, Tryz.ntmps67
    go_wp2
    go_ret
    exact ⟨rfl, HH.out.set (D' := { D with fail := x }) 4 _ (by simp [refArr]) rfl, HH.out.only _ _⟩

end Go.Proofs.YtleomppgkikhnaaGreat
namespace Go.Proofs.YtleomppgkikhnaaGreat
open Go.RowKit
open Dsk (By Dk)

theorem nmd_info : ∃ i, Tryz.prog.info? 77 = some i ∧ i.zero = some (.agg #[.string ByteArray.empty, .int .i64 0]) ∧ i.size = 2 ∧ i.bytes = 24 := by
  have h : (Tryz.prog.info? 77).map (fun i => (i.zero, i.size, i.bytes)) = some (some (.agg #[.string ByteArray.empty, .int .i64 0]), 2, 24) := by kernel_rfl
  obtain ⟨i, hi, e⟩ := Option.map_eq_some_iff.1 h
  simp only [Prod.mk.injEq] at e
  exact ⟨i, hi, e.1, e.2.1, e.2.2⟩
theorem unmds : Tryz.prog.underlying 75 = some (.slice 77) := by kernel_rfl
theorem grown_below {w w' : World} {base : Nat} {v : Value} {o : Obj} (hb : base ≤ w.heap.size) (hg : (w.alloc o).grownBy w' v.ownBlock) (hv : ∀ g, v.ownBlock = some g → base ≤ g) : Below base w w' := by
  have k : ∀ b, b < base → w'.heap[b]? = w.heap[b]? := fun b hb' => by
    rw [hg.block b (by simp; omega) (fun e => by have := hv b e.symm; omega), Below.heap_alloc _ _ b (by omega)]
  have hz := hg.size
  simp at hz
  exact ⟨hg.os, hg.tape, hg.output, by omega, k⟩
theorem two_new2 (w : World) (x y : Value) (t : TypeId) : ∀ j u, [x, y][j]? = some u → (w.alloc (.cells #[x, y] t)).cell? ((⟨w.heap.size, 0, none⟩ : Addr).add j) = some u := by
  intro j u hj
  rw [Addr.add_lit, Nat.zero_add]
  match j, hj with
  | 0, hj => simp at hj ⊢; exact hj
  | 1, hj => simp at hj ⊢; exact hj
/-- 'append(l, Named{..})': a row of the call's own. -/
theorem nmd_app {w : World} {base : Nat} {v : Value} {l : Dsk.Row} (h : w.ownsRow base 77 2 v l.length (nmdV l)) (n : ByteArray) (i : Nat) (hl : l.length ≤ 1000000000000) (hb : base ≤ w.heap.size) (ty : TypeId) :
    ∃ v' w', (Builtin.append_ #[75, 75] ty #[v, .slice (some ⟨w.heap.size, 0, none⟩) 1 1]).run Tryz.prog (w.alloc (.cells #[.string n, .int .i64 (i : Int)] 77)) = .ok v' w' ∧
      w'.ownsRow base 77 2 v' (l ++ [(n, i)]).length (nmdV (l ++ [(n, i)])) ∧ Below base w w' := by
  obtain ⟨ti, hi, hz, hs, hby⟩ := nmd_info
  obtain ⟨v', w', hr, ho, hg, _⟩ := app_own (w.alloc (.cells #[.string n, .int .i64 (i : Int)] 77)) base 75 ty 77 ti _ 2 24 unmds hi hz hs hby rfl (by decide) v l.length (nmdV l) (h.alloc _) ⟨w.heap.size, 0, none⟩ 1 1
    [.string n, .int .i64 (i : Int)] rfl (two_new2 _ _ _ _) (fun u hu => by simp at hu; rcases hu with rfl | rfl <;> rfl) (by unfold maxLen; omega) (by omega) (by simp; omega)
  refine ⟨v', w', hr, ?_, grown_below hb hg (fun g e => (h.lt g e).1)⟩
  rw [nmdV_app, List.length_append]
  exact ho
theorem wo_take {r : Dsk.Row} {k : Nat} (h : k < r.length) (n : ByteArray) : Dsk.without (r.take (k + 1)) n = Dsk.without (r.take k) n ++ (if r[k].1 = n then [] else [(r[k].1, r[k].2)]) := by
  unfold Dsk.without
  rw [List.take_succ_eq_append_getElem h, List.filter_append]
  congr 1
  by_cases e : r[k].1 = n <;> simp [e]
set_option maxRecDepth 100000 in
set_option maxHeartbeats 600000 in
theorem rwithout_at {w : World} {base0 : Nat} {v : Value} {r : Dsk.Row} (hv : w.ownsRow base0 77 2 v r.length (nmdV r)) (hr : r.length ≤ 1000000000000) (n : ByteArray) :
    Calls Tryz.prog 62 #[v, .string n] w fun e w' => ∃ v', e = .returned v' ∧ w'.ownsRow w.heap.size 77 2 v' (Dsk.without r n).length (nmdV (Dsk.without r n)) ∧ Below w.heap.size w w' := by
  obtain ⟨a, c, rfl⟩ := own_slice hv
  have HV := hide hv
  clear hv
  go_enter Tryz.func62, Tryz.ntmps62
  go_wp2
  go_loopw [5, 6] (fun v5 v6 wr => ∃ k : Nat, k ≤ r.length ∧ v6 = .int .i64 (k : Int) ∧ Hid (wr.ownsRow w.heap.size 77 2 v5 (Dsk.without (r.take k) n).length (nmdV (Dsk.without (r.take k) n))) ∧ Hid (Below w.heap.size w wr)) (fun _ v6 _ => r.length - (intOf v6).toNat)
  case atStart => exact ⟨0, Nat.zero_le _, rfl, hide (World.ownsRow_nil _ _ _ _), hide (Below.refl _ _)⟩
  case round =>
    obtain ⟨k, hk, rfl, HO, HB⟩ := hrel
    by_cases hlt : k < r.length
    · obtain ⟨g, c', e, hg, hcell, _, _⟩ := own_view HV.out (by omega)
      simp only [Value.slice.injEq] at e
      obtain ⟨rfl, _, rfl⟩ := e
      obtain ⟨n1, n2⟩ := nmdV_at hlt
      have v1 := (HB.out.cell (p := ⟨g, k * 2, none⟩) hg).trans (hcell _ _ n1)
      have v2 := (HB.out.cell (p := ⟨g, k * 2 + 1, none⟩) hg).trans (hcell _ _ n2)
      have hwt := wo_take hlt n
      obtain ⟨x, hx⟩ : ∃ x, r[k].1 = x := ⟨_, rfl⟩
      obtain ⟨y, hy⟩ : ∃ y, r[k].2 = y := ⟨_, rfl⟩
      rw [hx] at v1
      rw [hy] at v2
      rw [hx, hy] at hwt
      have HWT := hide hwt
      have hle : (Dsk.without (r.take k) n).length ≤ 1000000000000 := by
        have := List.length_filter_le (fun p : ByteArray × Nat => decide (p.1 ≠ n)) (r.take k)
        rw [List.length_take] at this
        unfold Dsk.without
        omega
      clear hcell n1 n2 hx hy hwt
      by_cases heq : x = n
      · have hb : (x.toList == n.toList) = true := by rw [Lab.eqB]; exact decide_eq_true heq
        have HEQ := hide heq
        clear heq
        go_wp2
        go_roundw
        case rel =>
          refine ⟨k + 1, by omega, by go_num, ?_, HB⟩
          rw [HWT.out, if_pos HEQ.out, List.append_nil]
          exact HO
        case measure => simp [intOf]; omega
      · have hb : (x.toList == n.toList) = false := by rw [Lab.eqB]; exact decide_eq_false heq
        have HEQ := hide heq
        clear heq
        obtain ⟨lv', w3, hr3, ho3, hb3⟩ := nmd_app HO.out x y hle HB.out.size 75
        obtain ⟨la, lc, hl3⟩ := own_slice HO.out
        subst hl3
        have HRR := hide hr3
        have HO3 := hide ho3
        have HB3 := hide (HB.out.trans hb3)
        clear hr3 ho3 hb3
        go_wp2_with (at_builtin; refine wpList_app_run rfl _ _ _ _ rfl rfl rfl HRR.out ?_)
        go_roundw
        case rel =>
          refine ⟨k + 1, by omega, by go_num, ?_, HB3⟩
          rw [HWT.out, if_neg HEQ.out]
          exact HO3
        case measure => simp [intOf]; omega
    · obtain rfl : k = r.length := by omega
      have ho := HO.out
      rw [List.take_length] at ho
      obtain ⟨la, lc, hl3⟩ := own_slice ho
      have HO3 := hide ho
      clear ho
      go_wp2
      go_ret
      exact ⟨_, rfl, HO3.out, HB.out⟩

/-! ## Used, Read -/
def usedTo (D : Dk) (r : Dsk.Row) : Nat := (r.map (fun p => (Dsk.now D p.2).length)).sum
theorem usedTo_take (D : Dk) {r : Dsk.Row} {k : Nat} (h : k < r.length) : usedTo D (r.take (k + 1)) = usedTo D (r.take k) + (Dsk.now D r[k].2).length := by
  unfold usedTo
  rw [List.take_succ_eq_append_getElem h, List.map_append, List.sum_append]
  simp
theorem usedTo_le (D : Dk) (r : Dsk.Row) (k : Nat) : usedTo D (r.take k) ≤ usedTo D r := by
  conv => rhs; rw [← List.take_append_drop k r]
  unfold usedTo
  rw [List.map_append, List.sum_append]
  omega
set_option maxRecDepth 100000 in
set_option maxHeartbeats 600000 in
theorem rused_dk {S : Nat → Prop} {w : World} {p : Nat} {D : Dk} {c : Nat} (H : IsRef S w p D c) (hc : c ≤ 10000000) :
    Calls Tryz.prog 32 #[.pointer (some ⟨p, 0, none⟩)] w fun e w' => e = .returned (.int .i64 ((Dsk.used D : Nat) : Int)) ∧ Below w.heap.size w w' := by
  obtain ⟨ok, bud, lim, fl, fv, dv, fs, ds, H⟩ := H
  have hu : Dsk.used D = usedTo D (Dsk.dir D) := rfl
  have hub := bud.used ok
  have hcc : c * c ≤ 10000000 * 10000000 := Nat.mul_le_mul hc hc
  rw [hu] at hub ⊢
  have hdl := bud.dirs
  have hrl := bud.rows _ (Dsk.dir_mem ok.some)
  have hfl := bud.files
  have hlt : ∀ x ∈ Dsk.dir D, x.2 < D.files.length := fun x hx => (ok.row.1 x hx).2
  have hhs : ∀ i, i < D.files.length → (Dsk.hist D i).length ≤ 1000000000000 := fun i hi => by have := bud.hists _ (Dsk.hist_mem hi); omega
  have hnow : ∀ i, (Dsk.now D i).length ≤ 10000000 := fun i => Nat.le_trans (bud.now ok i) hc
  obtain ⟨r, hr⟩ : ∃ r, Dsk.dir D = r := ⟨_, rfl⟩
  rw [hr] at hub hrl hlt ⊢
  have HRE := hide hr
  have HH := hide H
  have HOK := hide ok
  have HLT := hide hlt
  have HHS := hide hhs
  have HNW := hide hnow
  clear H bud hlt hhs hnow hr
  go_enter Tryz.func32, Tryz.ntmps32
  go_wp2_with fail
  refine (rdir_at HH.out HOK.out (by omega)).mono ?_
  rintro e w1 ⟨v, rfl, hv, _, hb1⟩
  obtain ⟨a, cv, rfl⟩ := own_slice hv.1
  rw [HRE.out] at hv ⊢
  have HV := hide hv
  clear hv
  go_wp2
  go_loopw [3, 5] (fun v3 v5 wr => ∃ k : Nat, k ≤ r.length ∧ v5 = .int .i64 (k : Int) ∧ v3 = .int .i64 ((usedTo D (r.take k) : Nat) : Int) ∧ Hid (Below w.heap.size w wr)) (fun _ v5 _ => r.length - (intOf v5).toNat)
  case atStart => exact ⟨0, Nat.zero_le _, rfl, rfl, hide hb1⟩
  case round =>
    obtain ⟨k, hk, rfl, rfl, HB⟩ := hrel
    by_cases hlt : k < r.length
    · obtain ⟨g, c', e, hg, hcell, _, _⟩ := own_view HV.out.1 (by omega)
      simp only [Value.slice.injEq] at e
      obtain ⟨rfl, _, rfl⟩ := e
      obtain ⟨n1, n2⟩ := nmdV_at hlt
      have v2 := (HB.out.cell (p := ⟨g, k * 2 + 1, none⟩) hg).trans (hcell _ _ n2)
      have hut := usedTo_take D hlt
      have hyl := HLT.out _ (List.getElem_mem hlt)
      obtain ⟨y, hy⟩ : ∃ y, r[k].2 = y := ⟨_, rfl⟩
      rw [hy] at v2 hyl hut
      have hue := usedTo_le D r (k + 1)
      have HUT := hide hut
      obtain ⟨u, hu⟩ : ∃ u, usedTo D (r.take k) = u := ⟨_, rfl⟩
      have hu2 : u + (Dsk.now D y).length ≤ 1000000000000000 := by omega
      rw [hu]
      have HU := hide hu
      have hns : (Num.bs (Dsk.now D y)).size = (Dsk.now D y).length := Num.bs_size _
      have HNS := hide hns
      obtain ⟨s, hs⟩ : ∃ s, Num.bs (Dsk.now D y) = s := ⟨_, rfl⟩
      have hss : s.size = (Dsk.now D y).length := by rw [← hs]; exact hns
      have hsl : u + s.size ≤ 1000000000000000 := by omega
      have HS := hide hs
      have HSS := hide hss
      clear hcell n1 n2 hy hut hue hu hns hs hss hu2
      go_wp2_with fail
      refine (rnow_at (HH.out.below HB.out) HOK.out hyl (by omega) (HHS.out y hyl)).mono ?_
      rintro e w3 ⟨rfl, hb3⟩
      rw [HS.out]
      have HB3 := hide (bl HB.out hb3)
      clear hb3
      go_wp2
      go_roundw
      case rel => exact ⟨k + 1, by omega, by go_num, by rw [HUT.out, HU.out, ← HSS.out]; go_num, HB3⟩
      case measure => simp [intOf]; omega
    · obtain rfl : k = r.length := by omega
      rw [List.take_length]
      go_wp2
      go_ret
      exact ⟨rfl, HB.out⟩
theorem num_some (i : Nat) : numV (some i) = (i : Int) := rfl
set_option maxRecDepth 100000 in
set_option maxHeartbeats 600000 in
theorem rread_dk {S : Nat → Prop} {w : World} {p : Nat} {D : Dk} {c : Nat} (H : IsRef S w p D c) (n : ByteArray) (hc : c ≤ 10000000) :
    Calls Tryz.prog 33 #[.pointer (some ⟨p, 0, none⟩), .string n] w fun e w' => e = .returned (.tuple #[.string (Num.bs (Dsk.read n D).1), .int .i64 (Dsk.read n D).2]) ∧ Below w.heap.size w w' := by
  obtain ⟨ok, bud, lim, fl, fv, dv, fs, ds, H⟩ := H
  obtain ⟨_, _, _, _, _, c5, _⟩ := H.look
  have hdl := bud.dirs
  have hrl := bud.rows _ (Dsk.dir_mem ok.some)
  have hfl := bud.files
  by_cases h0 : D.left = 0
  · have e : Dsk.read n D = ([], 11) := by unfold Dsk.read; rw [if_pos h0]
    rw [e]
    rw [h0] at c5
    clear H e
    go_enter Tryz.func33, Tryz.ntmps33
    go_wp2
    go_ret2
    exact ⟨rfl, Below.refl _ _⟩
  have h0b : (D.left == 0) = false := beq_eq_false_iff_ne.2 h0
  have HH := hide H
  have HOK := hide ok
  cases hf : Dsk.find (Dsk.dir D) n with
  | none =>
    have e : Dsk.read n D = ([], 5) := by unfold Dsk.read; rw [if_neg h0, hf]
    rw [e]
    have HF := hide hf
    clear H e hf
    go_enter Tryz.func33, Tryz.ntmps33
    go_wp2_with fail
    refine (rnumber_at HH.out HOK.out (by omega) (by omega) n).mono ?_
    rintro e w1 ⟨rfl, hb1⟩
    rw [HF.out]
    have hnn : numV none < 0 := by decide
    go_wp2
    go_ret2
    exact ⟨rfl, hb1⟩
  | some i =>
    have e : Dsk.read n D = (Dsk.now D i, 0) := by unfold Dsk.read; rw [if_neg h0, hf]
    rw [e]
    have hil := Dsk.find_lt ok hf
    have hhs := bud.hists _ (Dsk.hist_mem hil)
    have HF := hide hf
    clear H e hf
    go_enter Tryz.func33, Tryz.ntmps33
    go_wp2_with fail
    refine (rnumber_at HH.out HOK.out (by omega) (by omega) n).mono ?_
    rintro e w1 ⟨rfl, hb1⟩
    rw [HF.out, num_some]
    have HB1 := hide hb1
    clear hb1
    go_wp2_with fail
    refine (rnow_at (HH.out.below HB1.out) HOK.out hil (by omega) (by omega)).mono ?_
    rintro e w2 ⟨rfl, hb2⟩
    have HB2 := hide (bl HB1.out hb2)
    clear hb2
    go_wp2
    go_ret2
    exact ⟨rfl, HB2.out⟩
set_option maxRecDepth 100000 in
set_option maxHeartbeats 600000 in
theorem rfail_dk {S : Nat → Prop} {w : World} {p : Nat} {D : Dk} {c : Nat} (H : IsRef S w p D c) (n : Int) (hn : n ≤ 9223372036854775807) :
    Calls Tryz.prog 26 #[.pointer (some ⟨p, 0, none⟩), .int .i64 n] w fun e w' => e = .returned (.tuple #[]) ∧ IsRef S w' p (Dsk.setFail n D) c ∧ Only S w w' := by
  obtain ⟨ok, bud, lim, fl, fv, dv, fs, ds, H⟩ := H
  obtain ⟨c0, c1, c2, c3, c4, c5, cf, hp⟩ := H.look
  obtain ⟨m, hm⟩ : ∃ m, n.toNat = m := ⟨_, rfl⟩
  have fin : IsRef S (w.setCell ⟨p, 4, none⟩ (.int .i64 (m : Int))) p (Dsk.setFail n D) c ∧ Only S w (w.setCell ⟨p, 4, none⟩ (.int .i64 (m : Int))) := by
    refine ⟨⟨Dsk.setFail_ok n ok, Dsk.bud_setFail n bud, ⟨lim.room, lim.left⟩, by show n.toNat ≤ _; omega, fv, dv, fs, ds, ?_⟩, H.only _ _⟩
    exact H.set (D' := Dsk.setFail n D) 4 _ (by simp [refArr, Dsk.setFail, hm]) rfl
  have FIN := hide fin
  clear fin H ok bud lim
  by_cases h0 : n < 0
  · obtain rfl : m = 0 := by omega
    go_enter Tryz.func26, Tryz.ntmps26
    go_wp2
    go_end0
    exact ⟨rfl, FIN.out⟩
  · obtain rfl : n = (m : Int) := by omega
    go_enter Tryz.func26, Tryz.ntmps26
    go_wp2
    go_end0
    exact ⟨rfl, FIN.out⟩
set_option maxRecDepth 100000 in
set_option maxHeartbeats 600000 in
theorem rstop_dk {S : Nat → Prop} {w : World} {p : Nat} {D : Dk} {c : Nat} (H : IsRef S w p D c) (n : Int) (hn : n ≤ 9223372036854775807) :
    Calls Tryz.prog 28 #[.pointer (some ⟨p, 0, none⟩), .int .i64 n] w fun e w' => e = .returned (.tuple #[]) ∧ IsRef S w' p (Dsk.setStop n D) c ∧ Only S w w' := by
  obtain ⟨ok, bud, lim, fl, fv, dv, fs, ds, H⟩ := H
  obtain ⟨c0, c1, c2, c3, c4, c5, cf, hp⟩ := H.look
  obtain ⟨m, hm⟩ : ∃ m, max n (-1) = m := ⟨_, rfl⟩
  have fin : IsRef S (w.setCell ⟨p, 5, none⟩ (.int .i64 m)) p (Dsk.setStop n D) c ∧ Only S w (w.setCell ⟨p, 5, none⟩ (.int .i64 m)) := by
    refine ⟨⟨Dsk.setStop_ok n ok, Dsk.bud_setStop n bud, ⟨lim.room, by show max n (-1) ≤ _; omega⟩, fl, fv, dv, fs, ds, ?_⟩, H.only _ _⟩
    exact H.set (D' := Dsk.setStop n D) 5 _ (by simp [refArr, Dsk.setStop, hm]) rfl
  have FIN := hide fin
  clear fin H ok bud lim
  by_cases h0 : n < -1
  · obtain rfl : m = -1 := by omega
    go_enter Tryz.func28, Tryz.ntmps28
    go_wp2
    go_end0
    exact ⟨rfl, FIN.out⟩
  · obtain rfl : n = m := by omega
    go_enter Tryz.func28, Tryz.ntmps28
    go_wp2
    go_end0
    exact ⟨rfl, FIN.out⟩
/-- A row of one. -/
theorem own_one {w : World} {g : Nat} {v : Value} {t : TypeId} (h : w.heap[g]? = some (.cells #[v] t (0, 0))) : w.ownsRow 0 t 1 (.slice (some ⟨g, 0, none⟩) 1 1) 1 [v] :=
  ⟨rfl, .inr ⟨g, 1, #[v], rfl, Nat.zero_le _, h, Nat.le_refl _, by unfold maxLen; omega, rfl, rfl⟩⟩
set_option maxRecDepth 100000 in
set_option maxHeartbeats 600000 in
theorem rnew_dk (room : Int) (w : World) (hr : room ≤ 9223372036854775807) :
    Calls Tryz.prog 7 #[.int .i64 room] w fun e w' => ∃ q, e = .returned (.pointer (some ⟨q, 0, none⟩)) ∧ IsRef (more noneS w w') w' q (Dsk.fresh room) 0 ∧ Below w.heap.size w w' := by
  have fin : ∀ (r : Nat), r = room.toNat → IsRef (more noneS w ((w.alloc (.cells #[.slice none 0 0] 75)).alloc (.cells (refArr ⟨r, [], [[]], 0, 0, -1⟩ (.slice none 0 0) (.slice (some ⟨w.heap.size, 0, none⟩) 1 1)) 53)))
      ((w.alloc (.cells #[.slice none 0 0] 75)).alloc (.cells (refArr ⟨r, [], [[]], 0, 0, -1⟩ (.slice none 0 0) (.slice (some ⟨w.heap.size, 0, none⟩) 1 1)) 53)) (w.heap.size + 1) (Dsk.fresh room) 0 := by
    intro r hrr
    have e : Dsk.fresh room = ⟨r, [], [[]], 0, 0, -1⟩ := by unfold Dsk.fresh; rw [hrr]
    rw [e]
    refine ⟨by rw [← e]; exact Dsk.fresh_ok room, by rw [← e]; exact Dsk.bud_fresh room, ⟨by show r ≤ _; omega, by show (-1 : Int) ≤ _; omega⟩, Nat.zero_le _, .slice none 0 0, .slice (some ⟨w.heap.size, 0, none⟩) 1 1, [], [.slice none 0 0], ?_⟩
    have hb1 : ((w.alloc (.cells #[.slice none 0 0] 75)).alloc (.cells (refArr ⟨r, [], [[]], 0, 0, -1⟩ (.slice none 0 0) (.slice (some ⟨w.heap.size, 0, none⟩) 1 1)) 53)).heap[w.heap.size]? = some (.cells #[.slice none 0 0] 75 (0, 0)) := by
      rw [Below.heap_alloc _ _ _ (by simp)]
      exact heap_new _ _
    refine ⟨?_, World.ownsRow_nil _ _ _ _, own_one hb1, fun i hi => absurd hi (Nat.not_lt_zero _), fun i hi => ?_, fun i j u v _ h => (by simp at h), .inr (by simp), fun g h => (by cases h), fun g h => ?_, fun b hb => ?_⟩
    · have := heap_new (w.alloc (.cells #[.slice none 0 0] 75)) (.cells (refArr ⟨r, [], [[]], 0, 0, -1⟩ (.slice none 0 0) (.slice (some ⟨w.heap.size, 0, none⟩) 1 1)) 53)
      rw [World.size_alloc] at this
      exact this
    · have hi : i = 0 := by simpa using hi
      subst hi
      exact ⟨.slice none 0 0, rfl, World.ownsRow_nil _ _ _ _, fun g h => by cases h⟩
    · have h : some w.heap.size = some g := h
      cases h
      exact .inr (by simp; omega)
    · rcases hb with hb | hb
      · exact hb.elim
      · exact hb.2
  have bel : ∀ o1 o2, Below w.heap.size w ((w.alloc o1).alloc o2) := fun o1 o2 => ((Below.refl _ w).alloc (Nat.le_refl _) _).alloc (by simp) _
  have FIN := hide fin
  have BEL := hide bel
  clear fin bel
  by_cases h0 : room < 0
  · go_enter Tryz.func7, Tryz.ntmps7
    go_wp2
    go_ret
    exact ⟨_, rfl, FIN.out 0 (by omega), BEL.out _ _⟩
  · obtain ⟨r, rfl⟩ : ∃ r : Nat, room = (r : Int) := ⟨room.toNat, by omega⟩
    go_enter Tryz.func7, Tryz.ntmps7
    go_wp2
    go_ret
    exact ⟨_, rfl, FIN.out r (by omega), BEL.out _ _⟩

end Go.Proofs.YtleomppgkikhnaaGreat
namespace Go.Proofs.YtleomppgkikhnaaGreat
open Go.RowKit
open Dsk (By Dk)

theorem sl_info (t : TypeId) (h : (Tryz.prog.info? t).map (fun i => (i.zero, i.size, i.bytes)) = some (some (.slice none 0 0), 1, 24)) : ∃ i, Tryz.prog.info? t = some i ∧ i.zero = some (.slice none 0 0) ∧ i.size = 1 ∧ i.bytes = 24 := by
  obtain ⟨i, hi, e⟩ := Option.map_eq_some_iff.1 h
  simp only [Prod.mk.injEq] at e
  exact ⟨i, hi, e.1, e.2.1, e.2.2⟩
theorem str_info : ∃ i, Tryz.prog.info? 9 = some i ∧ i.zero = some (.string ByteArray.empty) ∧ i.size = 1 ∧ i.bytes = 16 := by
  have h : (Tryz.prog.info? 9).map (fun i => (i.zero, i.size, i.bytes)) = some (some (.string ByteArray.empty), 1, 16) := by kernel_rfl
  obtain ⟨i, hi, e⟩ := Option.map_eq_some_iff.1 h
  simp only [Prod.mk.injEq] at e
  exact ⟨i, hi, e.1, e.2.1, e.2.2⟩
theorem udirs : Tryz.prog.underlying 50 = some (.slice 75) := by kernel_rfl
theorem ufiles : Tryz.prog.underlying 51 = some (.slice 44) := by kernel_rfl
theorem ustrs : Tryz.prog.underlying 44 = some (.slice 9) := by kernel_rfl
theorem one_new (w : World) (c : Value) (t : TypeId) : ∀ j u, [c][j]? = some u → (w.alloc (.cells #[c] t)).cell? ((⟨w.heap.size, 0, none⟩ : Addr).add j) = some u := by
  intro j u hj
  rw [Addr.add_lit, Nat.zero_add]
  match j, hj with
  | 0, hj => simp at hj ⊢; exact hj
/-- 'append(l, x)', of a row of slices. -/
theorem sl_app {w : World} {tt t : TypeId} (hu : Tryz.prog.underlying tt = some (.slice t)) (hinf : (Tryz.prog.info? t).map (fun i => (i.zero, i.size, i.bytes)) = some (some (.slice none 0 0), 1, 24)) {v : Value} {n : Nat} {vs : List Value} (h : w.ownsRow 0 t 1 v n vs) (c : Value) (hc : c.oneCell' = true) (hl : n ≤ 1000000000000) (ty : TypeId) :
    ∃ v' w', (Builtin.append_ #[tt, tt] ty #[v, .slice (some ⟨w.heap.size, 0, none⟩) 1 1]).run Tryz.prog (w.alloc (.cells #[c] t)) = .ok v' w' ∧
      w'.ownsRow 0 t 1 v' (n + 1) (vs ++ [c]) ∧ (w.alloc (.cells #[c] t)).grownBy w' v.ownBlock ∧ (v'.ownBlock = v.ownBlock ∨ v'.ownBlock = some (w.alloc (.cells #[c] t)).heap.size) := by
  obtain ⟨i, hi, hz, hs, hby⟩ := sl_info t hinf
  exact app_own (w.alloc (.cells #[c] t)) 0 tt ty t i _ 1 24 hu hi hz hs hby rfl (by decide) v n vs (h.alloc _) ⟨w.heap.size, 0, none⟩ 1 1 [c] rfl (one_new _ _ _) (fun u hu => by simp at hu; subst hu; exact hc) (by unfold maxLen; omega) (by omega) (Nat.zero_le _)
theorem own_ne {w : World} {base base' e e' size size' n n' : Nat} {u v : Value} {xs ys : List Value} (h : w.ownsRow base e size u n xs) (k : w.ownsRow base' e' size' v n' ys) (hne : e ≠ e') {g : Nat} (hu : u.ownBlock = some g) : v.ownBlock ≠ some g := fun hv => by
  obtain ⟨c1, h1⟩ := own_kind h hu
  obtain ⟨c2, h2⟩ := own_kind k hv
  exact kind_ne h1 h2 hne rfl
/-- Another row of names. -/
theorem RefAt.addDir {S T : Nat → Prop} {w : World} {p : Nat} {D : Dk} {fv dv : Value} {fs ds : List Value} (H : RefAt S w p D fv dv fs ds) (hST : ∀ b, S b → T b) (hT : ∀ b, T b → b < w.heap.size) {v : Value} {r : Dsk.Row} (hv : NmdAt T w v r) (hl : D.dirs.length ≤ 1000000000000) (ty : TypeId) :
    ∃ dv' w', (Builtin.append_ #[50, 50] ty #[dv, .slice (some ⟨w.heap.size, 0, none⟩) 1 1]).run Tryz.prog (w.alloc (.cells #[v] 75)) = .ok dv' w' ∧
      w'.cell? ⟨p, 2, none⟩ = some dv ∧ (∀ j, w'.frozen? ⟨p, j, none⟩ = false) ∧ Kept (fun b => b = p) (w.alloc (.cells #[v] 75)) w' ∧ RefAt (more T w w') (w'.setCell ⟨p, 2, none⟩ dv') p { D with dirs := D.dirs ++ [r] } fv dv' fs (ds ++ [v]) ∧ Only S w (w'.setCell ⟨p, 2, none⟩ dv') := by
  have hone : v.oneCell' = true := by obtain ⟨a, c, rfl⟩ := own_slice hv.1; rfl
  obtain ⟨dv', w', hr, ho, hg, hob⟩ := sl_app udirs (by kernel_rfl) H.dirs v hone hl ty
  have hsz : w.heap.size + 1 ≤ w'.heap.size := by have := hg.size; simpa using this
  have keep1 : ∀ b, b < w.heap.size → dv.ownBlock ≠ some b → w'.heap[b]? = w.heap[b]? := fun b hb hn => by
    rw [hg.block b (by simp; omega) (fun e => hn e.symm), Below.heap_alloc _ _ b hb]
  have hpk : w'.heap[p]? = w.heap[p]? := keep1 p (H.lt p H.sp) (fun e => by obtain ⟨c, hc⟩ := own_kind H.dirs e; exact kind_ne H.blk hc (by decide) rfl)
  have hblk := hpk.trans H.blk
  have keepK : ∀ {b : Nat} {c : Array Value} {u : TypeId}, w.heap[b]? = some (.cells c u (0, 0)) → u ≠ 53 → u ≠ 75 → (w'.setCell ⟨p, 2, none⟩ dv').heap[b]? = w.heap[b]? := fun {b c u} hc h1 h2 => by
    rw [Below.heap_setCell _ _ _ _ (kind_ne hc H.blk h1)]
    exact keep1 b (Array.getElem?_eq_some_iff.1 hc).1 (fun e => by obtain ⟨c', hc'⟩ := own_kind H.dirs e; exact kind_ne hc hc' h2 rfl)
  have hpd : dv'.ownBlock ≠ some p := fun e => by obtain ⟨c, hc⟩ := own_kind ho e; exact kind_ne hblk hc (by decide) rfl
  refine ⟨dv', w', hr, cell_of hblk 2 rfl, frozen_of hblk, ⟨hg.os, hg.tape, hg.output, hg.size, fun b e => by subst e; rw [Below.heap_alloc _ _ b (H.lt b H.sp)]; exact hpk⟩, ⟨?_, ?_, ?_, fun i hi => ?_, fun i hi => ?_, H.apart, .inl (hST _ H.sp), fun g e => .inl (hST _ (H.sf g e)), fun g e => ?_, fun b hb => ?_⟩, ?_⟩
  · exact heap_setCell_same w' p 2 _ _ dv' hblk
  · exact own_keep H.files (fun g e => by obtain ⟨c, hc⟩ := own_kind H.files e; exact keepK hc (by decide) (by decide))
  · show (w'.setCell ⟨p, 2, none⟩ dv').ownsRow 0 _ 1 dv' (D.dirs ++ [r]).length (ds ++ [v])
    rw [List.length_append]
    exact own_keep ho (fun g e => Below.heap_setCell _ _ _ _ (fun x => hpd (by have x : g = p := x; rw [← x]; exact e)))
  · obtain ⟨u, h1, h2⟩ := H.file i hi
    exact ⟨u, h1, h2.keep (fun g x => .inl (hST g x)) (fun g e => by obtain ⟨c, hc⟩ := own_kind h2.1 e; exact keepK hc (by decide) (by decide))⟩
  · have hds := H.dirs.1
    rw [Nat.mul_one] at hds
    by_cases hlt : i < D.dirs.length
    · obtain ⟨u, h1, h2⟩ := H.dir i hlt
      refine ⟨u, by rw [List.getElem?_append_left (by omega)]; exact h1, ?_⟩
      have e : ({ D with dirs := D.dirs ++ [r] } : Dk).dirs[i] = D.dirs[i] := List.getElem_append_left hlt
      rw [e]
      exact h2.keep (fun g x => .inl (hST g x)) (fun g e => by obtain ⟨c, hc⟩ := own_kind h2.1 e; exact keepK hc (by decide) (by decide))
    · have hi' : i = D.dirs.length := by
        have : i < (D.dirs ++ [r]).length := hi
        rw [List.length_append] at this
        simp at this
        omega
      subst hi'
      refine ⟨v, by rw [← hds]; simp, ?_⟩
      have e : ({ D with dirs := D.dirs ++ [r] } : Dk).dirs[D.dirs.length]'hi = r := by simp
      rw [e]
      exact hv.keep (fun g x => .inl x) (fun g e => by obtain ⟨c, hc⟩ := own_kind hv.1 e; exact keepK hc (by decide) (by decide))
  · rcases hob with x | x
    · exact .inl (hST _ (H.sd g (x ▸ e)))
    · rw [x] at e
      cases e
      have := own_lt ho x
      simp at this ⊢
      exact .inr ⟨by omega, this⟩
  · have : b < w'.heap.size := by
      rcases hb with hb | hb
      · have := hT b hb; omega
      · exact hb.2
    simpa [World.setCell] using this
  · have o1 : Only S w w' := ⟨hg.os, hg.tape, hg.output, by omega, fun b hb hn => keep1 b hb (fun e => hn (H.sd b e))⟩
    exact o1.setCell (p := ⟨p, 2, none⟩) H.sp _
/-- Another file. -/
theorem RefAt.addFile {S T : Nat → Prop} {w : World} {p : Nat} {D : Dk} {fv dv : Value} {fs ds : List Value} (H : RefAt S w p D fv dv fs ds) (hST : ∀ b, S b → T b) (hT : ∀ b, T b → b < w.heap.size) {v : Value} {h : List By} (hv : StrAt T w v h) (hnew : ∀ g, v.ownBlock = some g → ¬ S g) (hl : D.files.length ≤ 1000000000000) (ty : TypeId) :
    ∃ fv' w', (Builtin.append_ #[51, 51] ty #[fv, .slice (some ⟨w.heap.size, 0, none⟩) 1 1]).run Tryz.prog (w.alloc (.cells #[v] 44)) = .ok fv' w' ∧
      w'.cell? ⟨p, 1, none⟩ = some fv ∧ (∀ j, w'.frozen? ⟨p, j, none⟩ = false) ∧ Kept (fun b => b = p) (w.alloc (.cells #[v] 44)) w' ∧ RefAt (more T w w') (w'.setCell ⟨p, 1, none⟩ fv') p { D with files := D.files ++ [h] } fv' dv (fs ++ [v]) ds ∧ Only S w (w'.setCell ⟨p, 1, none⟩ fv') := by
  have hone : v.oneCell' = true := by obtain ⟨a, c, rfl⟩ := own_slice hv.1; rfl
  obtain ⟨fv', w', hr, ho, hg, hob⟩ := sl_app ufiles (by kernel_rfl) H.files v hone hl ty
  have hsz : w.heap.size + 1 ≤ w'.heap.size := by have := hg.size; simpa using this
  have keep1 : ∀ b, b < w.heap.size → fv.ownBlock ≠ some b → w'.heap[b]? = w.heap[b]? := fun b hb hn => by
    rw [hg.block b (by simp; omega) (fun e => hn e.symm), Below.heap_alloc _ _ b hb]
  have hpk : w'.heap[p]? = w.heap[p]? := keep1 p (H.lt p H.sp) (fun e => by obtain ⟨c, hc⟩ := own_kind H.files e; exact kind_ne H.blk hc (by decide) rfl)
  have hblk := hpk.trans H.blk
  have keepK : ∀ {b : Nat} {c : Array Value} {u : TypeId}, w.heap[b]? = some (.cells c u (0, 0)) → u ≠ 53 → u ≠ 44 → (w'.setCell ⟨p, 1, none⟩ fv').heap[b]? = w.heap[b]? := fun {b c u} hc h1 h2 => by
    rw [Below.heap_setCell _ _ _ _ (kind_ne hc H.blk h1)]
    exact keep1 b (Array.getElem?_eq_some_iff.1 hc).1 (fun e => by obtain ⟨c', hc'⟩ := own_kind H.files e; exact kind_ne hc hc' h2 rfl)
  have hpd : fv'.ownBlock ≠ some p := fun e => by obtain ⟨c, hc⟩ := own_kind ho e; exact kind_ne hblk hc (by decide) rfl
  have hfs := H.files.1
  rw [Nat.mul_one] at hfs
  refine ⟨fv', w', hr, cell_of hblk 1 rfl, frozen_of hblk, ⟨hg.os, hg.tape, hg.output, hg.size, fun b e => by subst e; rw [Below.heap_alloc _ _ b (H.lt b H.sp)]; exact hpk⟩, ⟨?_, ?_, ?_, fun i hi => ?_, fun i hi => ?_, fun i j u x hij hu hx g e => ?_, .inl (hST _ H.sp), fun g e => ?_, fun g e => .inl (hST _ (H.sd g e)), fun b hb => ?_⟩, ?_⟩
  · exact heap_setCell_same w' p 1 _ _ fv' hblk
  · show (w'.setCell ⟨p, 1, none⟩ fv').ownsRow 0 _ 1 fv' (D.files ++ [h]).length (fs ++ [v])
    rw [List.length_append]
    exact own_keep ho (fun g e => Below.heap_setCell _ _ _ _ (fun x => hpd (by have x : g = p := x; rw [← x]; exact e)))
  · exact own_keep H.dirs (fun g e => by obtain ⟨c, hc⟩ := own_kind H.dirs e; exact keepK hc (by decide) (by decide))
  · by_cases hlt : i < D.files.length
    · obtain ⟨u, h1, h2⟩ := H.file i hlt
      refine ⟨u, by rw [List.getElem?_append_left (by omega)]; exact h1, ?_⟩
      have e : ({ D with files := D.files ++ [h] } : Dk).files[i] = D.files[i] := List.getElem_append_left hlt
      rw [e]
      exact h2.keep (fun g x => .inl (hST g x)) (fun g e => by obtain ⟨c, hc⟩ := own_kind h2.1 e; exact keepK hc (by decide) (by decide))
    · have hi' : i = D.files.length := by
        have : i < (D.files ++ [h]).length := hi
        rw [List.length_append] at this
        simp at this
        omega
      subst hi'
      refine ⟨v, by rw [← hfs]; simp, ?_⟩
      have e : ({ D with files := D.files ++ [h] } : Dk).files[D.files.length]'hi = h := by simp
      rw [e]
      exact hv.keep (fun g x => .inl x) (fun g e => by obtain ⟨c, hc⟩ := own_kind hv.1 e; exact keepK hc (by decide) (by decide))
  · obtain ⟨u, h1, h2⟩ := H.dir i hi
    exact ⟨u, h1, h2.keep (fun g x => .inl (hST g x)) (fun g e => by obtain ⟨c, hc⟩ := own_kind h2.1 e; exact keepK hc (by decide) (by decide))⟩
  · have old : ∀ (k : Nat) (z : Value), fs[k]? = some z → ∀ g, z.ownBlock = some g → S g := fun k z hz g e => by
      have hk : k < D.files.length := by rw [← hfs]; exact (List.getElem?_eq_some_iff.1 hz).1
      obtain ⟨z', h1, h2⟩ := H.file k hk
      rw [hz] at h1
      cases h1
      exact h2.2 g e
    by_cases hi : i < fs.length
    · rw [List.getElem?_append_left hi] at hu
      by_cases hj : j < fs.length
      · rw [List.getElem?_append_left hj] at hx
        exact H.apart i j u x hij hu hx g e
      · have hjl : j = fs.length := by have := (List.getElem?_eq_some_iff.1 hx).1; simp at this; omega
        subst hjl
        simp at hx
        subst hx
        exact fun e2 => hnew g e2 (old i u hu g e)
    · have hil : i = fs.length := by have := (List.getElem?_eq_some_iff.1 hu).1; simp at this; omega
      subst hil
      simp at hu
      subst hu
      have hj : j < fs.length := by have := (List.getElem?_eq_some_iff.1 hx).1; simp at this; omega
      rw [List.getElem?_append_left hj] at hx
      exact fun e2 => hnew g e (old j x hx g e2)
  · rcases hob with x | x
    · exact .inl (hST _ (H.sf g (x ▸ e)))
    · rw [x] at e
      cases e
      have := own_lt ho x
      simp at this ⊢
      exact .inr ⟨by omega, this⟩
  · have : b < w'.heap.size := by
      rcases hb with hb | hb
      · have := hT b hb; omega
      · exact hb.2
    simpa [World.setCell] using this
  · have o1 : Only S w w' := ⟨hg.os, hg.tape, hg.output, by omega, fun b hb hn => keep1 b hb (fun e => hn (H.sf b e))⟩
    exact o1.setCell (p := ⟨p, 1, none⟩) H.sp _
/-- A file's row is another: in the place of the old one. -/
theorem RefAt.setRow {S T : Nat → Prop} {w w' : World} {p : Nat} {D : Dk} {dv : Value} {fs ds : List Value} {gf cf : Nat} (H : RefAt S w p D (.slice (some ⟨gf, 0, none⟩) D.files.length cf) dv fs ds) {n : Nat} (hn : n < D.files.length) {v v' : Value} {h' : List By} (hold : fs[n]? = some v)
    (hk : ∀ b, S b → v.ownBlock ≠ some b → w'.heap[b]? = w.heap[b]?) (hST : ∀ b, S b → T b) (hT : ∀ b, T b → b < w'.heap.size) (hv' : StrAt T w' v' h') (hnew : v'.ownBlock = v.ownBlock ∨ ∀ g, v'.ownBlock = some g → ¬ S g) :
    RefAt T (w'.setCell ⟨gf, n, none⟩ v') p { D with files := D.files.set n h' } (.slice (some ⟨gf, 0, none⟩) D.files.length cf) dv (fs.set n v') ds := by
  obtain ⟨v0, e0, hvS⟩ := H.file n hn
  rw [hold] at e0
  cases e0
  obtain ⟨cu, hgf⟩ := own_kind H.files (g := gf) rfl
  have vne : ∀ {b : Nat} {c : Array Value} {u : TypeId}, w.heap[b]? = some (.cells c u (0, 0)) → u ≠ 9 → v.ownBlock ≠ some b := fun hc hu e => by
    obtain ⟨c', hc'⟩ := own_kind hvS.1 e
    exact kind_ne hc hc' hu rfl
  have keepK : ∀ {b : Nat} {c : Array Value} {u : TypeId}, S b → w.heap[b]? = some (.cells c u (0, 0)) → u ≠ 9 → w'.heap[b]? = w.heap[b]? := fun hb hc hu => hk _ hb (vne hc hu)
  have hgf' := (keepK (H.sf gf rfl) hgf (by decide)).trans hgf
  have set1 : ∀ {b : Nat} {c : Array Value} {u : TypeId}, w'.heap[b]? = some (.cells c u (0, 0)) → u ≠ 44 → (w'.setCell ⟨gf, n, none⟩ v').heap[b]? = w'.heap[b]? := fun hc hu => Below.heap_setCell _ _ _ _ (kind_ne hc hgf' hu)
  have hblk := (keepK H.sp H.blk (by decide)).trans H.blk
  have hfs := H.files.1
  rw [Nat.mul_one] at hfs
  have hfl : ({ D with files := D.files.set n h' } : Dk).files.length = D.files.length := List.length_set
  have hfw : w'.ownsRow 0 44 1 (.slice (some ⟨gf, 0, none⟩) D.files.length cf) D.files.length fs := own_keep H.files (fun g e => by cases e; exact keepK (H.sf gf rfl) hgf (by decide))
  have kind' : ∀ {u : Value} {t : TypeId} {size m : Nat} {xs : List Value}, w.ownsRow 0 t size u m xs → (∀ g, u.ownBlock = some g → S g) → t ≠ 9 → t ≠ 44 → ∀ g, u.ownBlock = some g → (w'.setCell ⟨gf, n, none⟩ v').heap[g]? = w.heap[g]? := fun hu hs h1 h2 g e => by
    obtain ⟨c, hc⟩ := own_kind hu e
    have := keepK (hs g e) hc h1
    rw [set1 (this.trans hc) h2]
    exact this
  refine ⟨?_, ?_, own_keep H.dirs (kind' H.dirs H.sd (by decide) (by decide)), fun i hi => ?_, fun i hi => ?_, fun i j u x hij hu hx g e => ?_, hST _ H.sp, fun g e => hST _ (H.sf g e), fun g e => hST _ (H.sd g e), fun b hb => ?_⟩
  · rw [set1 hblk (by decide)]
    exact hblk
  · rw [hfl]
    exact own_set hfw n v'
  · have hi' : i < D.files.length := by rw [← hfl]; exact hi
    by_cases e : i = n
    · subst e
      refine ⟨v', by rw [List.getElem?_set_self (by omega)], ?_⟩
      have e : ({ D with files := D.files.set i h' } : Dk).files[i]'hi = h' := by simp
      rw [e]
      exact hv'.keep (fun g x => x) (fun g e => by obtain ⟨c, hc⟩ := own_kind hv'.1 e; exact set1 hc (by decide))
    · obtain ⟨u, h1, h2⟩ := H.file i hi'
      refine ⟨u, by rw [List.getElem?_set_ne (fun k => e k.symm)]; exact h1, ?_⟩
      have e2 : ({ D with files := D.files.set n h' } : Dk).files[i]'hi = D.files[i] := by
        simp only [List.getElem_set]
        rw [if_neg (fun k => e k.symm)]
      rw [e2]
      refine h2.keep (fun g x => hST g x) (fun g eg => ?_)
      obtain ⟨c, hc⟩ := own_kind h2.1 eg
      have hkk := hk g (h2.2 g eg) (fun k => H.apart n i v u (fun z => e z.symm) hold h1 g k eg)
      rw [set1 (hkk.trans hc) (by decide)]
      exact hkk
  · obtain ⟨u, h1, h2⟩ := H.dir i hi
    exact ⟨u, h1, h2.keep (fun g x => hST g x) (kind' h2.1 h2.2 (by decide) (by decide))⟩
  · have old : ∀ (k : Nat) (z : Value), fs[k]? = some z → ∀ g, z.ownBlock = some g → S g := fun k z hz g e => by
      have hk : k < D.files.length := by rw [← hfs]; exact (List.getElem?_eq_some_iff.1 hz).1
      obtain ⟨z', h1, h2⟩ := H.file k hk
      rw [hz] at h1
      cases h1
      exact h2.2 g e
    have nov : ∀ (k : Nat) (z : Value), k ≠ n → fs[k]? = some z → ∀ g, v'.ownBlock = some g → z.ownBlock ≠ some g := fun k z hk hz g e e2 => by
      rcases hnew with x | x
      · exact H.apart n k v z (fun z => hk z.symm) hold hz g (x ▸ e) e2
      · exact x g e (old k z hz g e2)
    by_cases hi : i = n
    · subst hi
      rw [List.getElem?_set_self (by omega)] at hu
      cases hu
      rw [List.getElem?_set_ne hij] at hx
      exact nov j x (fun z => hij z.symm) hx g e
    · rw [List.getElem?_set_ne (fun k => hi k.symm)] at hu
      by_cases hj : j = n
      · subst hj
        rw [List.getElem?_set_self (by omega)] at hx
        cases hx
        exact fun e2 => nov i u hi hu g e2 e
      · rw [List.getElem?_set_ne (fun k => hj k.symm)] at hx
        exact H.apart i j u x hij hu hx g e
  · have := hT b hb
    simpa [World.setCell] using this

end Go.Proofs.YtleomppgkikhnaaGreat
namespace Go.Proofs.YtleomppgkikhnaaGreat
open Go.RowKit
open Dsk (By Dk)

structure RGoes (S : Nat → Prop) (w w' : World) (p : Nat) (D : Dk) (c : Nat) : Prop where
  ref : IsRef (more S w w') w' p D c
  only : Only S w w'
theorem IsRef.widen {S T : Nat → Prop} {w : World} {p : Nat} {D : Dk} {c : Nat} (h : IsRef S w p D c) (k : ∀ b, S b → T b) (hl : ∀ b, T b → b < w.heap.size) : IsRef T w p D c := by
  obtain ⟨a, b, l, f, fv, dv, fs, ds, H⟩ := h
  exact ⟨a, b, l, f, fv, dv, fs, ds, H.mono k hl⟩
theorem RefAt.goes {S : Nat → Prop} {w w' : World} {p : Nat} {D : Dk} {fv dv : Value} {fs ds : List Value} {c : Nat} (H : RefAt (more S w w') w' p D fv dv fs ds) (ho : Only S w w') (ok : Dsk.Ok D) (bud : Dsk.Bud D c) (lim : Lim D) (hf : D.fail ≤ 9223372036854775807) : RGoes S w w' p D c := ⟨⟨ok, bud, lim, hf, fv, dv, fs, ds, H⟩, ho⟩
theorem more_sub {S : Nat → Prop} {w w1 w2 w' : World} (h1 : w.heap.size ≤ w1.heap.size) (h2 : w2.heap.size ≤ w'.heap.size) {b : Nat} (h : more S w1 w2 b) : more S w w' b := by
  rcases h with h | h
  · exact .inl h
  · exact .inr (by omega)
/-- A row of names that is new, behind w. -/
theorem dir_add {S : Nat → Prop} {w w6 : World} {p : Nat} {D : Dk} {fv dv : Value} {fs ds : List Value} (H : RefAt S w6 p D fv dv fs ds) (ho : Only S w w6) (hSw : ∀ b, S b → b < w.heap.size) {v : Value} {r : Dsk.Row} {base : Nat} (hv : w6.ownsRow base 77 2 v r.length (nmdV r)) (hbs : w.heap.size ≤ base) (hl : D.dirs.length ≤ 1000000000000) (ty : TypeId) :
    ∃ (ea : Option Addr) (N ec : Nat) (w' : World), (Builtin.append_ #[50, 50] ty #[dv, .slice (some ⟨w6.heap.size, 0, none⟩) 1 1]).run Tryz.prog (w6.alloc (.cells #[v] 75)) = .ok (.slice ea N ec) w' ∧
      w'.cell? ⟨p, 2, none⟩ = some dv ∧ (∀ j, w'.frozen? ⟨p, j, none⟩ = false) ∧ Kept (fun b => b = p) (w6.alloc (.cells #[v] 75)) w' ∧ RefAt (more S w (w'.setCell ⟨p, 2, none⟩ (.slice ea N ec))) (w'.setCell ⟨p, 2, none⟩ (.slice ea N ec)) p { D with dirs := D.dirs ++ [r] } fv (.slice ea N ec) fs (ds ++ [v]) ∧ Only S w (w'.setCell ⟨p, 2, none⟩ (.slice ea N ec)) := by
  have hT : ∀ b, more S w w6 b → b < w6.heap.size := fun b hb => by
    rcases hb with hb | hb
    · have := hSw b hb; have := ho.size; omega
    · exact hb.2
  have hnv : NmdAt (more S w w6) w6 v r := ⟨own_base hv, fun g e => .inr ⟨by have := (hv.lt g e).1; omega, (hv.lt g e).2⟩⟩
  obtain ⟨dv', w', hr, h1, h2, hkp, h3, h4⟩ := H.addDir (T := more S w w6) (fun _ x => .inl x) hT hnv hl ty
  obtain ⟨ea, ec, rfl⟩ := own_slice h3.dirs
  obtain ⟨N, hN⟩ : ∃ N, ({ D with dirs := D.dirs ++ [r] } : Dk).dirs.length = N := ⟨_, rfl⟩
  rw [hN] at hr h3 h4
  have hz : (w'.setCell ⟨p, 2, none⟩ (.slice ea N ec)).heap.size = w'.heap.size := by simp [World.setCell]
  refine ⟨ea, N, ec, w', hr, h1, h2, hkp, h3.mono (fun b hb => ?_) (fun b hb => ?_), ho.trans' h4⟩
  · have := h4.size
    rw [hz] at this
    rcases hb with (hb | hb) | hb
    · exact .inl hb
    · exact .inr (by omega)
    · have := ho.size; exact .inr (by omega)
  · rcases hb with hb | hb
    · have := hSw b hb; have := ho.size; have := h4.size; omega
    · exact hb.2
theorem fail_on {D : Dk} (f : Dk → Dk × Int) (h : (Dsk.act D f).1.fail ≤ 9223372036854775807) : (Dsk.act D f).1.fail ≤ 9223372036854775807 := h
set_option maxRecDepth 100000 in
set_option maxHeartbeats 600000 in
theorem rremove_dk {S : Nat → Prop} {w : World} {p : Nat} {D : Dk} {c : Nat} (H : IsRef S w p D c) (n : ByteArray) (hc : c + 1 ≤ 10000000) :
    Calls Tryz.prog 50 #[.pointer (some ⟨p, 0, none⟩), .string n] w fun e w' => e = .returned (.int .i64 (Dsk.remove n D).2) ∧ RGoes S w w' p (Dsk.remove n D).1 (c + 1) := by
  obtain ⟨ok, bud, lim, hfl, fv, dv, fs, ds, H⟩ := H
  obtain ⟨da, dc, rfl⟩ := own_slice H.dirs
  have ok' := Dsk.remove_ok n ok
  have bud' := Dsk.bud_remove n bud ok
  have lim' := lim_remove n lim
  have h1 := ok.left
  have h2 := lim.left
  have h3 := bud.ops
  have hdl := bud.dirs
  have hrl := bud.rows _ (Dsk.dir_mem ok.some)
  by_cases h0 : D.left = 0
  · have e : Dsk.remove n D = (D, 11) := act_dead h0 _
    rw [e] at ok' bud' lim' ⊢
    have HH := hide H
    have HB := hide bud'
    clear H e bud bud'
    go_enter Tryz.func50, Tryz.ntmps50
    go_wp2_with fail
    refine (rbegin_dead HH.out h0).mono ?_
    rintro e w1 ⟨rfl, hw⟩
    rw [hw]
    go_wp2
    go_ret
    exact ⟨rfl, (HH.out.wide w).goes (Only.refl _ _) ok' HB.out lim' hfl⟩
  have e0 : Dsk.remove n D = Dsk.removeB n (Dsk.on D) := by unfold Dsk.remove Dsk.act; rw [if_neg h0]
  rw [e0] at ok' bud' lim' ⊢
  cases hf : Dsk.find (Dsk.dir D) n with
  | none =>
    have e : Dsk.removeB n (Dsk.on D) = (Dsk.on D, 5) := by unfold Dsk.removeB; rw [show Dsk.find (Dsk.dir (Dsk.on D)) n = none from hf]
    rw [e] at ok' bud' lim' ⊢
    have HH := hide H
    have HB := hide bud'
    have HF := hide hf
    have HK := hide ok'
    clear H e bud bud' hf e0 ok'
    go_enter Tryz.func50, Tryz.ntmps50
    go_wp2_with fail
    refine (rbegin_on HH.out h0 h1 h2 (by omega)).mono ?_
    rintro e w1 ⟨rfl, hr1, ho1⟩
    have HR1 := hide hr1
    have HO1 := hide ho1
    clear hr1 ho1
    go_wp2_with fail
    refine (rnumber_at HR1.out HK.out (by show D.dirs.length ≤ _; omega) (by show (Dsk.dir D).length ≤ _; omega) n).mono ?_
    rintro e w2 ⟨rfl, hb2⟩
    rw [show Dsk.find (Dsk.dir (Dsk.on D)) n = none from HF.out]
    have hnn : numV none < 0 := by decide
    have HG := hide (((HR1.out.below hb2).wide w).goes (HO1.out.then_below hb2) HK.out HB.out lim' hfl)
    clear hb2
    go_wp2
    go_ret
    exact ⟨rfl, HG.out⟩
  | some i =>
    have e : Dsk.removeB n (Dsk.on D) = ({ Dsk.on D with dirs := (Dsk.on D).dirs ++ [Dsk.without (Dsk.dir (Dsk.on D)) n] }, 0) := by unfold Dsk.removeB; rw [show Dsk.find (Dsk.dir (Dsk.on D)) n = some i from hf]
    rw [e] at ok' bud' lim' ⊢
    have HH := hide H
    have HB := hide bud'
    have HF := hide hf
    have HK := hide (Dsk.on_ok ok)
    have HK' := hide ok'
    clear H e bud bud' hf e0 ok'
    go_enter Tryz.func50, Tryz.ntmps50
    go_wp2_with fail
    refine (rbegin_on HH.out h0 h1 h2 (by omega)).mono ?_
    rintro e w1 ⟨rfl, hr1, ho1⟩
    have HR1 := hide hr1
    have HO1 := hide ho1
    clear hr1 ho1
    go_wp2_with fail
    refine (rnumber_at HR1.out HK.out (by show D.dirs.length ≤ _; omega) (by show (Dsk.dir D).length ≤ _; omega) n).mono ?_
    rintro e w2 ⟨rfl, hb2⟩
    rw [show Dsk.find (Dsk.dir (Dsk.on D)) n = some i from HF.out, num_some]
    have HR2 := hide (HR1.out.below hb2)
    have HO2 := hide (HO1.out.then_below hb2)
    clear hb2
    go_wp2_with fail
    refine wp_region_growK (fun b => b = p) [([0, 1, 2, 3, 4, 5, 7], 6), ([], 8), ([], 9), ([], 10)] [11, 12] [13] (by kernel_rfl) (by kernel_rfl) (by kernel_rfl) (by kernel_rfl) ?_
    intro w4 hb4
    simp only [stagesOfK, getLK, pickLK]
    have HR4 := hide (HR2.out.below hb4)
    have HO4 := hide (HO2.out.then_below hb4)
    obtain ⟨_, _, k2, _, _, _, _, hpl⟩ := HR4.out.look
    have inh : Nonempty (GrK (fun b => b = p) w4) := GrK.some _ w4
    have q2 := fun x : GrK (fun b => b = p) w4 => x.cell (a := ⟨p, 2, none⟩) rfl k2
    refine wpG_stageK ?_
    repeat (go_big_quiet_step (fail))
    refine wpQuiet_nil ?_
    clear q2 inh hb4
    go_wp2_with fail
    refine (rdir_at HR4.out HK.out (by show D.dirs.length ≤ _; omega)).mono ?_
    rintro e w5 ⟨v, rfl, hv, _, hb5⟩
    have HR5 := hide (HR4.out.below hb5)
    have HO5 := hide (HO4.out.then_below hb5)
    have hv5 := hv.keep (T := S) (w' := w5) (fun _ x => x) (fun g e => hb5.block g (HR4.out.lt g (hv.2 g e)))
    obtain ⟨va, vc, rfl⟩ := own_slice hv.1
    go_wp2
    refine OnToK.mk (Kept.of_below hb5 (fun b e => by subst e; exact hpl)) (Sub.refl _) ?_
    have hpl5 := Nat.lt_of_lt_of_le hpl hb5.size
    clear hb5 hv
    refine wpG_stageK (wpQuiet_nil ?_)
    go_wp2_with fail
    refine (rwithout_at hv5.1 (by show (Dsk.dir D).length ≤ _; omega) n).mono ?_
    rintro e w6 ⟨v', rfl, hv', hb6⟩
    have HR6 := hide (HR5.out.below hb6)
    have HO6 := hide (HO5.out.then_below hb6)
    have HV6 := hide hv'
    obtain ⟨xa, xc, rfl⟩ := own_slice hv'
    go_wp2
    refine OnToK.mk (Kept.of_below hb6 (fun b e => by subst e; exact hpl5)) (Sub.refl _) ?_
    have hpl6 := Nat.lt_of_lt_of_le hpl5 hb6.size
    clear hb6 hv' hv5
    refine wpG_stageK (wpQuiet_nil ?_)
    go_wp2
    refine OnToK.mk (Kept.of_below ((Below.refl _ w6).alloc (Nat.le_refl _) _) (fun b e => by subst e; exact hpl6)) (Sub.refl _) ?_
    obtain ⟨ea, N, ec, w7, hr7, k7, f7, kp7, h7, o7⟩ := dir_add HR6.out HO6.out HH.out.lt HV6.out HO5.out.size (by show D.dirs.length ≤ _; omega) 50
    have HRR := hide hr7
    have HG := hide (h7.goes o7 HK'.out HB.out lim' hfl)
    clear hr7 h7 o7
    refine wpG_stageK (wpQuiet_nil ?_)
    go_wp2_with (at_builtin; refine wpList_app_run rfl _ _ _ _ rfl rfl rfl HRR.out ?_)
    refine OnToK.mk kp7 (Sub.refl _) ?_
    have inh : Nonempty (GrK (fun b => b = p) w7) := GrK.some _ w7
    refine wpG_lastK ?_
    repeat (go_big_quiet_step (fail))
    refine wpQuiet_nil ?_
    clear inh kp7
    go_wp2
    go_ret
    exact ⟨rfl, HG.out⟩

theorem more_set {S : Nat → Prop} {w w1 w5 : World} {p : Nat} {o : Obj} {v : Value} (h1 : w.heap.size ≤ w1.heap.size) (h2 : w1.heap.size ≤ w5.heap.size) {b : Nat} (h : more S w5 (w5.alloc o) b) : more S w ((w5.alloc o).setCell ⟨p, 2, none⟩ v) b := by
  rcases h with h | h
  · exact .inl h
  · refine .inr ⟨by omega, ?_⟩
    have := h.2
    simpa [World.setCell] using this
/-- One row of names alone. -/
theorem RefAt.oneDir {S : Nat → Prop} {w : World} {p : Nat} {D : Dk} {fv dv : Value} {fs ds : List Value} (H : RefAt S w p D fv dv fs ds) {v : Value} {r : Dsk.Row} (hv : NmdAt S w v r) :
    RefAt (more S w (w.alloc (.cells #[v] 75))) ((w.alloc (.cells #[v] 75)).setCell ⟨p, 2, none⟩ (.slice (some ⟨w.heap.size, 0, none⟩) 1 1)) p { D with dirs := [r] } fv (.slice (some ⟨w.heap.size, 0, none⟩) 1 1) fs [v] ∧
      Only S w ((w.alloc (.cells #[v] 75)).setCell ⟨p, 2, none⟩ (.slice (some ⟨w.heap.size, 0, none⟩) 1 1)) := by
  have hpl := H.lt p H.sp
  have keep1 : ∀ b, b < w.heap.size → (w.alloc (.cells #[v] 75)).heap[b]? = w.heap[b]? := fun b hb => Below.heap_alloc _ _ b hb
  have hblk := (keep1 p hpl).trans H.blk
  have keepK : ∀ {b : Nat} {c : Array Value} {u : TypeId}, w.heap[b]? = some (.cells c u (0, 0)) → u ≠ 53 → ((w.alloc (.cells #[v] 75)).setCell ⟨p, 2, none⟩ (.slice (some ⟨w.heap.size, 0, none⟩) 1 1)).heap[b]? = w.heap[b]? := fun {b c u} hc h1 => by
    rw [Below.heap_setCell _ _ _ _ (kind_ne hc H.blk h1)]
    exact keep1 b (Array.getElem?_eq_some_iff.1 hc).1
  refine ⟨⟨heap_setCell_same _ p 2 _ _ _ hblk, own_keep H.files (fun g e => by obtain ⟨c, hc⟩ := own_kind H.files e; exact keepK hc (by decide)), ?_, fun i hi => ?_, fun i hi => ?_, H.apart, .inl H.sp, fun g e => .inl (H.sf g e), fun g e => ?_, fun b hb => ?_⟩, ?_⟩
  · refine own_one ?_
    rw [Below.heap_setCell _ _ _ _ (by show w.heap.size ≠ p; omega)]
    exact heap_new _ _
  · obtain ⟨u, h1, h2⟩ := H.file i hi
    exact ⟨u, h1, h2.keep (fun g x => .inl x) (fun g e => by obtain ⟨c, hc⟩ := own_kind h2.1 e; exact keepK hc (by decide))⟩
  · have hi : i = 0 := by simpa using hi
    subst hi
    exact ⟨v, rfl, hv.keep (fun g x => .inl x) (fun g e => by obtain ⟨c, hc⟩ := own_kind hv.1 e; exact keepK hc (by decide))⟩
  · have e : some w.heap.size = some g := e
    cases e
    exact .inr (by simp)
  · have : b < w.heap.size + 1 := by
      rcases hb with hb | hb
      · have := H.lt b hb; omega
      · have := hb.2; simpa using this
    simpa [World.setCell] using this
  · exact (Only.of_below ((Below.refl _ w).alloc (Nat.le_refl _) _)).setCell (p := ⟨p, 2, none⟩) H.sp _
set_option maxRecDepth 100000 in
set_option maxHeartbeats 600000 in
theorem rsyncDir_dk {S : Nat → Prop} {w : World} {p : Nat} {D : Dk} {c : Nat} (H : IsRef S w p D c) (hc : c + 1 ≤ 10000000) :
    Calls Tryz.prog 53 #[.pointer (some ⟨p, 0, none⟩)] w fun e w' => e = .returned (.int .i64 (Dsk.syncDir D).2) ∧ RGoes S w w' p (Dsk.syncDir D).1 (c + 1) := by
  obtain ⟨ok, bud, lim, hfl, fv, dv, fs, ds, H⟩ := H
  obtain ⟨da, dc, rfl⟩ := own_slice H.dirs
  have ok' := Dsk.syncDir_ok ok
  have bud' := Dsk.bud_syncDir bud ok
  have lim' := lim_syncDir lim
  have h1 := ok.left
  have h2 := lim.left
  have h3 := bud.ops
  have hdl := bud.dirs
  have hrl := bud.rows _ (Dsk.dir_mem ok.some)
  by_cases h0 : D.left = 0
  · have e : Dsk.syncDir D = (D, 11) := act_dead h0 _
    rw [e] at ok' bud' lim' ⊢
    have HH := hide H
    have HB := hide bud'
    clear H e bud bud'
    go_enter Tryz.func53, Tryz.ntmps53
    go_wp2_with fail
    refine (rbegin_dead HH.out h0).mono ?_
    rintro e w1 ⟨rfl, hw⟩
    rw [hw]
    go_wp2
    go_ret
    exact ⟨rfl, ((HH.out.wide w).goes (Only.refl _ _) ok' HB.out lim' hfl)⟩
  have e0 : Dsk.syncDir D = Dsk.syncDirB (Dsk.on D) := by unfold Dsk.syncDir Dsk.act; rw [if_neg h0]
  rw [e0] at ok' bud' lim' ⊢
  have e : Dsk.syncDirB (Dsk.on D) = ({ Dsk.on D with dirs := [Dsk.dir (Dsk.on D)] }, 0) := rfl
  rw [e] at ok' bud' lim' ⊢
  have HH := hide H
  have HB := hide bud'
  have HK := hide (Dsk.on_ok ok)
  have HK' := hide ok'
  clear H e bud bud' e0 ok'
  go_enter Tryz.func53, Tryz.ntmps53
  go_wp2_with fail
  refine (rbegin_on HH.out h0 h1 h2 (by omega)).mono ?_
  rintro e w1 ⟨rfl, hr1, ho1⟩
  have HR1 := hide hr1
  have HO1 := hide ho1
  clear hr1 ho1
  go_wp2_with fail
  refine (rdir_at HR1.out HK.out (by show D.dirs.length ≤ _; omega)).mono ?_
  rintro e w5 ⟨v, rfl, hv, _, hb5⟩
  have hv5 := hv.keep (T := S) (w' := w5) (fun _ x => x) (fun g e => hb5.block g (HR1.out.lt g (hv.2 g e)))
  have h5 := HR1.out.below hb5
  obtain ⟨r6, o6⟩ := h5.oneDir hv5
  obtain ⟨_, _, k2, _, _, _, kf, hpl⟩ := h5.look
  have k3 : ∀ o, (w5.alloc o).cell? ⟨p, 2, none⟩ = some (.slice da D.dirs.length dc) := fun o => ((Below.refl _ w5).alloc (Nat.le_refl _) o |>.cell (p := ⟨p, 2, none⟩) hpl).trans k2
  have k4 : ∀ o j, (w5.alloc o).frozen? ⟨p, j, none⟩ = false := fun o j => ((Below.refl _ w5).alloc (Nat.le_refl _) o |>.frozen (p := ⟨p, j, none⟩) hpl).trans (kf j)
  have HG := hide (RGoes.mk ⟨HK'.out, HB.out, lim', hfl, _, _, _, _, r6.mono (fun b hb => more_set HO1.out.size hb5.size hb) (fun b hb => by
    rcases hb with x | x
    · have := HH.out.lt b x; have := HO1.out.size; have := hb5.size; have := o6.size; omega
    · exact x.2)⟩ ((HO1.out.then_below hb5).trans' o6))
  obtain ⟨va, vc, rfl⟩ := own_slice hv.1
  have k5 := k3 (.cells #[.slice va (Dsk.dir (Dsk.on D)).length vc] 75)
  have k6 := k4 (.cells #[.slice va (Dsk.dir (Dsk.on D)).length vc] 75)
  obtain ⟨w6, hw6⟩ : ∃ w6, w5.alloc (.cells #[.slice va (Dsk.dir (Dsk.on D)).length vc] 75) = w6 := ⟨_, rfl⟩
  rw [hw6] at HG k5 k6
  clear hv hb5 hv5 h5 r6 o6 k3 k4
  go_wp2
  go_ret
  exact ⟨rfl, HG.out⟩

end Go.Proofs.YtleomppgkikhnaaGreat
namespace Go.Proofs.YtleomppgkikhnaaGreat
open Go.RowKit
open Dsk (By Dk)

/-- 'append(l, x)', where x lies at g. -/
theorem nmd_app2 {w : World} {base : Nat} {v : Value} {l : Dsk.Row} (h : w.ownsRow base 77 2 v l.length (nmdV l)) {g : Nat} {n : ByteArray} {i : Nat} (h0 : w.cell? ⟨g, 0, none⟩ = some (.string n)) (h1 : w.cell? ⟨g, 1, none⟩ = some (.int .i64 (i : Int))) (hl : l.length ≤ 1000000000000) (hb : base ≤ w.heap.size) (ty : TypeId) :
    ∃ (ea : Option Addr) (N ec : Nat) (w' : World), (Builtin.append_ #[75, 75] ty #[v, .slice (some ⟨g, 0, none⟩) 1 1]).run Tryz.prog w = .ok (.slice ea N ec) w' ∧
      w'.ownsRow base 77 2 (.slice ea N ec) (l ++ [(n, i)]).length (nmdV (l ++ [(n, i)])) ∧ Below base w w' := by
  obtain ⟨ti, hi, hz, hs, hby⟩ := nmd_info
  obtain ⟨v', w', hr, ho, hg, _⟩ := app_own w base 75 ty 77 ti _ 2 24 unmds hi hz hs hby rfl (by decide) v l.length (nmdV l) h ⟨g, 0, none⟩ 1 1
    [.string n, .int .i64 (i : Int)] rfl (fun j u hj => by
      rw [Addr.add_lit, Nat.zero_add]
      match j, hj with
      | 0, hj => simp at hj; subst hj; exact h0
      | 1, hj => simp at hj; subst hj; exact h1) (fun u hu => by simp at hu; rcases hu with rfl | rfl <;> rfl) (by unfold maxLen; omega) (by omega) hb
  have ho : w'.ownsRow base 77 2 v' (l ++ [(n, i)]).length (nmdV (l ++ [(n, i)])) := by
    rw [nmdV_app, List.length_append]
    exact ho
  obtain ⟨ea, ec, rfl⟩ := own_slice ho
  refine ⟨ea, _, ec, w', hr, ho, hg.os, hg.tape, hg.output, hg.size, fun b hb' => hg.block b (by omega) (fun e => by have := (h.lt b e.symm).1; omega)⟩
theorem cells_pair (w : World) (x y : Value) (t : TypeId) : (w.alloc (.cells #[x, y] t)).cell? ⟨w.heap.size, 0, none⟩ = some x ∧ (w.alloc (.cells #[x, y] t)).cell? ⟨w.heap.size, 1, none⟩ = some y := by simp
set_option maxRecDepth 100000 in
set_option maxHeartbeats 600000 in
theorem rrename_dk {S : Nat → Prop} {w : World} {p : Nat} {D : Dk} {c : Nat} (H : IsRef S w p D c) (n m : ByteArray) (hm : m.size ≤ 9223372036854775807) (hc : c + 1 ≤ 10000000) :
    Calls Tryz.prog 52 #[.pointer (some ⟨p, 0, none⟩), .string n, .string m] w fun e w' => e = .returned (.int .i64 (Dsk.rename n m D).2) ∧ RGoes S w w' p (Dsk.rename n m D).1 (c + 1) := by
  obtain ⟨ok, bud, lim, hfl, fv, dv, fs, ds, H⟩ := H
  obtain ⟨da, dc, rfl⟩ := own_slice H.dirs
  have ok' := Dsk.rename_ok n m ok
  have bud' := Dsk.bud_rename n m bud ok
  have lim' := lim_rename n m lim
  have h1 := ok.left
  have h2 := lim.left
  have h3 := bud.ops
  have hdl := bud.dirs
  have hrl := bud.rows _ (Dsk.dir_mem ok.some)
  by_cases h0 : D.left = 0
  · have e : Dsk.rename n m D = (D, 11) := act_dead h0 _
    rw [e] at ok' bud' lim' ⊢
    have HH := hide H
    have HB := hide bud'
    clear H e bud bud'
    go_enter Tryz.func52, Tryz.ntmps52
    go_wp2_with fail
    refine (rbegin_dead HH.out h0).mono ?_
    rintro e w1 ⟨rfl, hw⟩
    rw [hw]
    go_wp2
    go_ret
    exact ⟨rfl, ((HH.out.wide w).goes (Only.refl _ _) ok' HB.out lim' hfl)⟩
  have e0 : Dsk.rename n m D = Dsk.renameB n m (Dsk.on D) := by unfold Dsk.rename Dsk.act; rw [if_neg h0]
  rw [e0] at ok' bud' lim' ⊢
  cases hf : Dsk.find (Dsk.dir D) n with
  | none =>
    have e : Dsk.renameB n m (Dsk.on D) = (Dsk.on D, 5) := by unfold Dsk.renameB; rw [show Dsk.find (Dsk.dir (Dsk.on D)) n = none from hf]
    rw [e] at ok' bud' lim' ⊢
    have HH := hide H
    have HB := hide bud'
    have HF := hide hf
    have HK := hide ok'
    clear H e bud bud' hf e0 ok'
    go_enter Tryz.func52, Tryz.ntmps52
    go_wp2_with fail
    refine (rbegin_on HH.out h0 h1 h2 (by omega)).mono ?_
    rintro e w1 ⟨rfl, hr1, ho1⟩
    have HR1 := hide hr1
    have HO1 := hide ho1
    clear hr1 ho1
    go_wp2_with fail
    refine (rnumber_at HR1.out HK.out (by show D.dirs.length ≤ _; omega) (by show (Dsk.dir D).length ≤ _; omega) n).mono ?_
    rintro e w2 ⟨rfl, hb2⟩
    rw [show Dsk.find (Dsk.dir (Dsk.on D)) n = none from HF.out]
    have hnn : numV none < 0 := by decide
    have HG := hide (((HR1.out.below hb2).wide w).goes (HO1.out.then_below hb2) HK.out HB.out lim' hfl)
    clear hb2
    go_wp2
    go_ret
    exact ⟨rfl, HG.out⟩
  | some i =>
    have hil := Dsk.find_lt ok hf
    have hfil := bud.files
    have hnm := rname_any m
    cases hnam : Dsk.isName m with
    | false =>
      have e : Dsk.renameB n m (Dsk.on D) = (Dsk.on D, 3) := by unfold Dsk.renameB; rw [show Dsk.find (Dsk.dir (Dsk.on D)) n = some i from hf]; simp only; rw [if_pos hnam]
      rw [e] at ok' bud' lim' ⊢
      have HH := hide H
      have HB := hide bud'
      have HF := hide hf
      have HK := hide ok'
      have HNM := hide hnm
      have HNA := hide hnam
      clear H e bud bud' hf e0 ok' hnm hnam
      go_enter Tryz.func52, Tryz.ntmps52
      go_wp2_with fail
      refine (rbegin_on HH.out h0 h1 h2 (by omega)).mono ?_
      rintro e w1 ⟨rfl, hr1, ho1⟩
      have HR1 := hide hr1
      have HO1 := hide ho1
      clear hr1 ho1
      go_wp2_with fail
      refine (rnumber_at HR1.out HK.out (by show D.dirs.length ≤ _; omega) (by show (Dsk.dir D).length ≤ _; omega) n).mono ?_
      rintro e w2 ⟨rfl, hb2⟩
      rw [show Dsk.find (Dsk.dir (Dsk.on D)) n = some i from HF.out, num_some]
      have HR2 := hide (HR1.out.below hb2)
      have HO2 := hide (HO1.out.then_below hb2)
      clear hb2
      go_wp2_with fail
      refine (HNM.out w2 hm).mono ?_
      rintro e w3 ⟨rfl, hb3⟩
      rw [HNA.out]
      have HG := hide (((HR2.out.below hb3).wide w).goes (HO2.out.then_below hb3) HK.out HB.out lim' hfl)
      clear hb3
      go_wp2
      go_ret
      exact ⟨rfl, HG.out⟩
    | true =>
      have e : Dsk.renameB n m (Dsk.on D) = ({ Dsk.on D with dirs := (Dsk.on D).dirs ++ [Dsk.without (Dsk.without (Dsk.dir (Dsk.on D)) n) m ++ [(m, i)]] }, 0) := by unfold Dsk.renameB; rw [show Dsk.find (Dsk.dir (Dsk.on D)) n = some i from hf]; simp only; rw [if_neg (by rw [hnam]; simp)]
      rw [e] at ok' bud' lim' ⊢
      have HH := hide H
      have HB := hide bud'
      have HF := hide hf
      have HK := hide (Dsk.on_ok ok)
      have HK' := hide ok'
      have HNM := hide hnm
      have HNA := hide hnam
      clear H e bud bud' hf e0 ok' hnm hnam
      go_enter Tryz.func52, Tryz.ntmps52
      go_wp2_with fail
      refine (rbegin_on HH.out h0 h1 h2 (by omega)).mono ?_
      rintro e w1 ⟨rfl, hr1, ho1⟩
      have HR1 := hide hr1
      have HO1 := hide ho1
      clear hr1 ho1
      go_wp2_with fail
      refine (rnumber_at HR1.out HK.out (by show D.dirs.length ≤ _; omega) (by show (Dsk.dir D).length ≤ _; omega) n).mono ?_
      rintro e w2 ⟨rfl, hb2⟩
      rw [show Dsk.find (Dsk.dir (Dsk.on D)) n = some i from HF.out, num_some]
      have HR2 := hide (HR1.out.below hb2)
      have HO2 := hide (HO1.out.then_below hb2)
      clear hb2
      go_wp2_with fail
      refine (HNM.out w2 hm).mono ?_
      rintro e w3 ⟨rfl, hb3⟩
      rw [HNA.out]
      have HR3 := hide (HR2.out.below hb3)
      have HO3 := hide (HO2.out.then_below hb3)
      clear hb3
      go_wp2_with fail
      refine wp_region_growF (fun b => b = p) 14 _ [([0, 1, 2, 3, 4, 5, 7, 9, 11, 12, 13], 6), ([], 8), ([], 10)] [([], 15), ([], 16), ([], 17)] [18, 19] [20] rfl (by kernel_rfl) (by kernel_rfl) (by kernel_rfl) (by kernel_rfl) ?_
      intro w4 hb4
      simp only [stagesOfK, getLK, pickLK]
      have HR4 := hide (HR3.out.below hb4)
      have HO4 := hide (HO3.out.then_below hb4)
      obtain ⟨_, _, k2, _, _, _, _, hpl⟩ := HR4.out.look
      have inh : Nonempty (GrK (fun b => b = p) w4) := GrK.some _ w4
      have q2 := fun x : GrK (fun b => b = p) w4 => x.cell (a := ⟨p, 2, none⟩) rfl k2
      refine wpF_stage ?_
      repeat (go_big_quiet_step (fail))
      refine wpQuiet_nil ?_
      clear q2 inh hb4
      refine ⟨?_, ?_⟩
      · go_wp2_with fail
        refine (rdir_at HR4.out HK.out (by show D.dirs.length ≤ _; omega)).mono ?_
        rintro e w15 ⟨v, rfl, hv, _, hb⟩
        have HR15 := hide (HR4.out.below hb)
        have HO15 := hide (HO4.out.then_below hb)
        have HV15 := hide (hv.keep (T := S) (w' := w15) (fun _ x => x) (fun g e => hb.block g (HR4.out.lt g (hv.2 g e)))).1
        obtain ⟨va15, vc15, rfl⟩ := own_slice hv.1
        go_wp2
        refine OnToF.mk (Kept.of_below hb (fun b e => by subst e; exact HR4.out.lt b HR4.out.sp)) (Sub.refl _) ?_
        clear hb hv
        refine wpF_stage (wpQuiet_nil ⟨?_, ?_⟩)
        · go_wp2_with fail
          refine (rwithout_at HV15.out (by show (Dsk.dir D).length ≤ _; omega) n).mono ?_
          rintro e w16 ⟨v', rfl, hv', hb⟩
          have HR16 := hide (HR15.out.below hb)
          have HO16 := hide (HO15.out.then_below hb)
          have HV16 := hide hv'
          obtain ⟨va16, vc16, rfl⟩ := own_slice hv'
          go_wp2
          refine OnToF.mk (Kept.of_below hb (fun b e => by subst e; exact HR15.out.lt b HR15.out.sp)) (Sub.refl _) ?_
          have hz16 := HO15.out.size
          have hz9 := hb.size
          clear hb hv'
          refine wpF_stage (wpQuiet_nil ⟨?_, ?_⟩)
          · go_wp2_with fail
            refine (rwithout_at HV16.out (by exact Nat.le_trans (List.length_filter_le _ _) (by show (Dsk.dir D).length ≤ _; omega)) m).mono ?_
            rintro e w17 ⟨v', rfl, hv', hb⟩
            have HR17 := hide (HR16.out.below hb)
            have HO17 := hide (HO16.out.then_below hb)
            have HV17 := hide hv'
            obtain ⟨va17, vc17, rfl⟩ := own_slice hv'
            go_wp2
            refine OnToF.mk (Kept.of_below hb (fun b e => by subst e; exact HR16.out.lt b HR16.out.sp)) (Sub.refl _) ?_
            have hz17 := HO16.out.size
            have hz9 := hb.size
            clear hb hv'
            refine wpF_last ?_
            refine wpG_stageK (wpQuiet_nil ?_)
            have b18 : Below w17.heap.size w17 (w17.alloc (.cells #[.string m, .int .i64 (i : Int)] 77)) := (Below.refl _ w17).alloc (Nat.le_refl _) _
            obtain ⟨g0, g1⟩ := cells_pair w17 (.string m) (.int .i64 (i : Int)) 77
            have HR18 := hide (HR17.out.below b18)
            have HO18 := hide (HO17.out.then_below b18)
            have HV18 := hide (HV17.out.alloc (.cells #[.string m, .int .i64 (i : Int)] 77))
            go_wp2
            refine OnToK.mk (Kept.of_below b18 (fun b e => by subst e; exact HR17.out.lt b HR17.out.sp)) (Sub.refl _) ?_
            have hz8 : w17.heap.size ≤ (w17.alloc (.cells #[.string m, .int .i64 (i : Int)] 77)).heap.size := by simp
            have hgN : w17.heap.size < (w17.alloc (.cells #[.string m, .int .i64 (i : Int)] 77)).heap.size := by simp
            obtain ⟨w18, hw18⟩ : ∃ W, w17.alloc (.cells #[.string m, .int .i64 (i : Int)] 77) = W := ⟨_, rfl⟩
            obtain ⟨gN, hgE⟩ : ∃ gN, w17.heap.size = gN := ⟨_, rfl⟩
            rw [hw18] at hz8 g0 g1 HR18 HO18 hgN HV18 ⊢
            rw [hgE] at g0 g1 hgN ⊢
            clear b18 hw18 hgE
            have hbz : w16.heap.size ≤ w18.heap.size := by first | exact Nat.le_refl _ | (have h9 := HV18.out; omega)
            have hwz : w.heap.size ≤ w16.heap.size := by omega
            refine wpG_stageK (wpQuiet_nil ?_)
            obtain ⟨ea, N, ec, wA, hr, hv, hb⟩ := nmd_app2 HV18.out g0 g1 (by exact Nat.le_trans (List.length_filter_le _ _) (Nat.le_trans (List.length_filter_le _ _) (by show (Dsk.dir D).length ≤ _; omega))) hbz 75
            have hwS : ∀ b, S b → b < w16.heap.size := fun b hx => by have := HH.out.lt b hx; omega
            have HRA := hide (HR18.out.keep hb.size (fun b hx => hb.block b (hwS b hx)))
            have HOA : Hid (Only S w wA) := hide ⟨hb.os.trans HO18.out.os, hb.tape.trans HO18.out.tape, hb.output.trans HO18.out.output, Nat.le_trans HO18.out.size hb.size, fun b h1 h2 => (hb.block b (by omega)).trans (HO18.out.block b h1 h2)⟩
            have HVA := hide hv
            have HRR := hide hr
            have hpw : p < w16.heap.size := hwS p HR18.out.sp
            clear hr hv
            go_wp2_with (at_builtin; refine wpList_app_run rfl _ _ _ _ rfl rfl rfl HRR.out ?_)
            refine OnToK.mk (Kept.of_below hb (fun b e => by subst e; exact hpw)) (Sub.refl _) ?_
            have hpA := Nat.lt_of_lt_of_le hpw (Nat.le_trans hbz hb.size)
            have hbA := Nat.le_trans hbz hb.size
            clear hb
            refine wpG_stageK (wpQuiet_nil ?_)
            go_wp2
            refine OnToK.mk (Kept.of_below ((Below.refl _ wA).alloc (Nat.le_refl _) _) (fun b e => by subst e; exact hpA)) (Sub.refl _) ?_
            obtain ⟨ea7, N7, ec7, w7, hr7, k7, f7, kp7, h7, o7⟩ := dir_add HRA.out HOA.out HH.out.lt HVA.out (by omega) (by show D.dirs.length ≤ _; omega) 50
            have HR7 := hide hr7
            have HG := hide (h7.goes o7 HK'.out HB.out lim' hfl)
            clear hr7 h7 o7
            refine wpG_stageK (wpQuiet_nil ?_)
            go_wp2_with (at_builtin; refine wpList_app_run rfl _ _ _ _ rfl rfl rfl HR7.out ?_)
            refine OnToK.mk kp7 (Sub.refl _) ?_
            have inh : Nonempty (GrK (fun b => b = p) w7) := GrK.some _ w7
            refine wpG_lastK ?_
            repeat (go_big_quiet_step (fail))
            refine wpQuiet_nil ?_
            clear inh kp7
            go_wp2
            go_ret
            exact ⟨rfl, HG.out⟩
          · have b19 : Below w16.heap.size w16 (w16.alloc (.cells #[.string m, .int .i64 (i : Int)] 77)) := (Below.refl _ w16).alloc (Nat.le_refl _) _
            obtain ⟨g0, g1⟩ := cells_pair w16 (.string m) (.int .i64 (i : Int)) 77
            have HR19 := hide (HR16.out.below b19)
            have HO19 := hide (HO16.out.then_below b19)
            have HV19 := hide (HV16.out.alloc (.cells #[.string m, .int .i64 (i : Int)] 77))
            go_wp2
            refine OnToK.mk (Kept.of_below b19 (fun b e => by subst e; exact HR16.out.lt b HR16.out.sp)) (Sub.refl _) ?_
            have hz8 : w16.heap.size ≤ (w16.alloc (.cells #[.string m, .int .i64 (i : Int)] 77)).heap.size := by simp
            have hgN : w16.heap.size < (w16.alloc (.cells #[.string m, .int .i64 (i : Int)] 77)).heap.size := by simp
            obtain ⟨w19, hw19⟩ : ∃ W, w16.alloc (.cells #[.string m, .int .i64 (i : Int)] 77) = W := ⟨_, rfl⟩
            obtain ⟨gN, hgE⟩ : ∃ gN, w16.heap.size = gN := ⟨_, rfl⟩
            rw [hw19] at hz8 g0 g1 HR19 HO19 hgN HV19 ⊢
            rw [hgE] at g0 g1 hgN ⊢
            clear b19 hw19 hgE
            refine wpG_stageK (wpQuiet_nil ?_)
            go_wp2_with fail
            refine (rwithout_at HV19.out (by exact Nat.le_trans (List.length_filter_le _ _) (by show (Dsk.dir D).length ≤ _; omega)) m).mono ?_
            rintro e w20 ⟨v', rfl, hv', hb⟩
            have HR20 := hide (HR19.out.below hb)
            have HO20 := hide (HO19.out.then_below hb)
            have HV20 := hide hv'
            obtain ⟨va20, vc20, rfl⟩ := own_slice hv'
            have g0 := (hb.cell (p := ⟨gN, 0, none⟩) hgN).trans g0
            have g1 := (hb.cell (p := ⟨gN, 1, none⟩) hgN).trans g1
            have hgN := Nat.lt_of_lt_of_le hgN hb.size
            go_wp2
            refine OnToK.mk (Kept.of_below hb (fun b e => by subst e; exact HR19.out.lt b HR19.out.sp)) (Sub.refl _) ?_
            have hz20 := HO19.out.size
            have hz9 := hb.size
            clear hb hv'
            have hbz : w19.heap.size ≤ w20.heap.size := by first | exact Nat.le_refl _ | (have h9 := HV20.out; omega)
            have hwz : w.heap.size ≤ w19.heap.size := by omega
            refine wpG_stageK (wpQuiet_nil ?_)
            obtain ⟨ea, N, ec, wA, hr, hv, hb⟩ := nmd_app2 HV20.out g0 g1 (by exact Nat.le_trans (List.length_filter_le _ _) (Nat.le_trans (List.length_filter_le _ _) (by show (Dsk.dir D).length ≤ _; omega))) hbz 75
            have hwS : ∀ b, S b → b < w19.heap.size := fun b hx => by have := HH.out.lt b hx; omega
            have HRA := hide (HR20.out.keep hb.size (fun b hx => hb.block b (hwS b hx)))
            have HOA : Hid (Only S w wA) := hide ⟨hb.os.trans HO20.out.os, hb.tape.trans HO20.out.tape, hb.output.trans HO20.out.output, Nat.le_trans HO20.out.size hb.size, fun b h1 h2 => (hb.block b (by omega)).trans (HO20.out.block b h1 h2)⟩
            have HVA := hide hv
            have HRR := hide hr
            have hpw : p < w19.heap.size := hwS p HR20.out.sp
            clear hr hv
            go_wp2_with (at_builtin; refine wpList_app_run rfl _ _ _ _ rfl rfl rfl HRR.out ?_)
            refine OnToK.mk (Kept.of_below hb (fun b e => by subst e; exact hpw)) (Sub.refl _) ?_
            have hpA := Nat.lt_of_lt_of_le hpw (Nat.le_trans hbz hb.size)
            have hbA := Nat.le_trans hbz hb.size
            clear hb
            refine wpG_stageK (wpQuiet_nil ?_)
            go_wp2
            refine OnToK.mk (Kept.of_below ((Below.refl _ wA).alloc (Nat.le_refl _) _) (fun b e => by subst e; exact hpA)) (Sub.refl _) ?_
            obtain ⟨ea7, N7, ec7, w7, hr7, k7, f7, kp7, h7, o7⟩ := dir_add HRA.out HOA.out HH.out.lt HVA.out (by omega) (by show D.dirs.length ≤ _; omega) 50
            have HR7 := hide hr7
            have HG := hide (h7.goes o7 HK'.out HB.out lim' hfl)
            clear hr7 h7 o7
            refine wpG_stageK (wpQuiet_nil ?_)
            go_wp2_with (at_builtin; refine wpList_app_run rfl _ _ _ _ rfl rfl rfl HR7.out ?_)
            refine OnToK.mk kp7 (Sub.refl _) ?_
            have inh : Nonempty (GrK (fun b => b = p) w7) := GrK.some _ w7
            refine wpG_lastK ?_
            repeat (go_big_quiet_step (fail))
            refine wpQuiet_nil ?_
            clear inh kp7
            go_wp2
            go_ret
            exact ⟨rfl, HG.out⟩
        · have b21 : Below w15.heap.size w15 (w15.alloc (.cells #[.string m, .int .i64 (i : Int)] 77)) := (Below.refl _ w15).alloc (Nat.le_refl _) _
          obtain ⟨g0, g1⟩ := cells_pair w15 (.string m) (.int .i64 (i : Int)) 77
          have HR21 := hide (HR15.out.below b21)
          have HO21 := hide (HO15.out.then_below b21)
          have HV21 := hide (HV15.out.alloc (.cells #[.string m, .int .i64 (i : Int)] 77))
          go_wp2
          refine OnToK.mk (Kept.of_below b21 (fun b e => by subst e; exact HR15.out.lt b HR15.out.sp)) (Sub.refl _) ?_
          have hz8 : w15.heap.size ≤ (w15.alloc (.cells #[.string m, .int .i64 (i : Int)] 77)).heap.size := by simp
          have hgN : w15.heap.size < (w15.alloc (.cells #[.string m, .int .i64 (i : Int)] 77)).heap.size := by simp
          obtain ⟨w21, hw21⟩ : ∃ W, w15.alloc (.cells #[.string m, .int .i64 (i : Int)] 77) = W := ⟨_, rfl⟩
          obtain ⟨gN, hgE⟩ : ∃ gN, w15.heap.size = gN := ⟨_, rfl⟩
          rw [hw21] at hz8 g0 g1 HR21 HO21 hgN HV21 ⊢
          rw [hgE] at g0 g1 hgN ⊢
          clear b21 hw21 hgE
          refine wpG_stageK (wpQuiet_nil ?_)
          go_wp2_with fail
          refine (rwithout_at HV21.out (by show (Dsk.dir D).length ≤ _; omega) n).mono ?_
          rintro e w22 ⟨v', rfl, hv', hb⟩
          have HR22 := hide (HR21.out.below hb)
          have HO22 := hide (HO21.out.then_below hb)
          have HV22 := hide hv'
          obtain ⟨va22, vc22, rfl⟩ := own_slice hv'
          have g0 := (hb.cell (p := ⟨gN, 0, none⟩) hgN).trans g0
          have g1 := (hb.cell (p := ⟨gN, 1, none⟩) hgN).trans g1
          have hgN := Nat.lt_of_lt_of_le hgN hb.size
          go_wp2
          refine OnToK.mk (Kept.of_below hb (fun b e => by subst e; exact HR21.out.lt b HR21.out.sp)) (Sub.refl _) ?_
          have hz22 := HO21.out.size
          have hz9 := hb.size
          clear hb hv'
          refine wpG_stageK (wpQuiet_nil ?_)
          go_wp2_with fail
          refine (rwithout_at HV22.out (by exact Nat.le_trans (List.length_filter_le _ _) (by show (Dsk.dir D).length ≤ _; omega)) m).mono ?_
          rintro e w23 ⟨v', rfl, hv', hb⟩
          have HR23 := hide (HR22.out.below hb)
          have HO23 := hide (HO22.out.then_below hb)
          have HV23 := hide hv'
          obtain ⟨va23, vc23, rfl⟩ := own_slice hv'
          have g0 := (hb.cell (p := ⟨gN, 0, none⟩) hgN).trans g0
          have g1 := (hb.cell (p := ⟨gN, 1, none⟩) hgN).trans g1
          have hgN := Nat.lt_of_lt_of_le hgN hb.size
          go_wp2
          refine OnToK.mk (Kept.of_below hb (fun b e => by subst e; exact HR22.out.lt b HR22.out.sp)) (Sub.refl _) ?_
          have hz23 := HO22.out.size
          have hz9 := hb.size
          clear hb hv'
          have hbz : w22.heap.size ≤ w23.heap.size := by first | exact Nat.le_refl _ | (have h9 := HV23.out; omega)
          have hwz : w.heap.size ≤ w22.heap.size := by omega
          refine wpG_stageK (wpQuiet_nil ?_)
          obtain ⟨ea, N, ec, wA, hr, hv, hb⟩ := nmd_app2 HV23.out g0 g1 (by exact Nat.le_trans (List.length_filter_le _ _) (Nat.le_trans (List.length_filter_le _ _) (by show (Dsk.dir D).length ≤ _; omega))) hbz 75
          have hwS : ∀ b, S b → b < w22.heap.size := fun b hx => by have := HH.out.lt b hx; omega
          have HRA := hide (HR23.out.keep hb.size (fun b hx => hb.block b (hwS b hx)))
          have HOA : Hid (Only S w wA) := hide ⟨hb.os.trans HO23.out.os, hb.tape.trans HO23.out.tape, hb.output.trans HO23.out.output, Nat.le_trans HO23.out.size hb.size, fun b h1 h2 => (hb.block b (by omega)).trans (HO23.out.block b h1 h2)⟩
          have HVA := hide hv
          have HRR := hide hr
          have hpw : p < w22.heap.size := hwS p HR23.out.sp
          clear hr hv
          go_wp2_with (at_builtin; refine wpList_app_run rfl _ _ _ _ rfl rfl rfl HRR.out ?_)
          refine OnToK.mk (Kept.of_below hb (fun b e => by subst e; exact hpw)) (Sub.refl _) ?_
          have hpA := Nat.lt_of_lt_of_le hpw (Nat.le_trans hbz hb.size)
          have hbA := Nat.le_trans hbz hb.size
          clear hb
          refine wpG_stageK (wpQuiet_nil ?_)
          go_wp2
          refine OnToK.mk (Kept.of_below ((Below.refl _ wA).alloc (Nat.le_refl _) _) (fun b e => by subst e; exact hpA)) (Sub.refl _) ?_
          obtain ⟨ea7, N7, ec7, w7, hr7, k7, f7, kp7, h7, o7⟩ := dir_add HRA.out HOA.out HH.out.lt HVA.out (by omega) (by show D.dirs.length ≤ _; omega) 50
          have HR7 := hide hr7
          have HG := hide (h7.goes o7 HK'.out HB.out lim' hfl)
          clear hr7 h7 o7
          refine wpG_stageK (wpQuiet_nil ?_)
          go_wp2_with (at_builtin; refine wpList_app_run rfl _ _ _ _ rfl rfl rfl HR7.out ?_)
          refine OnToK.mk kp7 (Sub.refl _) ?_
          have inh : Nonempty (GrK (fun b => b = p) w7) := GrK.some _ w7
          refine wpG_lastK ?_
          repeat (go_big_quiet_step (fail))
          refine wpQuiet_nil ?_
          clear inh kp7
          go_wp2
          go_ret
          exact ⟨rfl, HG.out⟩
      · have b11 : Below w4.heap.size w4 (w4.alloc (.cells #[.string m, .int .i64 (i : Int)] 77)) := (Below.refl _ w4).alloc (Nat.le_refl _) _
        obtain ⟨g0, g1⟩ := cells_pair w4 (.string m) (.int .i64 (i : Int)) 77
        have HR11 := hide (HR4.out.below b11)
        have HO11 := hide (HO4.out.then_below b11)
        go_wp2
        refine OnToK.mk (Kept.of_below b11 (fun b e => by subst e; exact HR4.out.lt b HR4.out.sp)) (Sub.refl _) ?_
        have hz8 : w4.heap.size ≤ (w4.alloc (.cells #[.string m, .int .i64 (i : Int)] 77)).heap.size := by simp
        have hgN : w4.heap.size < (w4.alloc (.cells #[.string m, .int .i64 (i : Int)] 77)).heap.size := by simp
        obtain ⟨w11, hw11⟩ : ∃ W, w4.alloc (.cells #[.string m, .int .i64 (i : Int)] 77) = W := ⟨_, rfl⟩
        obtain ⟨gN, hgE⟩ : ∃ gN, w4.heap.size = gN := ⟨_, rfl⟩
        rw [hw11] at hz8 g0 g1 HR11 HO11 hgN ⊢
        rw [hgE] at g0 g1 hgN ⊢
        clear b11 hw11 hgE
        refine wpG_stageK (wpQuiet_nil ?_)
        go_wp2_with fail
        refine (rdir_at HR11.out HK.out (by show D.dirs.length ≤ _; omega)).mono ?_
        rintro e w12 ⟨v, rfl, hv, _, hb⟩
        have HR12 := hide (HR11.out.below hb)
        have HO12 := hide (HO11.out.then_below hb)
        have HV12 := hide (hv.keep (T := S) (w' := w12) (fun _ x => x) (fun g e => hb.block g (HR11.out.lt g (hv.2 g e)))).1
        obtain ⟨va12, vc12, rfl⟩ := own_slice hv.1
        have g0 := (hb.cell (p := ⟨gN, 0, none⟩) hgN).trans g0
        have g1 := (hb.cell (p := ⟨gN, 1, none⟩) hgN).trans g1
        have hgN := Nat.lt_of_lt_of_le hgN hb.size
        go_wp2
        refine OnToK.mk (Kept.of_below hb (fun b e => by subst e; exact HR11.out.lt b HR11.out.sp)) (Sub.refl _) ?_
        clear hb hv
        refine wpG_stageK (wpQuiet_nil ?_)
        go_wp2_with fail
        refine (rwithout_at HV12.out (by show (Dsk.dir D).length ≤ _; omega) n).mono ?_
        rintro e w13 ⟨v', rfl, hv', hb⟩
        have HR13 := hide (HR12.out.below hb)
        have HO13 := hide (HO12.out.then_below hb)
        have HV13 := hide hv'
        obtain ⟨va13, vc13, rfl⟩ := own_slice hv'
        have g0 := (hb.cell (p := ⟨gN, 0, none⟩) hgN).trans g0
        have g1 := (hb.cell (p := ⟨gN, 1, none⟩) hgN).trans g1
        have hgN := Nat.lt_of_lt_of_le hgN hb.size
        go_wp2
        refine OnToK.mk (Kept.of_below hb (fun b e => by subst e; exact HR12.out.lt b HR12.out.sp)) (Sub.refl _) ?_
        have hz13 := HO12.out.size
        have hz9 := hb.size
        clear hb hv'
        refine wpG_stageK (wpQuiet_nil ?_)
        go_wp2_with fail
        refine (rwithout_at HV13.out (by exact Nat.le_trans (List.length_filter_le _ _) (by show (Dsk.dir D).length ≤ _; omega)) m).mono ?_
        rintro e w14 ⟨v', rfl, hv', hb⟩
        have HR14 := hide (HR13.out.below hb)
        have HO14 := hide (HO13.out.then_below hb)
        have HV14 := hide hv'
        obtain ⟨va14, vc14, rfl⟩ := own_slice hv'
        have g0 := (hb.cell (p := ⟨gN, 0, none⟩) hgN).trans g0
        have g1 := (hb.cell (p := ⟨gN, 1, none⟩) hgN).trans g1
        have hgN := Nat.lt_of_lt_of_le hgN hb.size
        go_wp2
        refine OnToK.mk (Kept.of_below hb (fun b e => by subst e; exact HR13.out.lt b HR13.out.sp)) (Sub.refl _) ?_
        have hz14 := HO13.out.size
        have hz9 := hb.size
        clear hb hv'
        have hbz : w13.heap.size ≤ w14.heap.size := by first | exact Nat.le_refl _ | (have h9 := HV14.out; omega)
        have hwz : w.heap.size ≤ w13.heap.size := by omega
        refine wpG_stageK (wpQuiet_nil ?_)
        obtain ⟨ea, N, ec, wA, hr, hv, hb⟩ := nmd_app2 HV14.out g0 g1 (by exact Nat.le_trans (List.length_filter_le _ _) (Nat.le_trans (List.length_filter_le _ _) (by show (Dsk.dir D).length ≤ _; omega))) hbz 75
        have hwS : ∀ b, S b → b < w13.heap.size := fun b hx => by have := HH.out.lt b hx; omega
        have HRA := hide (HR14.out.keep hb.size (fun b hx => hb.block b (hwS b hx)))
        have HOA : Hid (Only S w wA) := hide ⟨hb.os.trans HO14.out.os, hb.tape.trans HO14.out.tape, hb.output.trans HO14.out.output, Nat.le_trans HO14.out.size hb.size, fun b h1 h2 => (hb.block b (by omega)).trans (HO14.out.block b h1 h2)⟩
        have HVA := hide hv
        have HRR := hide hr
        have hpw : p < w13.heap.size := hwS p HR14.out.sp
        clear hr hv
        go_wp2_with (at_builtin; refine wpList_app_run rfl _ _ _ _ rfl rfl rfl HRR.out ?_)
        refine OnToK.mk (Kept.of_below hb (fun b e => by subst e; exact hpw)) (Sub.refl _) ?_
        have hpA := Nat.lt_of_lt_of_le hpw (Nat.le_trans hbz hb.size)
        have hbA := Nat.le_trans hbz hb.size
        clear hb
        refine wpG_stageK (wpQuiet_nil ?_)
        go_wp2
        refine OnToK.mk (Kept.of_below ((Below.refl _ wA).alloc (Nat.le_refl _) _) (fun b e => by subst e; exact hpA)) (Sub.refl _) ?_
        obtain ⟨ea7, N7, ec7, w7, hr7, k7, f7, kp7, h7, o7⟩ := dir_add HRA.out HOA.out HH.out.lt HVA.out (by omega) (by show D.dirs.length ≤ _; omega) 50
        have HR7 := hide hr7
        have HG := hide (h7.goes o7 HK'.out HB.out lim' hfl)
        clear hr7 h7 o7
        refine wpG_stageK (wpQuiet_nil ?_)
        go_wp2_with (at_builtin; refine wpList_app_run rfl _ _ _ _ rfl rfl rfl HR7.out ?_)
        refine OnToK.mk kp7 (Sub.refl _) ?_
        have inh : Nonempty (GrK (fun b => b = p) w7) := GrK.some _ w7
        refine wpG_lastK ?_
        repeat (go_big_quiet_step (fail))
        refine wpQuiet_nil ?_
        clear inh kp7
        go_wp2
        go_ret
        exact ⟨rfl, HG.out⟩

end Go.Proofs.YtleomppgkikhnaaGreat
namespace Go.Proofs.YtleomppgkikhnaaGreat
open Go.RowKit
open Dsk (By Dk)

/-- A file that is new, behind w. -/
theorem file_add {S : Nat → Prop} {w w6 : World} {p : Nat} {D : Dk} {fv dv : Value} {fs ds : List Value} (H : RefAt S w6 p D fv dv fs ds) (ho : Only S w w6) (hSw : ∀ b, S b → b < w.heap.size) {g : Nat} {x : Value} (hgb : w.heap.size ≤ g) {b : By} (hx : x = .string (Num.bs b)) (hg : w6.heap[g]? = some (.cells #[x] 9 (0, 0))) (hl : D.files.length ≤ 1000000000000) (ty : TypeId) :
    ∃ (ea : Option Addr) (N ec : Nat) (w' : World), N = D.files.length + 1 ∧ (Builtin.append_ #[51, 51] ty #[fv, .slice (some ⟨w6.heap.size, 0, none⟩) 1 1]).run Tryz.prog (w6.alloc (.cells #[.slice (some ⟨g, 0, none⟩) 1 1] 44)) = .ok (.slice ea N ec) w' ∧
      w'.cell? ⟨p, 1, none⟩ = some fv ∧ (∀ j, w'.frozen? ⟨p, j, none⟩ = false) ∧ Kept (fun b => b = p) (w6.alloc (.cells #[.slice (some ⟨g, 0, none⟩) 1 1] 44)) w' ∧ RefAt (more S w (w'.setCell ⟨p, 1, none⟩ (.slice ea N ec))) (w'.setCell ⟨p, 1, none⟩ (.slice ea N ec)) p { D with files := D.files ++ [[b]] } (.slice ea N ec) dv (fs ++ [.slice (some ⟨g, 0, none⟩) 1 1]) ds ∧ Only S w (w'.setCell ⟨p, 1, none⟩ (.slice ea N ec)) := by
  have hT : ∀ b, more S w w6 b → b < w6.heap.size := fun b hb => by
    rcases hb with hb | hb
    · have := hSw b hb; have := ho.size; omega
    · exact hb.2
  have hgl : g < w6.heap.size := (Array.getElem?_eq_some_iff.1 hg).1
  have hnv : StrAt (more S w w6) w6 (.slice (some ⟨g, 0, none⟩) 1 1) [b] := ⟨by show w6.ownsRow 0 _ 1 _ 1 [.string (Num.bs b)]; rw [← hx]; exact own_one hg, fun k e => by cases e; exact .inr ⟨hgb, hgl⟩⟩
  obtain ⟨fv', w', hr, h1, h2, hkp, h3, h4⟩ := H.addFile (T := more S w w6) (fun _ x => .inl x) hT hnv (fun k e hk => by have e : some g = some k := e; cases e; have := hSw _ hk; omega) hl ty
  obtain ⟨ea, ec, rfl⟩ := own_slice h3.files
  obtain ⟨N, hN⟩ : ∃ N, ({ D with files := D.files ++ [[b]] } : Dk).files.length = N := ⟨_, rfl⟩
  rw [hN] at hr h3 h4
  have hz : (w'.setCell ⟨p, 1, none⟩ (.slice ea N ec)).heap.size = w'.heap.size := by simp [World.setCell]
  refine ⟨ea, N, ec, w', by rw [← hN]; simp, hr, h1, h2, hkp, h3.mono (fun b hb => ?_) (fun b hb => ?_), ho.trans' h4⟩
  · have := h4.size
    rw [hz] at this
    rcases hb with (hb | hb) | hb
    · exact .inl hb
    · exact .inr (by omega)
    · have := ho.size; exact .inr (by omega)
  · rcases hb with hb | hb
    · have := hSw b hb; have := ho.size; have := h4.size; omega
    · exact hb.2
theorem ok_addFile {D : Dk} (h : Dsk.Ok D) : Dsk.Ok { D with files := D.files ++ [[[]]] } :=
  ⟨fun r hr => (h.rows r hr).mono (by simp), h.some, fun x hx => by
    rcases List.mem_append.1 hx with hx | hx
    · exact h.hists x hx
    · simp at hx; subst hx; simp, h.left⟩
set_option maxRecDepth 100000 in
set_option maxHeartbeats 600000 in
theorem rcreate_dk {S : Nat → Prop} {w : World} {p : Nat} {D : Dk} {c : Nat} (H : IsRef S w p D c) (n : ByteArray) (hn : n.size ≤ 9223372036854775807) (hc : c + 1 ≤ 10000000) :
    Calls Tryz.prog 22 #[.pointer (some ⟨p, 0, none⟩), .string n] w fun e w' => e = .returned (.int .i64 (Dsk.create n D).2) ∧ RGoes S w w' p (Dsk.create n D).1 (c + 1) := by
  obtain ⟨ok, bud, lim, hfl, fv, dv, fs, ds, H⟩ := H
  obtain ⟨da, dc, rfl⟩ := own_slice H.dirs
  obtain ⟨fa, fc, rfl⟩ := own_slice H.files
  have ok' := Dsk.create_ok n ok
  have bud' := Dsk.bud_create n bud ok
  have lim' := lim_create n lim
  have h1 := ok.left
  have h2 := lim.left
  have h3 := bud.ops
  have hdl := bud.dirs
  have hrl := bud.rows _ (Dsk.dir_mem ok.some)
  have hfil := bud.files
  by_cases h0 : D.left = 0
  · have e : Dsk.create n D = (D, 11) := act_dead h0 _
    rw [e] at ok' bud' lim' ⊢
    have HH := hide H
    have HB := hide bud'
    clear H e bud bud'
    go_enter Tryz.func22, Tryz.ntmps22
    go_wp2_with fail
    refine (rbegin_dead HH.out h0).mono ?_
    rintro e w1 ⟨rfl, hw⟩
    rw [hw]
    go_wp2
    go_ret
    exact ⟨rfl, ((HH.out.wide w).goes (Only.refl _ _) ok' HB.out lim' hfl)⟩
  have e0 : Dsk.create n D = Dsk.createB n (Dsk.on D) := by unfold Dsk.create Dsk.act; rw [if_neg h0]
  rw [e0] at ok' bud' lim' ⊢
  have hnm := rname_any n
  cases hnam : Dsk.isName n with
  | false =>
    have e : Dsk.createB n (Dsk.on D) = (Dsk.on D, 3) := by unfold Dsk.createB; rw [if_pos hnam]
    rw [e] at ok' bud' lim' ⊢
    have HH := hide H
    have HB := hide bud'
    have HK := hide ok'
    have HNM := hide hnm
    have HNA := hide hnam
    clear H e bud bud' e0 ok' hnm hnam
    go_enter Tryz.func22, Tryz.ntmps22
    go_wp2_with fail
    refine (rbegin_on HH.out h0 h1 h2 (by omega)).mono ?_
    rintro e w1 ⟨rfl, hr1, ho1⟩
    have HR1 := hide hr1
    have HO1 := hide ho1
    clear hr1 ho1
    go_wp2_with fail
    refine (HNM.out w1 hn).mono ?_
    rintro e w2 ⟨rfl, hb2⟩
    rw [HNA.out]
    have HR2 := hide (HR1.out.below hb2)
    have HO2 := hide (HO1.out.then_below hb2)
    clear hb2
    have HG := hide ((HR2.out.wide w).goes HO2.out HK.out HB.out lim' hfl)
    go_wp2
    go_ret
    exact ⟨rfl, HG.out⟩
  | true =>
    cases hf : Dsk.find (Dsk.dir D) n with
    | some i =>
      have e : Dsk.createB n (Dsk.on D) = (Dsk.on D, 4) := by unfold Dsk.createB; rw [if_neg (by rw [hnam]; simp), show Dsk.find (Dsk.dir (Dsk.on D)) n = some i from hf]
      rw [e] at ok' bud' lim' ⊢
      have HH := hide H
      have HB := hide bud'
      have HK := hide ok'
      have HNM := hide hnm
      have HNA := hide hnam
      have HF := hide hf
      clear H e bud bud' e0 ok' hnm hnam hf
      go_enter Tryz.func22, Tryz.ntmps22
      go_wp2_with fail
      refine (rbegin_on HH.out h0 h1 h2 (by omega)).mono ?_
      rintro e w1 ⟨rfl, hr1, ho1⟩
      have HR1 := hide hr1
      have HO1 := hide ho1
      clear hr1 ho1
      go_wp2_with fail
      refine (HNM.out w1 hn).mono ?_
      rintro e w2 ⟨rfl, hb2⟩
      rw [HNA.out]
      have HR2 := hide (HR1.out.below hb2)
      have HO2 := hide (HO1.out.then_below hb2)
      clear hb2
      go_wp2_with fail
      refine (rnumber_at HR2.out HK.out (by show D.dirs.length ≤ _; omega) (by show (Dsk.dir D).length ≤ _; omega) n).mono ?_
      rintro e w3 ⟨rfl, hb3⟩
      rw [show Dsk.find (Dsk.dir (Dsk.on D)) n = some i from HF.out, num_some]
      have HG := hide (((HR2.out.below hb3).wide w).goes (HO2.out.then_below hb3) HK.out HB.out lim' hfl)
      clear hb3
      go_wp2
      go_ret
      exact ⟨rfl, HG.out⟩
    | none =>
      have e : Dsk.createB n (Dsk.on D) = ({ Dsk.on D with files := (Dsk.on D).files ++ [[[]]], dirs := (Dsk.on D).dirs ++ [Dsk.without (Dsk.dir (Dsk.on D)) n ++ [(n, (Dsk.on D).files.length)]] }, 0) := by unfold Dsk.createB; rw [if_neg (by rw [hnam]; simp), show Dsk.find (Dsk.dir (Dsk.on D)) n = none from hf]
      rw [e] at ok' bud' lim' ⊢
      have HH := hide H
      have HB := hide bud'
      have HK := hide (Dsk.on_ok ok)
      have HK' := hide ok'
      have HNM := hide hnm
      have HNA := hide hnam
      have HF := hide hf
      clear H e bud bud' e0 ok' hnm hnam hf
      go_enter Tryz.func22, Tryz.ntmps22
      go_wp2_with fail
      refine (rbegin_on HH.out h0 h1 h2 (by omega)).mono ?_
      rintro e w1 ⟨rfl, hr1, ho1⟩
      have HR1 := hide hr1
      have HO1 := hide ho1
      clear hr1 ho1
      go_wp2_with fail
      refine (HNM.out w1 hn).mono ?_
      rintro e w2 ⟨rfl, hb2⟩
      rw [HNA.out]
      have HR2 := hide (HR1.out.below hb2)
      have HO2 := hide (HO1.out.then_below hb2)
      clear hb2
      go_wp2_with fail
      refine (rnumber_at HR2.out HK.out (by show D.dirs.length ≤ _; omega) (by show (Dsk.dir D).length ≤ _; omega) n).mono ?_
      rintro e w3 ⟨rfl, hb3⟩
      rw [show Dsk.find (Dsk.dir (Dsk.on D)) n = none from HF.out]
      have hnn : numV none < 0 := by decide
      have HR3 := hide (HR2.out.below hb3)
      have HO3 := hide (HO2.out.then_below hb3)
      clear hb3
      have hk3 := HR3.out.look
      obtain ⟨_, k1, _, _, _, _, kf3, hpl3⟩ := hk3
      have HLs := hide HH.out.lt
      have b34 : Below w3.heap.size w3 (w3.alloc (.cells #[.string ⟨#[]⟩] 9)) := (Below.refl _ w3).alloc (Nat.le_refl _) _
      have hg34 := heap_new w3 (.cells #[.string ⟨#[]⟩] 9)
      have HR34 := hide (HR3.out.below b34)
      have HO34 := hide (HO3.out.then_below b34)
      obtain ⟨w34, hw34⟩ : ∃ W, w3.alloc (.cells #[.string ⟨#[]⟩] 9) = W := ⟨_, rfl⟩
      rw [hw34] at HR34 HO34 hg34
      obtain ⟨fa7, N, fc7, wC, hN, hrC, kC, fC, _, hC, oC⟩ := file_add HR34.out HO34.out HLs.out HO3.out.size (b := []) rfl hg34 (by show D.files.length ≤ _; omega) 51
      obtain ⟨gS, hgS⟩ : ∃ gS, w3.heap.size = gS := ⟨_, rfl⟩
      rw [← hw34, World.size_alloc, hgS] at hrC
      rw [hgS] at hC
      clear hw34
      have HRC := hide hrC
      obtain ⟨wB, hwB⟩ : ∃ W, wC.setCell ⟨p, 1, none⟩ (.slice fa7 N fc7) = W := ⟨_, rfl⟩
      rw [hwB] at hC oC
      obtain ⟨S1, hS1⟩ : ∃ S1, more S w wB = S1 := ⟨_, rfl⟩
      rw [hS1] at hC
      have HRB := hide hC
      have HL1 := hide hC.lt
      have HK1 := hide (ok_addFile HK.out)
      obtain ⟨F, hF⟩ : ∃ F, D.files.length = F := ⟨_, rfl⟩
      have hNF : N = F + 1 := by rw [hN, ← hF]; rfl
      have hfin : ∀ (W : World) (fv dv : Value) (fs ds : List Value), RefAt (more S1 wB W) W p { { Dsk.on D with files := (Dsk.on D).files ++ [[[]]] } with dirs := (Dsk.on D).dirs ++ [Dsk.without (Dsk.dir (Dsk.on D)) n ++ [(n, F)]] } fv dv fs ds → Only S1 wB W →
          RGoes S w W p { Dsk.on D with files := (Dsk.on D).files ++ [[[]]], dirs := (Dsk.on D).dirs ++ [Dsk.without (Dsk.dir (Dsk.on D)) n ++ [(n, (Dsk.on D).files.length)]] } (c + 1) := fun W fv dv fs ds h o => by
        subst hS1
        subst hF
        refine ⟨⟨HK'.out, HB.out, lim', hfl, fv, dv, fs, ds, h.mono (fun b hb => more_trans oC.size o.size hb) (fun b hb => ?_)⟩, oC.trans o⟩
        rcases hb with x | x
        · have := HLs.out b x; have := oC.size; have := o.size; omega
        · exact x.2
      have HFIN := hide hfin
      have HOC := hide oC
      have hwr : IntKind.i64.wrap ((N : Int) - 1) = (F : Int) := by rw [IntKind.wrap_i64]; omega
      clear hN hC oC hfin hrC hF hS1 hNF
      go_wp2_with (at_builtin; refine wpList_app_run rfl _ _ _ _ rfl rfl rfl HRC.out ?_)
      refine wp_region_growF (fun b => b = p) 17 _ [([0, 1, 2, 3, 4, 5, 7, 9, 10, 11, 12, 13, 14, 15, 16], 6), ([], 8)] [([], 18), ([], 19), ([], 20)] [21, 22] [23] rfl (by kernel_rfl) (by kernel_rfl) (by kernel_rfl) (by kernel_rfl) ?_
      intro w4 hb4
      simp only [stagesOfK, getLK, pickLK]
      have HR4 := hide (HRB.out.below hb4)
      have HO4 : Hid (Only S1 wB w4) := hide (Only.of_below hb4)
      obtain ⟨_, k1, k2, _, _, _, _, hpl⟩ := HR4.out.look
      have inh : Nonempty (GrK (fun b => b = p) w4) := GrK.some _ w4
      have q1 := fun x : GrK (fun b => b = p) w4 => x.cell (a := ⟨p, 1, none⟩) rfl k1
      have q2 := fun x : GrK (fun b => b = p) w4 => x.cell (a := ⟨p, 2, none⟩) rfl k2
      refine wpF_stage ?_
      repeat (go_big_quiet_step (fail))
      refine wpQuiet_nil ?_
      clear q1 q2 inh hb4
      refine ⟨?_, ?_⟩
      · go_wp2_with fail
        refine (rdir_at HR4.out HK1.out (by show D.dirs.length ≤ _; omega)).mono ?_
        rintro e w14 ⟨v, rfl, hv, _, hb⟩
        have HR14 := hide (HR4.out.below hb)
        have HO14 := hide (HO4.out.then_below hb)
        have HV14 := hide (hv.keep (T := S1) (w' := w14) (fun _ x => x) (fun g e => hb.block g (HR4.out.lt g (hv.2 g e)))).1
        obtain ⟨va14, vc14, rfl⟩ := own_slice hv.1
        go_wp2
        refine OnToF.mk (Kept.of_below hb (fun b e => by subst e; exact HR4.out.lt b HR4.out.sp)) (Sub.refl _) ?_
        clear hb hv
        refine wpF_stage (wpQuiet_nil ⟨?_, ?_⟩)
        · go_wp2_with fail
          refine (rwithout_at HV14.out (by show (Dsk.dir D).length ≤ _; omega) n).mono ?_
          rintro e w15 ⟨v', rfl, hv', hb⟩
          have HR15 := hide (HR14.out.below hb)
          have HO15 := hide (HO14.out.then_below hb)
          have HV15 := hide hv'
          obtain ⟨va15, vc15, rfl⟩ := own_slice hv'
          go_wp2
          refine OnToF.mk (Kept.of_below hb (fun b e => by subst e; exact HR14.out.lt b HR14.out.sp)) (Sub.refl _) ?_
          have hz15 := HO14.out.size
          have hz9 := hb.size
          clear hb hv'
          refine wpF_last ?_
          refine wpG_stageK (wpQuiet_nil ?_)
          have b16 : Below w15.heap.size w15 (w15.alloc (.cells #[.string n, .int .i64 (F : Int)] 77)) := (Below.refl _ w15).alloc (Nat.le_refl _) _
          obtain ⟨g0, g1⟩ := cells_pair w15 (.string n) (.int .i64 (F : Int)) 77
          have HR16 := hide (HR15.out.below b16)
          have HO16 := hide (HO15.out.then_below b16)
          have HV16 := hide (HV15.out.alloc (.cells #[.string n, .int .i64 (F : Int)] 77))
          go_wp2
          refine OnToK.mk (Kept.of_below b16 (fun b e => by subst e; exact HR15.out.lt b HR15.out.sp)) (Sub.refl _) ?_
          have hz8 : w15.heap.size ≤ (w15.alloc (.cells #[.string n, .int .i64 (F : Int)] 77)).heap.size := by simp
          have hgN : w15.heap.size < (w15.alloc (.cells #[.string n, .int .i64 (F : Int)] 77)).heap.size := by simp
          obtain ⟨w16, hw16⟩ : ∃ W, w15.alloc (.cells #[.string n, .int .i64 (F : Int)] 77) = W := ⟨_, rfl⟩
          obtain ⟨gN, hgE⟩ : ∃ gN, w15.heap.size = gN := ⟨_, rfl⟩
          rw [hw16] at hz8 g0 g1 HR16 HO16 hgN HV16 ⊢
          rw [hgE] at g0 g1 hgN ⊢
          clear b16 hw16 hgE
          have hbz : w14.heap.size ≤ w16.heap.size := by first | exact Nat.le_refl _ | (have h9 := HV16.out; omega)
          have hwz : wB.heap.size ≤ w14.heap.size := by omega
          refine wpG_stageK (wpQuiet_nil ?_)
          obtain ⟨ea, M, ec, wA, hr, hv, hb⟩ := nmd_app2 HV16.out g0 g1 (by exact Nat.le_trans (List.length_filter_le _ _) (by show (Dsk.dir D).length ≤ _; omega)) hbz 75
          have hwS : ∀ b, S1 b → b < w14.heap.size := fun b hx => by have := HL1.out b hx; omega
          have HRA := hide (HR16.out.keep hb.size (fun b hx => hb.block b (hwS b hx)))
          have HOA : Hid (Only S1 wB wA) := hide ⟨hb.os.trans HO16.out.os, hb.tape.trans HO16.out.tape, hb.output.trans HO16.out.output, Nat.le_trans HO16.out.size hb.size, fun b h1 h2 => (hb.block b (by omega)).trans (HO16.out.block b h1 h2)⟩
          have HVA := hide hv
          have HRR := hide hr
          have hpw : p < w14.heap.size := hwS p HR16.out.sp
          clear hr hv
          go_wp2_with (at_builtin; refine wpList_app_run rfl _ _ _ _ rfl rfl rfl HRR.out ?_)
          refine OnToK.mk (Kept.of_below hb (fun b e => by subst e; exact hpw)) (Sub.refl _) ?_
          have hpA := Nat.lt_of_lt_of_le hpw (Nat.le_trans hbz hb.size)
          have hbA := Nat.le_trans hbz hb.size
          clear hb
          refine wpG_stageK (wpQuiet_nil ?_)
          go_wp2
          refine OnToK.mk (Kept.of_below ((Below.refl _ wA).alloc (Nat.le_refl _) _) (fun b e => by subst e; exact hpA)) (Sub.refl _) ?_
          obtain ⟨ea7, N7, ec7, w7, hr7, k7, f7, kp7, h7, o7⟩ := dir_add HRA.out HOA.out HL1.out HVA.out (by omega) (by show D.dirs.length ≤ _; omega) 50
          have HR7 := hide hr7
          have HG := hide (HFIN.out _ _ _ _ _ h7 o7)
          clear hr7 h7 o7
          refine wpG_stageK (wpQuiet_nil ?_)
          go_wp2_with (at_builtin; refine wpList_app_run rfl _ _ _ _ rfl rfl rfl HR7.out ?_)
          refine OnToK.mk kp7 (Sub.refl _) ?_
          have inh : Nonempty (GrK (fun b => b = p) w7) := GrK.some _ w7
          refine wpG_lastK ?_
          repeat (go_big_quiet_step (fail))
          refine wpQuiet_nil ?_
          clear inh kp7
          go_wp2
          go_ret
          exact ⟨rfl, HG.out⟩
        · have b17 : Below w14.heap.size w14 (w14.alloc (.cells #[.string n, .int .i64 (F : Int)] 77)) := (Below.refl _ w14).alloc (Nat.le_refl _) _
          obtain ⟨g0, g1⟩ := cells_pair w14 (.string n) (.int .i64 (F : Int)) 77
          have HR17 := hide (HR14.out.below b17)
          have HO17 := hide (HO14.out.then_below b17)
          have HV17 := hide (HV14.out.alloc (.cells #[.string n, .int .i64 (F : Int)] 77))
          go_wp2
          refine OnToK.mk (Kept.of_below b17 (fun b e => by subst e; exact HR14.out.lt b HR14.out.sp)) (Sub.refl _) ?_
          have hz8 : w14.heap.size ≤ (w14.alloc (.cells #[.string n, .int .i64 (F : Int)] 77)).heap.size := by simp
          have hgN : w14.heap.size < (w14.alloc (.cells #[.string n, .int .i64 (F : Int)] 77)).heap.size := by simp
          obtain ⟨w17, hw17⟩ : ∃ W, w14.alloc (.cells #[.string n, .int .i64 (F : Int)] 77) = W := ⟨_, rfl⟩
          obtain ⟨gN, hgE⟩ : ∃ gN, w14.heap.size = gN := ⟨_, rfl⟩
          rw [hw17] at hz8 g0 g1 HR17 HO17 hgN HV17 ⊢
          rw [hgE] at g0 g1 hgN ⊢
          clear b17 hw17 hgE
          refine wpG_stageK (wpQuiet_nil ?_)
          go_wp2_with fail
          refine (rwithout_at HV17.out (by show (Dsk.dir D).length ≤ _; omega) n).mono ?_
          rintro e w18 ⟨v', rfl, hv', hb⟩
          have HR18 := hide (HR17.out.below hb)
          have HO18 := hide (HO17.out.then_below hb)
          have HV18 := hide hv'
          obtain ⟨va18, vc18, rfl⟩ := own_slice hv'
          have g0 := (hb.cell (p := ⟨gN, 0, none⟩) hgN).trans g0
          have g1 := (hb.cell (p := ⟨gN, 1, none⟩) hgN).trans g1
          have hgN := Nat.lt_of_lt_of_le hgN hb.size
          go_wp2
          refine OnToK.mk (Kept.of_below hb (fun b e => by subst e; exact HR17.out.lt b HR17.out.sp)) (Sub.refl _) ?_
          have hz18 := HO17.out.size
          have hz9 := hb.size
          clear hb hv'
          have hbz : w17.heap.size ≤ w18.heap.size := by first | exact Nat.le_refl _ | (have h9 := HV18.out; omega)
          have hwz : wB.heap.size ≤ w17.heap.size := by omega
          refine wpG_stageK (wpQuiet_nil ?_)
          obtain ⟨ea, M, ec, wA, hr, hv, hb⟩ := nmd_app2 HV18.out g0 g1 (by exact Nat.le_trans (List.length_filter_le _ _) (by show (Dsk.dir D).length ≤ _; omega)) hbz 75
          have hwS : ∀ b, S1 b → b < w17.heap.size := fun b hx => by have := HL1.out b hx; omega
          have HRA := hide (HR18.out.keep hb.size (fun b hx => hb.block b (hwS b hx)))
          have HOA : Hid (Only S1 wB wA) := hide ⟨hb.os.trans HO18.out.os, hb.tape.trans HO18.out.tape, hb.output.trans HO18.out.output, Nat.le_trans HO18.out.size hb.size, fun b h1 h2 => (hb.block b (by omega)).trans (HO18.out.block b h1 h2)⟩
          have HVA := hide hv
          have HRR := hide hr
          have hpw : p < w17.heap.size := hwS p HR18.out.sp
          clear hr hv
          go_wp2_with (at_builtin; refine wpList_app_run rfl _ _ _ _ rfl rfl rfl HRR.out ?_)
          refine OnToK.mk (Kept.of_below hb (fun b e => by subst e; exact hpw)) (Sub.refl _) ?_
          have hpA := Nat.lt_of_lt_of_le hpw (Nat.le_trans hbz hb.size)
          have hbA := Nat.le_trans hbz hb.size
          clear hb
          refine wpG_stageK (wpQuiet_nil ?_)
          go_wp2
          refine OnToK.mk (Kept.of_below ((Below.refl _ wA).alloc (Nat.le_refl _) _) (fun b e => by subst e; exact hpA)) (Sub.refl _) ?_
          obtain ⟨ea7, N7, ec7, w7, hr7, k7, f7, kp7, h7, o7⟩ := dir_add HRA.out HOA.out HL1.out HVA.out (by omega) (by show D.dirs.length ≤ _; omega) 50
          have HR7 := hide hr7
          have HG := hide (HFIN.out _ _ _ _ _ h7 o7)
          clear hr7 h7 o7
          refine wpG_stageK (wpQuiet_nil ?_)
          go_wp2_with (at_builtin; refine wpList_app_run rfl _ _ _ _ rfl rfl rfl HR7.out ?_)
          refine OnToK.mk kp7 (Sub.refl _) ?_
          have inh : Nonempty (GrK (fun b => b = p) w7) := GrK.some _ w7
          refine wpG_lastK ?_
          repeat (go_big_quiet_step (fail))
          refine wpQuiet_nil ?_
          clear inh kp7
          go_wp2
          go_ret
          exact ⟨rfl, HG.out⟩
      · have b11 : Below w4.heap.size w4 (w4.alloc (.cells #[.string n, .int .i64 (F : Int)] 77)) := (Below.refl _ w4).alloc (Nat.le_refl _) _
        obtain ⟨g0, g1⟩ := cells_pair w4 (.string n) (.int .i64 (F : Int)) 77
        have HR11 := hide (HR4.out.below b11)
        have HO11 := hide (HO4.out.then_below b11)
        go_wp2
        refine OnToK.mk (Kept.of_below b11 (fun b e => by subst e; exact HR4.out.lt b HR4.out.sp)) (Sub.refl _) ?_
        have hz8 : w4.heap.size ≤ (w4.alloc (.cells #[.string n, .int .i64 (F : Int)] 77)).heap.size := by simp
        have hgN : w4.heap.size < (w4.alloc (.cells #[.string n, .int .i64 (F : Int)] 77)).heap.size := by simp
        obtain ⟨w11, hw11⟩ : ∃ W, w4.alloc (.cells #[.string n, .int .i64 (F : Int)] 77) = W := ⟨_, rfl⟩
        obtain ⟨gN, hgE⟩ : ∃ gN, w4.heap.size = gN := ⟨_, rfl⟩
        rw [hw11] at hz8 g0 g1 HR11 HO11 hgN ⊢
        rw [hgE] at g0 g1 hgN ⊢
        clear b11 hw11 hgE
        refine wpG_stageK (wpQuiet_nil ?_)
        go_wp2_with fail
        refine (rdir_at HR11.out HK1.out (by show D.dirs.length ≤ _; omega)).mono ?_
        rintro e w12 ⟨v, rfl, hv, _, hb⟩
        have HR12 := hide (HR11.out.below hb)
        have HO12 := hide (HO11.out.then_below hb)
        have HV12 := hide (hv.keep (T := S1) (w' := w12) (fun _ x => x) (fun g e => hb.block g (HR11.out.lt g (hv.2 g e)))).1
        obtain ⟨va12, vc12, rfl⟩ := own_slice hv.1
        have g0 := (hb.cell (p := ⟨gN, 0, none⟩) hgN).trans g0
        have g1 := (hb.cell (p := ⟨gN, 1, none⟩) hgN).trans g1
        have hgN := Nat.lt_of_lt_of_le hgN hb.size
        go_wp2
        refine OnToK.mk (Kept.of_below hb (fun b e => by subst e; exact HR11.out.lt b HR11.out.sp)) (Sub.refl _) ?_
        clear hb hv
        refine wpG_stageK (wpQuiet_nil ?_)
        go_wp2_with fail
        refine (rwithout_at HV12.out (by show (Dsk.dir D).length ≤ _; omega) n).mono ?_
        rintro e w13 ⟨v', rfl, hv', hb⟩
        have HR13 := hide (HR12.out.below hb)
        have HO13 := hide (HO12.out.then_below hb)
        have HV13 := hide hv'
        obtain ⟨va13, vc13, rfl⟩ := own_slice hv'
        have g0 := (hb.cell (p := ⟨gN, 0, none⟩) hgN).trans g0
        have g1 := (hb.cell (p := ⟨gN, 1, none⟩) hgN).trans g1
        have hgN := Nat.lt_of_lt_of_le hgN hb.size
        go_wp2
        refine OnToK.mk (Kept.of_below hb (fun b e => by subst e; exact HR12.out.lt b HR12.out.sp)) (Sub.refl _) ?_
        have hz13 := HO12.out.size
        have hz9 := hb.size
        clear hb hv'
        have hbz : w12.heap.size ≤ w13.heap.size := by first | exact Nat.le_refl _ | (have h9 := HV13.out; omega)
        have hwz : wB.heap.size ≤ w12.heap.size := by omega
        refine wpG_stageK (wpQuiet_nil ?_)
        obtain ⟨ea, M, ec, wA, hr, hv, hb⟩ := nmd_app2 HV13.out g0 g1 (by exact Nat.le_trans (List.length_filter_le _ _) (by show (Dsk.dir D).length ≤ _; omega)) hbz 75
        have hwS : ∀ b, S1 b → b < w12.heap.size := fun b hx => by have := HL1.out b hx; omega
        have HRA := hide (HR13.out.keep hb.size (fun b hx => hb.block b (hwS b hx)))
        have HOA : Hid (Only S1 wB wA) := hide ⟨hb.os.trans HO13.out.os, hb.tape.trans HO13.out.tape, hb.output.trans HO13.out.output, Nat.le_trans HO13.out.size hb.size, fun b h1 h2 => (hb.block b (by omega)).trans (HO13.out.block b h1 h2)⟩
        have HVA := hide hv
        have HRR := hide hr
        have hpw : p < w12.heap.size := hwS p HR13.out.sp
        clear hr hv
        go_wp2_with (at_builtin; refine wpList_app_run rfl _ _ _ _ rfl rfl rfl HRR.out ?_)
        refine OnToK.mk (Kept.of_below hb (fun b e => by subst e; exact hpw)) (Sub.refl _) ?_
        have hpA := Nat.lt_of_lt_of_le hpw (Nat.le_trans hbz hb.size)
        have hbA := Nat.le_trans hbz hb.size
        clear hb
        refine wpG_stageK (wpQuiet_nil ?_)
        go_wp2
        refine OnToK.mk (Kept.of_below ((Below.refl _ wA).alloc (Nat.le_refl _) _) (fun b e => by subst e; exact hpA)) (Sub.refl _) ?_
        obtain ⟨ea7, N7, ec7, w7, hr7, k7, f7, kp7, h7, o7⟩ := dir_add HRA.out HOA.out HL1.out HVA.out (by omega) (by show D.dirs.length ≤ _; omega) 50
        have HR7 := hide hr7
        have HG := hide (HFIN.out _ _ _ _ _ h7 o7)
        clear hr7 h7 o7
        refine wpG_stageK (wpQuiet_nil ?_)
        go_wp2_with (at_builtin; refine wpList_app_run rfl _ _ _ _ rfl rfl rfl HR7.out ?_)
        refine OnToK.mk kp7 (Sub.refl _) ?_
        have inh : Nonempty (GrK (fun b => b = p) w7) := GrK.some _ w7
        refine wpG_lastK ?_
        repeat (go_big_quiet_step (fail))
        refine wpQuiet_nil ?_
        clear inh kp7
        go_wp2
        go_ret
        exact ⟨rfl, HG.out⟩

end Go.Proofs.YtleomppgkikhnaaGreat
namespace Go.Proofs.YtleomppgkikhnaaGreat
open Go.RowKit
open Dsk (By Dk)

theorem strsV_snoc (l : List By) (x : By) : strsV (l ++ [x]) = strsV l ++ [.string (Num.bs x)] := by simp [strsV]
/-- 'd.Files[n] = append(d.Files[n], x)', behind w. -/
theorem RefAt.appRow {S : Nat → Prop} {w w6 : World} {p : Nat} {D : Dk} {dv : Value} {fs ds : List Value} {gf cf L : Nat} (hL : L = D.files.length) (H : RefAt S w6 p D (.slice (some ⟨gf, 0, none⟩) L cf) dv fs ds) (ho : Only S w w6) (hSw : ∀ b, S b → b < w.heap.size) {n : Nat} (hn : n < D.files.length) {v : Value} (hold : fs[n]? = some v) (x : By) {s : ByteArray} (hs : Num.bs x = s) (hh : (Dsk.hist D n).length ≤ 1000000000000) (ty : TypeId) :
    ∃ (ea : Option Addr) (N ec : Nat) (w' : World), (Builtin.append_ #[44, 44] ty #[v, .slice (some ⟨w6.heap.size, 0, none⟩) 1 1]).run Tryz.prog (w6.alloc (.cells #[.string s] 9)) = .ok (.slice ea N ec) w' ∧
      w'.cell? ⟨p, 1, none⟩ = some (.slice (some ⟨gf, 0, none⟩) L cf) ∧ w'.cell? ⟨gf, n, none⟩ = some v ∧ (∀ j, w'.frozen? ⟨gf, j, none⟩ = false) ∧ Kept (fun b => b = p ∨ b = gf) (w6.alloc (.cells #[.string s] 9)) w' ∧
      RefAt (more S w (w'.setCell ⟨gf, n, none⟩ (.slice ea N ec))) (w'.setCell ⟨gf, n, none⟩ (.slice ea N ec)) p { D with files := D.files.set n (Dsk.hist D n ++ [x]) } (.slice (some ⟨gf, 0, none⟩) L cf) dv (fs.set n (.slice ea N ec)) ds ∧ Only S w (w'.setCell ⟨gf, n, none⟩ (.slice ea N ec)) := by
  subst hs hL
  obtain ⟨v0, e0, hvS⟩ := H.hist hn
  rw [hold] at e0
  cases e0
  obtain ⟨ti, hi, hz, hsz, hby⟩ := str_info
  obtain ⟨v', w', hr, hrow, hg, hob⟩ := app_own (w6.alloc (.cells #[.string (Num.bs x)] 9)) 0 44 ty 9 ti _ 1 16 ustrs hi hz hsz hby rfl (by decide) v (Dsk.hist D n).length (strsV (Dsk.hist D n)) (hvS.1.alloc _) ⟨w6.heap.size, 0, none⟩ 1 1
    [.string (Num.bs x)] rfl (one_new _ _ _) (fun u hu => by simp at hu; subst hu; rfl) (by unfold maxLen; omega) (by omega) (Nat.zero_le _)
  have hrow : w'.ownsRow 0 9 1 v' (Dsk.hist D n ++ [x]).length (strsV (Dsk.hist D n ++ [x])) := by
    rw [strsV_snoc, List.length_append]
    exact hrow
  obtain ⟨ea, ec, rfl⟩ := own_slice hrow
  obtain ⟨N, hN⟩ : ∃ N, (Dsk.hist D n ++ [x]).length = N := ⟨_, rfl⟩
  have hwsz : w6.heap.size + 1 ≤ w'.heap.size := by have := hg.size; simpa using this
  have keep1 : ∀ b, b < w6.heap.size → v.ownBlock ≠ some b → w'.heap[b]? = w6.heap[b]? := fun b hb hx => by
    rw [hg.block b (by simp; omega) (fun e => hx e.symm), Below.heap_alloc _ _ b hb]
  have hnewb : ∀ g, (Value.slice ea (Dsk.hist D n ++ [x]).length ec).ownBlock = some g → v.ownBlock = some g ∨ w6.heap.size < g := fun g e => by
    rcases hob with y | y
    · rw [y] at e; exact .inl e
    · rw [y] at e; cases e; exact .inr (by simp)
  have hT : ∀ b, more S w w' b → b < w'.heap.size := fun b hb => by
    rcases hb with hb | hb
    · have := hSw b hb; have := ho.size; omega
    · exact hb.2
  have hst : StrAt (more S w w') w' (.slice ea (Dsk.hist D n ++ [x]).length ec) (Dsk.hist D n ++ [x]) := ⟨hrow, fun g e => by
    rcases hnewb g e with y | y
    · exact .inl (hvS.2 g y)
    · have := ho.size; exact .inr ⟨by omega, own_lt hrow e⟩⟩
  have hset := H.setRow (T := more S w w') hn hold (fun b hb hx => keep1 b (H.lt b hb) hx) (fun b hb => .inl hb) hT hst (by
    rcases hob with y | y
    · exact .inl y
    · exact .inr (fun g e hS => by rw [y] at e; cases e; have := H.lt _ hS; simp at this; omega))
  have hgf := own_kind H.files (g := gf) rfl
  obtain ⟨cu, hgf⟩ := hgf
  have vne : ∀ {b : Nat} {c : Array Value} {u : TypeId}, w6.heap[b]? = some (.cells c u (0, 0)) → u ≠ 9 → v.ownBlock ≠ some b := fun hc hu e => by
    obtain ⟨c', hc'⟩ := own_kind hvS.1 e
    exact kind_ne hc hc' hu rfl
  have kp := keep1 p (H.lt p H.sp) (vne H.blk (by decide))
  have kg := keep1 gf (H.lt gf (H.sf gf rfl)) (vne hgf (by decide))
  have hcell : w'.cell? ⟨gf, n, none⟩ = some v := by
    rw [World.cell?_of_block (w := w6) (a := ⟨gf, n, none⟩) kg]
    have := H.files.cells (g := gf) rfl n v hold
    rw [Addr.add_lit, Nat.zero_add] at this
    exact this
  have hz2 : (w'.setCell ⟨gf, n, none⟩ (.slice ea (Dsk.hist D n ++ [x]).length ec)).heap.size = w'.heap.size := by simp [World.setCell]
  have o1 : Only S w6 w' := ⟨hg.os, hg.tape, hg.output, by omega, fun b hb hx => keep1 b hb (fun e => hx (hvS.2 b e))⟩
  rw [hN] at hr hset hz2
  refine ⟨ea, N, ec, w', hr, cell_of (kp.trans H.blk) 1 rfl, hcell, frozen_of (kg.trans hgf), ⟨hg.os, hg.tape, hg.output, hg.size, fun b e => ?_⟩, hset.mono (fun b hb => ?_) (fun b hb => ?_), (ho.trans' o1).setCell (p := ⟨gf, n, none⟩) (H.sf gf rfl) _⟩
  · rcases e with rfl | rfl
    · rw [Below.heap_alloc _ _ b (H.lt b H.sp)]; exact kp
    · rw [Below.heap_alloc _ _ b (H.lt b (H.sf b rfl))]; exact kg
  · rcases hb with hb | hb
    · exact .inl hb
    · exact .inr (by rw [hz2]; exact hb)
  · rw [hz2]
    exact hT b (by rcases hb with hb | hb; exact .inl hb; exact .inr (by rw [hz2] at hb; exact hb))

theorem RefAt.oneRow {S : Nat → Prop} {w w6 : World} {p : Nat} {D : Dk} {dv : Value} {fs ds : List Value} {gf cf L : Nat} (hL : L = D.files.length) (H : RefAt S w6 p D (.slice (some ⟨gf, 0, none⟩) L cf) dv fs ds) (ho : Only S w w6) (hSw : ∀ b, S b → b < w.heap.size) {n : Nat} (hn : n < D.files.length) {v : Value} (hold : fs[n]? = some v) (x : By) {s : ByteArray} (hs : Num.bs x = s) :
    RefAt (more S w ((w6.alloc (.cells #[.string s] 9)).setCell ⟨gf, n, none⟩ (.slice (some ⟨w6.heap.size, 0, none⟩) 1 1))) ((w6.alloc (.cells #[.string s] 9)).setCell ⟨gf, n, none⟩ (.slice (some ⟨w6.heap.size, 0, none⟩) 1 1)) p { D with files := D.files.set n [x] } (.slice (some ⟨gf, 0, none⟩) L cf) dv (fs.set n (.slice (some ⟨w6.heap.size, 0, none⟩) 1 1)) ds ∧
      Only S w ((w6.alloc (.cells #[.string s] 9)).setCell ⟨gf, n, none⟩ (.slice (some ⟨w6.heap.size, 0, none⟩) 1 1)) := by
  subst hs hL
  have hT : ∀ b, more S w (w6.alloc (.cells #[.string (Num.bs x)] 9)) b → b < (w6.alloc (.cells #[.string (Num.bs x)] 9)).heap.size := fun b hb => by
    rcases hb with hb | hb
    · have := hSw b hb; have := ho.size; simp; omega
    · exact hb.2
  have hst : StrAt (more S w (w6.alloc (.cells #[.string (Num.bs x)] 9))) (w6.alloc (.cells #[.string (Num.bs x)] 9)) (.slice (some ⟨w6.heap.size, 0, none⟩) 1 1) [x] := ⟨own_one (heap_new _ _), fun g e => by
    have e : some w6.heap.size = some g := e
    cases e
    exact .inr ⟨ho.size, by simp⟩⟩
  have hset := H.setRow (T := more S w (w6.alloc (.cells #[.string (Num.bs x)] 9))) hn hold (fun b hb _ => Below.heap_alloc _ _ b (H.lt b hb)) (fun b hb => .inl hb) hT hst (.inr (fun g e hS => by
    have e : some w6.heap.size = some g := e
    cases e
    have := H.lt _ hS
    omega))
  have hz2 : ((w6.alloc (.cells #[.string (Num.bs x)] 9)).setCell ⟨gf, n, none⟩ (.slice (some ⟨w6.heap.size, 0, none⟩) 1 1)).heap.size = (w6.alloc (.cells #[.string (Num.bs x)] 9)).heap.size := by simp [World.setCell]
  refine ⟨hset.mono (fun b hb => ?_) (fun b hb => ?_), ((ho.then_below ((Below.refl _ w6).alloc (Nat.le_refl _) _))).setCell (p := ⟨gf, n, none⟩) (H.sf gf rfl) _⟩
  · rcases hb with hb | hb
    · exact .inl hb
    · exact .inr (by rw [hz2]; exact hb)
  · rw [hz2]
    exact hT b (by rcases hb with hb | hb; exact .inl hb; exact .inr (by rw [hz2] at hb; exact hb))
set_option maxRecDepth 100000 in
set_option maxHeartbeats 600000 in
theorem rsync_dk {S : Nat → Prop} {w : World} {p : Nat} {D : Dk} {c : Nat} (H : IsRef S w p D c) (n : ByteArray) (hc : c + 1 ≤ 10000000) :
    Calls Tryz.prog 51 #[.pointer (some ⟨p, 0, none⟩), .string n] w fun e w' => e = .returned (.int .i64 (Dsk.sync n D).2) ∧ RGoes S w w' p (Dsk.sync n D).1 (c + 1) := by
  obtain ⟨ok, bud, lim, hfl, fv, dv, fs, ds, H⟩ := H
  obtain ⟨da, dc, rfl⟩ := own_slice H.dirs
  obtain ⟨fa, fc, rfl⟩ := own_slice H.files
  have ok' := Dsk.sync_ok n ok
  have bud' := Dsk.bud_sync n bud ok
  have lim' := lim_sync n lim
  have h1 := ok.left
  have h2 := lim.left
  have h3 := bud.ops
  have hdl := bud.dirs
  have hrl := bud.rows _ (Dsk.dir_mem ok.some)
  have hfil := bud.files
  by_cases h0 : D.left = 0
  · have e : Dsk.sync n D = (D, 11) := act_dead h0 _
    rw [e] at ok' bud' lim' ⊢
    have HH := hide H
    have HB := hide bud'
    clear H e bud bud'
    go_enter Tryz.func51, Tryz.ntmps51
    go_wp2_with fail
    refine (rbegin_dead HH.out h0).mono ?_
    rintro e w1 ⟨rfl, hw⟩
    rw [hw]
    go_wp2
    go_ret
    exact ⟨rfl, ((HH.out.wide w).goes (Only.refl _ _) ok' HB.out lim' hfl)⟩
  have e0 : Dsk.sync n D = Dsk.syncB n (Dsk.on D) := by unfold Dsk.sync Dsk.act; rw [if_neg h0]
  rw [e0] at ok' bud' lim' ⊢
  cases hf : Dsk.find (Dsk.dir D) n with
  | none =>
    have e : Dsk.syncB n (Dsk.on D) = (Dsk.on D, 5) := by unfold Dsk.syncB; rw [show Dsk.find (Dsk.dir (Dsk.on D)) n = none from hf]
    rw [e] at ok' bud' lim' ⊢
    have HH := hide H
    have HB := hide bud'
    have HF := hide hf
    have HK := hide ok'
    clear H e bud bud' hf e0 ok'
    go_enter Tryz.func51, Tryz.ntmps51
    go_wp2_with fail
    refine (rbegin_on HH.out h0 h1 h2 (by omega)).mono ?_
    rintro e w1 ⟨rfl, hr1, ho1⟩
    have HR1 := hide hr1
    have HO1 := hide ho1
    clear hr1 ho1
    go_wp2_with fail
    refine (rnumber_at HR1.out HK.out (by show D.dirs.length ≤ _; omega) (by show (Dsk.dir D).length ≤ _; omega) n).mono ?_
    rintro e w2 ⟨rfl, hb2⟩
    rw [show Dsk.find (Dsk.dir (Dsk.on D)) n = none from HF.out]
    have hnn : numV none < 0 := by decide
    have HG := hide (((HR1.out.below hb2).wide w).goes (HO1.out.then_below hb2) HK.out HB.out lim' hfl)
    clear hb2
    go_wp2
    go_ret
    exact ⟨rfl, HG.out⟩
  | some i =>
    have hil := Dsk.find_lt ok hf
    have hhs := bud.hists _ (Dsk.hist_mem hil)
    obtain ⟨gf, cf', hfv, _, _, _, _⟩ := own_view H.files (by omega)
    simp only [Value.slice.injEq] at hfv
    obtain ⟨rfl, _, rfl⟩ := hfv
    by_cases hbad : D.fail = 1
    · have e : Dsk.syncB n (Dsk.on D) = ({ Dsk.on D with fail := (Dsk.on D).fail - 1 }, 10) := by
        unfold Dsk.syncB
        rw [show Dsk.find (Dsk.dir (Dsk.on D)) n = some i from hf]
        simp only
        rw [if_pos (show (Dsk.on D).fail = 1 from hbad), show (Dsk.on D).fail - 1 = 0 from by rw [show (Dsk.on D).fail = 1 from hbad]]
      rw [e] at ok' bud' lim' ⊢
      have HDF : Hid (decide ((Dsk.on D).fail = 1) = true) := hide (decide_eq_true hbad)
      have HH := hide H
      have HB := hide bud'
      have HF := hide hf
      have HK := hide (Dsk.on_ok ok)
      have HK' := hide ok'
      clear H e bud bud' hf e0 ok'
      go_enter Tryz.func51, Tryz.ntmps51
      go_wp2_with fail
      refine (rbegin_on HH.out h0 h1 h2 (by omega)).mono ?_
      rintro e w1 ⟨rfl, hr1, ho1⟩
      have HR1 := hide hr1
      have HO1 := hide ho1
      clear hr1 ho1
      go_wp2_with fail
      refine (rnumber_at HR1.out HK.out (by show D.dirs.length ≤ _; omega) (by show (Dsk.dir D).length ≤ _; omega) n).mono ?_
      rintro e w2 ⟨rfl, hb2⟩
      rw [show Dsk.find (Dsk.dir (Dsk.on D)) n = some i from HF.out, num_some]
      have HR2 := hide (HR1.out.below hb2)
      have HO2 := hide (HO1.out.then_below hb2)
      clear hb2
      go_wp2_with fail
      refine (rfails_at HR2.out (by show D.fail ≤ _; exact hfl)).mono ?_
      rintro e w3 ⟨rfl, hr3, ho3⟩
      rw [HDF.out]
      have HR3 := hide hr3
      have HO3 := hide (HO2.out.trans' ho3)
      clear hr3 ho3
      have HG := hide ((HR3.out.wide w).goes HO3.out HK'.out HB.out lim' (by show D.fail - 1 ≤ _; omega))
      go_wp2
      go_ret
      exact ⟨rfl, HG.out⟩
    · have e : Dsk.syncB n (Dsk.on D) = ({ Dsk.on D with fail := (Dsk.on D).fail - 1, files := (Dsk.on D).files.set i [Dsk.now (Dsk.on D) i] }, 0) := by
        unfold Dsk.syncB
        rw [show Dsk.find (Dsk.dir (Dsk.on D)) n = some i from hf]
        simp only
        rw [if_neg (show ¬ (Dsk.on D).fail = 1 from hbad)]
      rw [e] at ok' bud' lim' ⊢
      have HDF : Hid (decide ((Dsk.on D).fail = 1) = false) := hide (decide_eq_false hbad)
      have HH := hide H
      have HB := hide bud'
      have HF := hide hf
      have HK := hide (Dsk.on_ok ok)
      have HK' := hide ok'
      clear H e bud bud' hf e0 ok'
      go_enter Tryz.func51, Tryz.ntmps51
      go_wp2_with fail
      refine (rbegin_on HH.out h0 h1 h2 (by omega)).mono ?_
      rintro e w1 ⟨rfl, hr1, ho1⟩
      have HR1 := hide hr1
      have HO1 := hide ho1
      clear hr1 ho1
      go_wp2_with fail
      refine (rnumber_at HR1.out HK.out (by show D.dirs.length ≤ _; omega) (by show (Dsk.dir D).length ≤ _; omega) n).mono ?_
      rintro e w2 ⟨rfl, hb2⟩
      rw [show Dsk.find (Dsk.dir (Dsk.on D)) n = some i from HF.out, num_some]
      have HR2 := hide (HR1.out.below hb2)
      have HO2 := hide (HO1.out.then_below hb2)
      clear hb2
      go_wp2_with fail
      refine (rfails_at HR2.out (by show D.fail ≤ _; exact hfl)).mono ?_
      rintro e w3 ⟨rfl, hr3, ho3⟩
      rw [HDF.out]
      have HR3 := hide hr3
      have HO3 := hide (HO2.out.trans' ho3)
      clear hr3 ho3
      have HK3 : Hid (Dsk.Ok { Dsk.on D with fail := (Dsk.on D).fail - 1 }) := hide ⟨HK.out.rows, HK.out.some, HK.out.hists, HK.out.left⟩
      go_wp2_with fail
      refine wp_region_growK (fun b => b = p ∨ b = gf) [([0, 1, 2, 3, 4, 5, 6], 7), ([], 8)] [9] [10] (by kernel_rfl) (by kernel_rfl) (by kernel_rfl) (by kernel_rfl) ?_
      intro w4 hb4
      simp only [stagesOfK, getLK, pickLK]
      have HR4 := hide (HR3.out.below hb4)
      have HO4 := hide (HO3.out.then_below hb4)
      obtain ⟨_, k1, _, _, _, _, _, hpl⟩ := HR4.out.look
      have hgl := HR4.out.lt gf (HR4.out.sf gf rfl)
      have inh : Nonempty (GrK (fun b => b = p ∨ b = gf) w4) := GrK.some _ w4
      have q1 := fun x : GrK (fun b => b = p ∨ b = gf) w4 => x.cell (a := ⟨p, 1, none⟩) (.inl rfl) k1
      refine wpG_stageK ?_
      repeat (go_big_quiet_step (fail))
      refine wpQuiet_nil ?_
      clear q1 inh hb4
      go_wp2_with fail
      refine (rnow_at HR4.out HK3.out (i := i) (by show i < D.files.length; exact hil) (by show D.files.length ≤ _; omega) (by show (Dsk.hist D i).length ≤ _; omega)).mono ?_
      rintro e w5 ⟨rfl, hb⟩
      rw [show Num.bs (Dsk.now { Dsk.on D with fail := (Dsk.on D).fail - 1 } i) = Num.bs (Dsk.now D i) from rfl]
      have HR5 := hide (HR4.out.below hb)
      have HO5 := hide (HO4.out.then_below hb)
      obtain ⟨s, hs⟩ : ∃ s, Num.bs (Dsk.now D i) = s := ⟨_, rfl⟩
      rw [hs]
      go_wp2
      refine OnToK.mk (Kept.of_below hb (fun b e => by rcases e with rfl | rfl; exact hpl; exact hgl)) (Sub.refl _) ?_
      have hpl5 := Nat.lt_of_lt_of_le hpl hb.size
      have hgl5 := Nat.lt_of_lt_of_le hgl hb.size
      clear hb
      refine wpG_stageK (wpQuiet_nil ?_)
      go_wp2
      refine OnToK.mk (Kept.of_below ((Below.refl _ w5).alloc (Nat.le_refl _) _) (fun b e => by rcases e with rfl | rfl; exact hpl5; exact hgl5)) (Sub.refl _) ?_
      obtain ⟨v, hv, hvs⟩ := HR5.out.hist (i := i) (by show i < D.files.length; exact hil)
      obtain ⟨va, vc, rfl⟩ := own_slice hvs.1
      obtain ⟨h7, o7⟩ := RefAt.oneRow (D := { Dsk.on D with fail := (Dsk.on D).fail - 1 }) (L := D.files.length) rfl HR5.out HO5.out HH.out.lt (n := i) hil hv (Dsk.now (Dsk.on D) i) hs
      have HG := hide (h7.goes o7 HK'.out HB.out lim' (by show D.fail - 1 ≤ _; omega))
      have kv : w5.cell? ⟨gf, i, none⟩ = some (.slice va (Dsk.hist (Dsk.on D) i).length vc) := by
        have := HR5.out.files.cells (g := gf) rfl i _ hv
        rw [Addr.add_lit, Nat.zero_add] at this
        exact this
      obtain ⟨cu, hgf⟩ := own_kind HR5.out.files (g := gf) rfl
      have b56 : Below w5.heap.size w5 (w5.alloc (.cells #[.string s] 9)) := (Below.refl _ w5).alloc (Nat.le_refl _) _
      have c6 := (b56.cell (p := ⟨gf, i, none⟩) hgl5).trans kv
      have f6 := fun j => (b56.frozen (p := ⟨gf, j, none⟩) hgl5).trans (frozen_of hgf j)
      obtain ⟨w6, hw6⟩ : ∃ W, w5.alloc (.cells #[.string s] 9) = W := ⟨_, rfl⟩
      rw [hw6] at c6 f6 HG ⊢
      clear h7 o7 hvs hv kv b56 hw6 hs
      have inh : Nonempty (GrK (fun b => b = p ∨ b = gf) w6) := GrK.some _ w6
      refine wpG_lastK ?_
      repeat (go_big_quiet_step (fail))
      refine wpQuiet_nil ?_
      clear inh
      go_wp2
      go_ret
      exact ⟨rfl, HG.out⟩

def djk (D : Dk) (i : Nat) (s : By) (j : Nat) : Dk := { D with files := D.files.set i (Dsk.hist D i ++ Dsk.fronts (Dsk.now D i) (s.take j)) }
theorem fronts_snoc (b s : By) {j : Nat} (hj : j < s.length) : Dsk.fronts b (s.take (j + 1)) = Dsk.fronts b (s.take j) ++ [b ++ s.take (j + 1)] := by
  unfold Dsk.fronts
  rw [List.length_take, List.length_take, Nat.min_eq_left (by omega), Nat.min_eq_left (by omega), List.range_succ, List.map_append, List.map_singleton]
  congr 1
  · refine List.map_congr_left fun k hk => ?_
    rw [List.mem_range] at hk
    rw [List.take_take, List.take_take, Nat.min_eq_left (by omega), Nat.min_eq_left (by omega)]
  · rw [List.take_take, Nat.min_self]
theorem djk_hist (D : Dk) {i : Nat} (hi : i < D.files.length) (s : By) (j : Nat) : Dsk.hist (djk D i s j) i = Dsk.hist D i ++ Dsk.fronts (Dsk.now D i) (s.take j) := by
  have := Dsk.hist_set D hi (Dsk.hist D i ++ Dsk.fronts (Dsk.now D i) (s.take j)) i
  rw [if_pos rfl] at this
  exact this
theorem djk_now (D : Dk) {i : Nat} (hi : i < D.files.length) (s : By) (j : Nat) : Dsk.now (djk D i s j) i = Dsk.now D i ++ s.take j := by
  unfold Dsk.now
  rw [djk_hist D hi]
  exact Dsk.fronts_last _ _ _ rfl
theorem djk_next (D : Dk) {i : Nat} (hi : i < D.files.length) (s : By) {j : Nat} (hj : j < s.length) : { djk D i s j with files := (djk D i s j).files.set i (Dsk.hist (djk D i s j) i ++ [Dsk.now D i ++ s.take (j + 1)]) } = djk D i s (j + 1) := by
  rw [djk_hist D hi]
  unfold djk
  simp only [List.set_set]
  rw [fronts_snoc _ _ hj, List.append_assoc]
theorem djk_zero (D : Dk) {i : Nat} (hi : i < D.files.length) (s : By) : djk D i s 0 = D := by
  unfold djk
  have e : Dsk.hist D i ++ Dsk.fronts (Dsk.now D i) (s.take 0) = D.files[i] := by
    simp only [List.take_zero, Dsk.fronts, List.length_nil, List.range_zero, List.map_nil, List.append_nil]
    unfold Dsk.hist
    rw [List.getD_eq_getElem?_getD, List.getElem?_eq_getElem hi]
    rfl
  rw [e, List.set_getElem_self]
theorem djk_ok {D : Dk} (h : Dsk.Ok D) {i : Nat} (hi : i < D.files.length) (s : By) (j : Nat) : Dsk.Ok (djk D i s j) := by
  refine Dsk.set_ok h i _ ?_ D.fail
  intro e
  exact h.hists _ (Dsk.hist_mem hi) (List.append_eq_nil_iff.1 e).1
theorem bs_next (b : By) (s : ByteArray) {j : Nat} (hj : j < s.size) : Num.bs (b ++ s.data.toList.take (j + 1)) = Num.bs (b ++ s.data.toList.take j) ++ s.extract j (j + 1) := by
  have hl : j < s.data.toList.length := by simpa using hj
  apply ByteArray.ext
  rw [ByteArray.data_append, ByteArray.data_extract]
  apply Array.ext'
  rw [Array.toList_append, Array.toList_extract]
  simp only [Num.bs]
  show b ++ s.data.toList.take (j + 1) = (b ++ s.data.toList.take j) ++ (s.data.toList.drop j).take (j + 1 - j)
  rw [Nat.add_sub_cancel_left, List.append_assoc, List.take_succ_eq_append_getElem hl, List.drop_eq_getElem_cons hl]
  rfl
set_option maxRecDepth 100000 in
set_option maxHeartbeats 600000 in
theorem rappend_dk {S : Nat → Prop} {w : World} {p : Nat} {D : Dk} {c : Nat} (H : IsRef S w p D c) (n s : ByteArray) (hc : c + (1 + s.size) ≤ 10000000) :
    Calls Tryz.prog 24 #[.pointer (some ⟨p, 0, none⟩), .string n, .string s] w fun e w' => e = .returned (.int .i64 (Dsk.append n s.data.toList D).2) ∧ RGoes S w w' p (Dsk.append n s.data.toList D).1 (c + (1 + s.size)) := by
  obtain ⟨ok, bud, lim, hfl, fv, dv, fs, ds, H⟩ := H
  obtain ⟨da, dc, rfl⟩ := own_slice H.dirs
  obtain ⟨fa, fc, rfl⟩ := own_slice H.files
  have ok' := Dsk.append_ok n s.data.toList ok
  have hsl : s.data.toList.length = s.size := by simp
  have bud' : Dsk.Bud (Dsk.append n s.data.toList D).1 (c + (1 + s.size)) := by have := Dsk.bud_append n s.data.toList bud ok; rw [hsl, Nat.add_assoc] at this; exact this
  have lim' := lim_append n s.data.toList lim
  have h1 := ok.left
  have h2 := lim.left
  have h3 := bud.ops
  have hdl := bud.dirs
  have hrl := bud.rows _ (Dsk.dir_mem ok.some)
  have hfil := bud.files
  by_cases h0 : D.left = 0
  · have e : Dsk.append n s.data.toList D = (D, 11) := act_dead h0 _
    rw [e] at ok' bud' lim' ⊢
    have HH := hide H
    have HB := hide bud'
    clear H e bud bud'
    go_enter Tryz.func24, Tryz.ntmps24
    go_wp2_with fail
    refine (rbegin_dead HH.out h0).mono ?_
    rintro e w1 ⟨rfl, hw⟩
    rw [hw]
    go_wp2
    go_ret
    exact ⟨rfl, ((HH.out.wide w).goes (Only.refl _ _) ok' HB.out lim' hfl)⟩
  have e0 : Dsk.append n s.data.toList D = Dsk.appendB n s.data.toList (Dsk.on D) := by unfold Dsk.append Dsk.act; rw [if_neg h0]
  rw [e0] at ok' bud' lim' ⊢
  cases hf : Dsk.find (Dsk.dir D) n with
  | none =>
    have e : Dsk.appendB n s.data.toList (Dsk.on D) = (Dsk.on D, 5) := by unfold Dsk.appendB; rw [show Dsk.find (Dsk.dir (Dsk.on D)) n = none from hf]
    rw [e] at ok' bud' lim' ⊢
    have HH := hide H
    have HB := hide bud'
    have HF := hide hf
    have HK := hide ok'
    clear H e bud bud' hf e0 ok'
    go_enter Tryz.func24, Tryz.ntmps24
    go_wp2_with fail
    refine (rbegin_on HH.out h0 h1 h2 (by omega)).mono ?_
    rintro e w1 ⟨rfl, hr1, ho1⟩
    have HR1 := hide hr1
    have HO1 := hide ho1
    clear hr1 ho1
    go_wp2_with fail
    refine (rnumber_at HR1.out HK.out (by show D.dirs.length ≤ _; omega) (by show (Dsk.dir D).length ≤ _; omega) n).mono ?_
    rintro e w2 ⟨rfl, hb2⟩
    rw [show Dsk.find (Dsk.dir (Dsk.on D)) n = none from HF.out]
    have hnn : numV none < 0 := by decide
    have HG := hide (((HR1.out.below hb2).wide w).goes (HO1.out.then_below hb2) HK.out HB.out lim' hfl)
    clear hb2
    go_wp2
    go_ret
    exact ⟨rfl, HG.out⟩
  | some i =>
    have hil := Dsk.find_lt ok hf
    have hhs := bud.hists _ (Dsk.hist_mem hil)
    obtain ⟨gf, cf', hfv, _, _, _, _⟩ := own_view H.files (by omega)
    simp only [Value.slice.injEq] at hfv
    obtain ⟨rfl, _, rfl⟩ := hfv
    have hub := bud.used ok
    have hcc : c * c ≤ 10000000 * 10000000 := Nat.mul_le_mul (by omega) (by omega)
    have hrm := lim.room
    have hcr : D.room = (Dsk.on D).room := rfl
    obtain ⟨k0, _⟩ := H.look
    have HLI : Hid (Lim (Dsk.on D)) := hide ⟨lim.room, by unfold Dsk.on; simp only; split <;> omega⟩
    have HBO := hide bud.on
    obtain ⟨u, hu⟩ : ∃ u, Dsk.used D = u := ⟨_, rfl⟩
    have HUE : Hid (Dsk.used (Dsk.on D) = u) := hide hu
    by_cases hfull : D.room < Dsk.used D + s.data.toList.length
    · have e : Dsk.appendB n s.data.toList (Dsk.on D) = (Dsk.on D, 9) := by unfold Dsk.appendB; rw [show Dsk.find (Dsk.dir (Dsk.on D)) n = some i from hf]; simp only; rw [if_pos (show (Dsk.on D).room < Dsk.used (Dsk.on D) + s.data.toList.length from hfull)]
      rw [e] at ok' bud' lim' ⊢
      rw [hu, hsl] at hfull
      rw [hu] at hub
      have HH := hide H
      have HB := hide bud'
      have HF := hide hf
      have HK := hide (Dsk.on_ok ok)
      have HK' := hide ok'
      clear hu H e bud bud' hf e0 ok'
      go_enter Tryz.func24, Tryz.ntmps24
      go_wp2_with fail
      refine (rbegin_on HH.out h0 h1 h2 (by omega)).mono ?_
      rintro e w1 ⟨rfl, hr1, ho1⟩
      have HR1 := hide hr1
      have HO1 := hide ho1
      clear hr1 ho1
      go_wp2_with fail
      refine (rnumber_at HR1.out HK.out (by show D.dirs.length ≤ _; omega) (by show (Dsk.dir D).length ≤ _; omega) n).mono ?_
      rintro e w2 ⟨rfl, hb2⟩
      rw [show Dsk.find (Dsk.dir (Dsk.on D)) n = some i from HF.out, num_some]
      have HR2 := hide (HR1.out.below hb2)
      have HO2 := hide (HO1.out.then_below hb2)
      clear hb2
      have hwr : IntKind.i64.wrap ((u : Int) + (s.size : Int)) = ((u + s.size : Nat) : Int) := by rw [IntKind.wrap_i64]; omega
      have hdc : decide ((D.room : Int) < ((u + s.size : Nat) : Int)) = true := decide_eq_true (by omega)
      go_wp2_with fail
      refine wp_region_growK (fun b => b = p) [([0, 2, 3, 5, 6, 7, 8], 1)] [4, 9] [] (by kernel_rfl) (by kernel_rfl) (by kernel_rfl) (by kernel_rfl) ?_
      intro wU hbU
      simp only [stagesOfK, getLK, pickLK]
      have HRU := hide (HR2.out.below hbU)
      have HOU := hide (HO2.out.then_below hbU)
      obtain ⟨kU, _, _, _, _, _, _, hplU⟩ := HRU.out.look
      have kU : wU.cell? ⟨p, 0, none⟩ = some (.int .i64 (D.room : Int)) := kU
      have inh : Nonempty (GrK (fun b => b = p) wU) := GrK.some _ wU
      have q0 := fun x : GrK (fun b => b = p) wU => x.cell (a := ⟨p, 0, none⟩) rfl kU
      refine wpG_stageK ?_
      repeat (go_big_quiet_step (fail))
      refine wpQuiet_nil ?_
      clear q0 inh hbU
      go_wp2_with fail
      refine (rused_dk (c := c + 1) ⟨HK.out, HBO.out, HLI.out, hfl, _, _, _, _, HRU.out⟩ (by omega)).mono ?_
      rintro e w3 ⟨rfl, hb⟩
      rw [HUE.out]
      have HR3 := hide (HRU.out.below hb)
      have HO3 := hide (HOU.out.then_below hb)
      go_wp2
      refine OnToK.mk (Kept.of_below hb (fun b e => by subst e; exact hplU)) (Sub.refl _) ?_
      clear hb
      have inh : Nonempty (GrK (fun b => b = p) w3) := GrK.some _ w3
      refine wpG_lastK ?_
      repeat (go_big_quiet_step (fail))
      refine wpQuiet_nil ?_
      clear inh hwr hdc
      have HG := hide ((HR3.out.wide w).goes HO3.out HK'.out HB.out lim' hfl)
      obtain ⟨k0, _⟩ := HR3.out.look
      go_wp2
      go_ret
      exact ⟨rfl, HG.out⟩
    by_cases hbad : D.fail = 1
    · have e : Dsk.appendB n s.data.toList (Dsk.on D) = ({ Dsk.on D with fail := (Dsk.on D).fail - 1 }, 10) := by
        unfold Dsk.appendB
        rw [show Dsk.find (Dsk.dir (Dsk.on D)) n = some i from hf]
        simp only
        rw [if_neg (show ¬ (Dsk.on D).room < Dsk.used (Dsk.on D) + s.data.toList.length from hfull), if_pos (show (Dsk.on D).fail = 1 from hbad), show (Dsk.on D).fail - 1 = 0 from by rw [show (Dsk.on D).fail = 1 from hbad]]
      rw [e] at ok' bud' lim' ⊢
      rw [hu, hsl] at hfull
      rw [hu] at hub
      have HDF : Hid (decide ((Dsk.on D).fail = 1) = true) := hide (decide_eq_true hbad)
      have HH := hide H
      have HB := hide bud'
      have HF := hide hf
      have HK := hide (Dsk.on_ok ok)
      have HK' := hide ok'
      clear hu H e bud bud' hf e0 ok'
      go_enter Tryz.func24, Tryz.ntmps24
      go_wp2_with fail
      refine (rbegin_on HH.out h0 h1 h2 (by omega)).mono ?_
      rintro e w1 ⟨rfl, hr1, ho1⟩
      have HR1 := hide hr1
      have HO1 := hide ho1
      clear hr1 ho1
      go_wp2_with fail
      refine (rnumber_at HR1.out HK.out (by show D.dirs.length ≤ _; omega) (by show (Dsk.dir D).length ≤ _; omega) n).mono ?_
      rintro e w2 ⟨rfl, hb2⟩
      rw [show Dsk.find (Dsk.dir (Dsk.on D)) n = some i from HF.out, num_some]
      have HR2 := hide (HR1.out.below hb2)
      have HO2 := hide (HO1.out.then_below hb2)
      clear hb2
      have hwr : IntKind.i64.wrap ((u : Int) + (s.size : Int)) = ((u + s.size : Nat) : Int) := by rw [IntKind.wrap_i64]; omega
      have hdc : decide ((D.room : Int) < ((u + s.size : Nat) : Int)) = false := decide_eq_false (by omega)
      go_wp2_with fail
      refine wp_region_growK (fun b => b = p) [([0, 2, 3, 5, 6, 7, 8], 1)] [4, 9] [] (by kernel_rfl) (by kernel_rfl) (by kernel_rfl) (by kernel_rfl) ?_
      intro wU hbU
      simp only [stagesOfK, getLK, pickLK]
      have HRU := hide (HR2.out.below hbU)
      have HOU := hide (HO2.out.then_below hbU)
      obtain ⟨kU, _, _, _, _, _, _, hplU⟩ := HRU.out.look
      have kU : wU.cell? ⟨p, 0, none⟩ = some (.int .i64 (D.room : Int)) := kU
      have inh : Nonempty (GrK (fun b => b = p) wU) := GrK.some _ wU
      have q0 := fun x : GrK (fun b => b = p) wU => x.cell (a := ⟨p, 0, none⟩) rfl kU
      refine wpG_stageK ?_
      repeat (go_big_quiet_step (fail))
      refine wpQuiet_nil ?_
      clear q0 inh hbU
      go_wp2_with fail
      refine (rused_dk (c := c + 1) ⟨HK.out, HBO.out, HLI.out, hfl, _, _, _, _, HRU.out⟩ (by omega)).mono ?_
      rintro e w3 ⟨rfl, hb⟩
      rw [HUE.out]
      have HR3 := hide (HRU.out.below hb)
      have HO3 := hide (HOU.out.then_below hb)
      go_wp2
      refine OnToK.mk (Kept.of_below hb (fun b e => by subst e; exact hplU)) (Sub.refl _) ?_
      clear hb
      have inh : Nonempty (GrK (fun b => b = p) w3) := GrK.some _ w3
      refine wpG_lastK ?_
      repeat (go_big_quiet_step (fail))
      refine wpQuiet_nil ?_
      clear inh hwr hdc
      obtain ⟨k0, _⟩ := HR3.out.look
      go_wp2_with fail
      refine (rfails_at HR3.out (by show D.fail ≤ _; exact hfl)).mono ?_
      rintro e w4 ⟨rfl, hr3, ho3⟩
      rw [HDF.out]
      have HR4 := hide hr3
      have HO4 := hide (HO3.out.trans' ho3)
      clear hr3 ho3
      have HG := hide ((HR4.out.wide w).goes HO4.out HK'.out HB.out lim' (by show D.fail - 1 ≤ _; omega))
      go_wp2
      go_ret
      exact ⟨rfl, HG.out⟩
    · have e : Dsk.appendB n s.data.toList (Dsk.on D) = ({ Dsk.on D with fail := (Dsk.on D).fail - 1, files := (Dsk.on D).files.set i (Dsk.hist (Dsk.on D) i ++ Dsk.fronts (Dsk.now (Dsk.on D) i) s.data.toList) }, 0) := by
        unfold Dsk.appendB
        rw [show Dsk.find (Dsk.dir (Dsk.on D)) n = some i from hf]
        simp only
        rw [if_neg (show ¬ (Dsk.on D).room < Dsk.used (Dsk.on D) + s.data.toList.length from hfull), if_neg (show ¬ (Dsk.on D).fail = 1 from hbad)]
      rw [e] at ok' bud' lim' ⊢
      rw [hu, hsl] at hfull
      rw [hu] at hub
      have hnl := bud.now ok i
      have HDF : Hid (decide ((Dsk.on D).fail = 1) = false) := hide (decide_eq_false hbad)
      have HH := hide H
      have HB := hide bud'
      have HF := hide hf
      have HK := hide (Dsk.on_ok ok)
      have HK' := hide ok'
      clear hu H e bud bud' hf e0 ok'
      go_enter Tryz.func24, Tryz.ntmps24
      go_wp2_with fail
      refine (rbegin_on HH.out h0 h1 h2 (by omega)).mono ?_
      rintro e w1 ⟨rfl, hr1, ho1⟩
      have HR1 := hide hr1
      have HO1 := hide ho1
      clear hr1 ho1
      go_wp2_with fail
      refine (rnumber_at HR1.out HK.out (by show D.dirs.length ≤ _; omega) (by show (Dsk.dir D).length ≤ _; omega) n).mono ?_
      rintro e w2 ⟨rfl, hb2⟩
      rw [show Dsk.find (Dsk.dir (Dsk.on D)) n = some i from HF.out, num_some]
      have HR2 := hide (HR1.out.below hb2)
      have HO2 := hide (HO1.out.then_below hb2)
      clear hb2
      have hwr : IntKind.i64.wrap ((u : Int) + (s.size : Int)) = ((u + s.size : Nat) : Int) := by rw [IntKind.wrap_i64]; omega
      have hdc : decide ((D.room : Int) < ((u + s.size : Nat) : Int)) = false := decide_eq_false (by omega)
      go_wp2_with fail
      refine wp_region_growK (fun b => b = p) [([0, 2, 3, 5, 6, 7, 8], 1)] [4, 9] [] (by kernel_rfl) (by kernel_rfl) (by kernel_rfl) (by kernel_rfl) ?_
      intro wU hbU
      simp only [stagesOfK, getLK, pickLK]
      have HRU := hide (HR2.out.below hbU)
      have HOU := hide (HO2.out.then_below hbU)
      obtain ⟨kU, _, _, _, _, _, _, hplU⟩ := HRU.out.look
      have kU : wU.cell? ⟨p, 0, none⟩ = some (.int .i64 (D.room : Int)) := kU
      have inh : Nonempty (GrK (fun b => b = p) wU) := GrK.some _ wU
      have q0 := fun x : GrK (fun b => b = p) wU => x.cell (a := ⟨p, 0, none⟩) rfl kU
      refine wpG_stageK ?_
      repeat (go_big_quiet_step (fail))
      refine wpQuiet_nil ?_
      clear q0 inh hbU
      go_wp2_with fail
      refine (rused_dk (c := c + 1) ⟨HK.out, HBO.out, HLI.out, hfl, _, _, _, _, HRU.out⟩ (by omega)).mono ?_
      rintro e w3 ⟨rfl, hb⟩
      rw [HUE.out]
      have HR3 := hide (HRU.out.below hb)
      have HO3 := hide (HOU.out.then_below hb)
      go_wp2
      refine OnToK.mk (Kept.of_below hb (fun b e => by subst e; exact hplU)) (Sub.refl _) ?_
      clear hb
      have inh : Nonempty (GrK (fun b => b = p) w3) := GrK.some _ w3
      refine wpG_lastK ?_
      repeat (go_big_quiet_step (fail))
      refine wpQuiet_nil ?_
      clear inh hwr hdc
      obtain ⟨k0, _⟩ := HR3.out.look
      go_wp2_with fail
      refine (rfails_at HR3.out (by show D.fail ≤ _; exact hfl)).mono ?_
      rintro e w4 ⟨rfl, hr3, ho3⟩
      rw [HDF.out]
      have HR4 := hide hr3
      have HO4 := hide (HO3.out.trans' ho3)
      clear hr3 ho3
      obtain ⟨E, hE⟩ : ∃ E : Dk, { Dsk.on D with fail := (Dsk.on D).fail - 1 } = E := ⟨_, rfl⟩
      have hEl : i < E.files.length := by rw [← hE]; exact hil
      have hEk : Dsk.Ok E := by rw [← hE]; exact ⟨HK.out.rows, HK.out.some, HK.out.hists, HK.out.left⟩
      have hEf : E.files.length = D.files.length := by rw [← hE]; rfl
      have hEn : Dsk.now E i = Dsk.now D i := by rw [← hE]; rfl
      have hEh : Dsk.hist E i = Dsk.hist D i := by rw [← hE]; rfl
      have hfin : djk E i s.data.toList s.size = { Dsk.on D with fail := (Dsk.on D).fail - 1, files := (Dsk.on D).files.set i (Dsk.hist (Dsk.on D) i ++ Dsk.fronts (Dsk.now (Dsk.on D) i) s.data.toList) } := by
        rw [← hE]
        unfold djk
        rw [← hsl, List.take_length]
        rfl
      have HR4' := HR4.out
      rw [hE] at HR4'
      have h40 := djk_zero E hEl s.data.toList
      have HS0 : Hid (RefAt (more S w w4) w4 p (djk E i s.data.toList 0) (.slice (some ⟨gf, 0, none⟩) D.files.length fc) (.slice da D.dirs.length dc) fs ds) := hide (by rw [h40]; exact HR4'.wide w)
      have HEL := hide hEl
      have HEK := hide hEk
      have HEF := hide hEf
      have HEN := hide hEn
      have HEH := hide hEh
      have HFI := hide hfin
      clear HR4' h40 hfin hE hEk hEf hEn hEh hEl
      go_wp2
      go_loopw [10] (fun v10 wr => ∃ (j : Nat) (fs' : List Value), j ≤ s.size ∧ v10 = .int .i64 (j : Int) ∧ Hid (RefAt (more S w wr) wr p (djk E i s.data.toList j) (.slice (some ⟨gf, 0, none⟩) D.files.length fc) (.slice da D.dirs.length dc) fs' ds) ∧ Hid (Only S w wr)) (fun v10 _ => s.size - (intOf v10).toNat)
      case atStart => exact ⟨0, fs, Nat.zero_le _, rfl, HS0, HO4⟩
      case round =>
        obtain ⟨j, fs', hj, rfl, HR, HO⟩ := hrel
        by_cases hlt : j < s.size
        · have hjl : j < s.data.toList.length := by rw [hsl]; exact hlt
          have hdl2 : (djk E i s.data.toList j).files.length = D.files.length := by unfold djk; simp only [List.length_set]; exact HEF.out
          have hid : i < (djk E i s.data.toList j).files.length := by rw [hdl2]; exact hil
          have hhl : (Dsk.hist (djk E i s.data.toList j) i).length ≤ 1000000000 := by
            rw [djk_hist E HEL.out, List.length_append, HEH.out]
            unfold Dsk.fronts
            rw [List.length_map, List.length_range, List.length_take]
            omega
          have hbn := bs_next (Dsk.now D i) s hlt
          have hnw := djk_now E HEL.out s.data.toList j
          rw [HEN.out] at hnw
          have hnx := djk_next E HEL.out s.data.toList hjl
          rw [HEN.out] at hnx
          obtain ⟨b, hb⟩ : ∃ b, Num.bs (Dsk.now D i ++ s.data.toList.take j) = b := ⟨_, rfl⟩
          have hbs : b.size ≤ 1000000000 := by rw [← hb, Num.bs_size, List.length_append, List.length_take]; omega
          have hxs : (s.extract j (j + 1)).size ≤ 1 := by rw [ByteArray.size_extract]; omega
          rw [hb] at hbn
          have HBN := hide hbn
          have HNW : Hid (Num.bs (Dsk.now (djk E i s.data.toList j) i) = b) := hide (by rw [hnw]; exact hb)
          have HNX := hide hnx
          have HID := hide hid
          have HD2 := hide hdl2
          have HHL := hide hhl
          clear hbn hnw hnx hb hid hdl2 hhl
          go_wp2_with fail
          refine wp_region_growK (fun z => z = p ∨ z = gf) [([0, 1, 2, 3, 4, 5, 6, 7, 8, 9, 10, 11, 12, 13, 15, 16, 17, 18, 19], 14), ([20], 21), ([], 22)] [23] [24] (by kernel_rfl) (by kernel_rfl) (by kernel_rfl) (by kernel_rfl) ?_
          intro w5 hb5
          simp only [stagesOfK, getLK, pickLK]
          have HR5 := hide (HR.out.below hb5)
          have HO5 : Hid (Only (more S w wr) wr w5) := hide (Only.of_below hb5)
          obtain ⟨_, k1, _, _, _, _, _, hpl⟩ := HR5.out.look
          have hgl := HR5.out.lt gf (HR5.out.sf gf rfl)
          obtain ⟨v, hv, hvs⟩ := HR5.out.hist (i := i) HID.out
          obtain ⟨va, vc, rfl⟩ := own_slice hvs.1
          have kv : w5.cell? ⟨gf, i, none⟩ = some (.slice va (Dsk.hist (djk E i s.data.toList j) i).length vc) := by
            have := HR5.out.files.cells (g := gf) rfl i _ hv
            rw [Addr.add_lit, Nat.zero_add] at this
            exact this
          obtain ⟨H5, hH5⟩ : ∃ n, (Dsk.hist (djk E i s.data.toList j) i).length = n := ⟨_, rfl⟩
          rw [hH5] at kv hv
          clear hvs hH5
          have HV := hide hv
          clear hv
          have inh : Nonempty (GrK (fun z => z = p ∨ z = gf) w5) := GrK.some _ w5
          have q1 := fun x : GrK (fun z => z = p ∨ z = gf) w5 => x.cell (a := ⟨p, 1, none⟩) (.inl rfl) k1
          have q2 := fun x : GrK (fun z => z = p ∨ z = gf) w5 => x.cell (a := ⟨gf, i, none⟩) (.inr rfl) kv
          refine wpG_stageK ?_
          repeat (go_big_quiet_step (fail))
          refine wpQuiet_nil ?_
          clear q1 q2 inh hb5
          go_wp2_with fail
          refine (rnow_at HR5.out (djk_ok HEK.out HEL.out _ _) (i := i) HID.out (by rw [HD2.out]; omega) (by have := HHL.out; omega)).mono ?_
          rintro e w6 ⟨rfl, hb⟩
          rw [HNW.out]
          have HR6 := hide (HR5.out.below hb)
          have HO6 := hide (HO5.out.then_below hb)
          go_wp2
          refine OnToK.mk (Kept.of_below hb (fun z e => by rcases e with rfl | rfl; exact hpl; exact hgl)) (Sub.refl _) ?_
          have hpl6 := Nat.lt_of_lt_of_le hpl hb.size
          have hgl6 := Nat.lt_of_lt_of_le hgl hb.size
          clear hb
          have inh : Nonempty (GrK (fun z => z = p ∨ z = gf) w6) := GrK.some _ w6
          refine wpG_stageK ?_
          repeat (go_big_quiet_step (fail))
          refine wpQuiet_nil ?_
          clear inh
          go_wp2
          refine OnToK.mk (Kept.of_below ((Below.refl _ w6).alloc (Nat.le_refl _) _) (fun z e => by rcases e with rfl | rfl; exact hpl6; exact hgl6)) (Sub.refl _) ?_
          obtain ⟨ea, N, ec, w7, hr7, k7, c7, f7, kp7, h7, o7⟩ := RefAt.appRow (D := djk E i s.data.toList j) (L := D.files.length) HD2.out.symm HR6.out HO6.out HR.out.lt (n := i) HID.out HV.out (Dsk.now D i ++ s.data.toList.take (j + 1)) HBN.out (by have := HHL.out; omega) 44
          rw [HNX.out] at h7
          have HR7 := hide hr7
          have HO8 := hide (HO.out.trans o7)
          have HR8 := hide (h7.mono (fun z hz => more_trans HO.out.size o7.size hz) (fun z hz => by
            rcases hz with x | x
            · have := HH.out.lt z x; have := HO.out.size; have := o7.size; omega
            · exact x.2))
          clear hr7 h7 o7
          refine wpG_stageK (wpQuiet_nil ?_)
          go_wp2_with (at_builtin; refine wpList_app_run rfl _ _ _ _ rfl rfl rfl HR7.out ?_)
          refine OnToK.mk kp7 (Sub.refl _) ?_
          have inh : Nonempty (GrK (fun z => z = p ∨ z = gf) w7) := GrK.some _ w7
          refine wpG_lastK ?_
          repeat (go_big_quiet_step (fail))
          refine wpQuiet_nil ?_
          clear inh kp7
          obtain ⟨w8, hw8⟩ : ∃ W, w7.setCell ⟨gf, i, none⟩ (.slice ea N ec) = W := ⟨_, rfl⟩
          rw [hw8] at HR8 HO8
          go_wp2
          go_roundw
          case rel => exact ⟨j + 1, _, by omega, by go_num, HR8, HO8⟩
          case measure => simp [intOf]; omega
        · obtain rfl : j = s.size := by omega
          have hr := HR.out
          rw [HFI.out] at hr
          have HG := hide (hr.goes HO.out HK'.out HB.out lim' (by show D.fail - 1 ≤ _; omega))
          clear hr
          go_wp2
          go_ret
          exact ⟨rfl, HG.out⟩

end Go.Proofs.YtleomppgkikhnaaGreat
