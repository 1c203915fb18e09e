/-
  The program's disk in memory: its cells, its map of names, its files with their rows, its changes of names; and what an operation may change.
-/
import Derived.Test.YtleomppgkikhnaaGreatDskMapW
namespace Go.Proofs.YtleomppgkikhnaaGreat
open Go.RowKit
open Dsk (Nm Hold Fl Ct By)

/-- Only blocks of S, and new ones, have changed. -/
structure Only (S : Nat → Prop) (w w' : World) : Prop where
  os : w'.os = w.os
  tape : w'.tape = w.tape
  output : w'.output = w.output
  size : w.heap.size ≤ w'.heap.size
  block : ∀ k, k < w.heap.size → ¬ S k → w'.heap[k]? = w.heap[k]?
theorem Only.refl (S : Nat → Prop) (w : World) : Only S w w := ⟨rfl, rfl, rfl, Nat.le_refl _, fun _ _ _ => rfl⟩
theorem Only.mono {S T : Nat → Prop} {w w' : World} (h : Only S w w') (k : ∀ b, S b → T b) : Only T w w' := ⟨h.os, h.tape, h.output, h.size, fun b hb hn => h.block b hb (fun x => hn (k b x))⟩
/-- The blocks of S, and what is new. -/
def more (S : Nat → Prop) (w w' : World) : Nat → Prop := fun b => S b ∨ (w.heap.size ≤ b ∧ b < w'.heap.size)
theorem more.old {S : Nat → Prop} {w w' : World} {b : Nat} (h : S b) : more S w w' b := .inl h
theorem Only.trans {S : Nat → Prop} {a b c : World} (h : Only S a b) (k : Only (more S a b) b c) : Only S a c :=
  ⟨k.os.trans h.os, k.tape.trans h.tape, k.output.trans h.output, Nat.le_trans h.size k.size, fun i hi hn => (k.block i (Nat.lt_of_lt_of_le hi h.size) (fun x => by
    rcases x with x | x
    · exact hn x
    · omega)).trans (h.block i hi hn)⟩
theorem Only.trans' {S : Nat → Prop} {a b c : World} (h : Only S a b) (k : Only S b c) : Only S a c := h.trans (k.mono fun _ => .inl)
theorem Only.of_below {S : Nat → Prop} {w w' : World} (h : Below w.heap.size w w') : Only S w w' := ⟨h.os, h.tape, h.output, h.size, fun b hb _ => h.block b hb⟩
theorem Only.then_below {S : Nat → Prop} {a b c : World} (h : Only S a b) (k : Below b.heap.size b c) : Only S a c := h.trans' (.of_below k)
theorem Only.after_below {S : Nat → Prop} {a b c : World} (h : Below a.heap.size a b) (k : Only S b c) : Only S a c := (Only.of_below h).trans' k
theorem Only.below {S : Nat → Prop} {w w' : World} (h : Only S w w') {B : Nat} (hB : B ≤ w.heap.size) (k : ∀ b, S b → B ≤ b) : Below B w w' :=
  ⟨h.os, h.tape, h.output, h.size, fun b hb => h.block b (by omega) (fun x => by have := k b x; omega)⟩
theorem Only.grown {S : Nat → Prop} {w w' : World} {row : Option Nat} (h : w.grownBy w' row) (k : ∀ g, row = some g → S g) : Only S w w' :=
  ⟨h.os, h.tape, h.output, h.size, fun b hb hn => h.block b hb (fun e => hn (k b e.symm))⟩
theorem Only.setCell {S : Nat → Prop} {a w : World} (h : Only S a w) {p : Addr} (hp : S p.block) (u : Value) : Only S a (w.setCell p u) :=
  h.trans' ⟨rfl, rfl, rfl, by simp [World.setCell], fun k _ hk => Below.heap_setCell _ _ _ _ (fun e => hk (e ▸ hp))⟩
theorem Only.drew {S : Nat → Prop} {a w : World} (h : Only S a w) : Only S a w.drew := ⟨h.os, h.tape, h.output, h.size, h.block⟩
theorem more_trans {S : Nat → Prop} {a b c : World} (h1 : a.heap.size ≤ b.heap.size) (h2 : b.heap.size ≤ c.heap.size) {k : Nat} (h : more (more S a b) b c k) : more S a c k := by
  rcases h with (h | h) | h
  · exact .inl h
  · exact .inr (by omega)
  · exact .inr (by omega)

theorem kind_ne {w : World} {a b : Nat} {c c' : Array Value} {t t' : TypeId} {z z' : Nat × Nat} (h : w.heap[a]? = some (.cells c t z)) (k : w.heap[b]? = some (.cells c' t' z')) (ht : t ≠ t') : a ≠ b := by
  rintro rfl
  rw [h] at k
  simp only [Option.some.injEq, Obj.cells.injEq] at k
  exact ht k.2.1
theorem kind_map {w : World} {a b : Nat} {c : Array Value} {t : TypeId} {z : Nat × Nat} {es : Array MapEntry} {k : Nat} (h : w.heap[a]? = some (.cells c t z)) (m : w.heap[b]? = some (.map es k)) : a ≠ b := by
  rintro rfl
  rw [h] at m
  cases m

/-! ## A file -/
/-- The block of a slice that has room. -/
def rowB : Value → Option Nat
  | .slice (some a) _ (_ + 1) => some a.block
  | _ => none
/-- Bytes in a row of their own. -/
def TextAt (w : World) (v : Value) (t : By) : Prop :=
  (t = [] ∧ ∃ a : Option Addr, v = .slice a 0 0 ∧ ∀ x, a = some x → x.spot = none) ∨ ∃ g cap cur, v = .slice (some ⟨g, 0, none⟩) t.length (cap + 1) ∧ w.heap[g]? = some (.cells cur 5 (0, 0)) ∧ t.length ≤ cap + 1 ∧ cap + 1 ≤ maxLen ∧ cur.size = cap + 1 ∧ cur.toList.take t.length = bytesV t
theorem TextAt.keep {w w' : World} {v : Value} {t : By} (h : TextAt w v t) (k : ∀ g, rowB v = some g → w'.heap[g]? = w.heap[g]?) : TextAt w' v t := by
  rcases h with h | ⟨g, cap, cur, rfl, h, r⟩
  · exact .inl h
  · exact .inr ⟨g, cap, cur, rfl, (k g rfl).trans h, r⟩
theorem TextAt.kind {w : World} {v : Value} {t : By} (h : TextAt w v t) {g : Nat} (k : rowB v = some g) : ∃ cur, w.heap[g]? = some (.cells cur 5 (0, 0)) := by
  rcases h with ⟨_, a, rfl, _⟩ | ⟨g', cap, cur, rfl, h, r⟩
  · cases a <;> simp [rowB] at k
  · simp only [rowB, Option.some.injEq] at k
    subst k
    exact ⟨cur, h⟩
theorem TextAt.of_own {w : World} {v : Value} {t : By} {base n : Nat} {vs : List Value} (h : w.ownsRow base 5 1 v n vs) (hn : n = t.length) (hv : vs = bytesV t) : TextAt w v t := by
  subst hn hv
  rcases h.2 with ⟨rfl, h0⟩ | ⟨g, cap, cur, rfl, hg, hh, hnc, hcm, hcs, ht⟩
  · exact .inl ⟨List.eq_nil_of_length_eq_zero h0, none, rfl, fun x e => by cases e⟩
  · cases cap with
    | zero => exact .inl ⟨List.eq_nil_of_length_eq_zero (by omega), _, by rw [show t.length = 0 by omega], fun x e => by cases e; rfl⟩
    | succ c => exact .inr ⟨g, c, cur, rfl, hh, hnc, hcm, by omega, by simpa using ht⟩
/-- .. as the library's laws have it, but for no bytes without room. -/
theorem TextAt.own {w : World} {v : Value} {t : By} (h : TextAt w v t) : (t = [] ∧ ∃ a : Option Addr, v = .slice a 0 0 ∧ ∀ x, a = some x → x.spot = none) ∨ w.ownsRow 0 5 1 v t.length (bytesV t) := by
  rcases h with h | ⟨g, cap, cur, rfl, h, h1, h2, h3, h4⟩
  · exact .inl h
  · exact .inr ⟨by simp [bytesV], .inr ⟨g, cap + 1, cur, rfl, Nat.zero_le _, h, h1, h2, by omega, by simpa using h4⟩⟩
def cutV (l : List Ct) : List Value := l.flatMap (fun c => [.int .i64 (c.1 : Int), .string (Num.bs c.2)])
theorem cutV_len (l : List Ct) : (cutV l).length = l.length * 2 := by
  induction l with
  | nil => rfl
  | cons c r ih => simp only [cutV, List.flatMap_cons, List.length_append, List.length_cons, List.length_nil] at ih ⊢; rw [ih]; omega
def CutsAt (w : World) (v : Value) (l : List Ct) : Prop := w.ownsRow 0 115 2 v l.length (cutV l)
theorem own_keep {w w' : World} {base e size n : Nat} {v : Value} {xs : List Value} (h : w.ownsRow base e size v n xs) (k : ∀ g, v.ownBlock = some g → w'.heap[g]? = w.heap[g]?) : w'.ownsRow base e size v n xs := by
  refine ⟨h.1, ?_⟩
  rcases h.2 with h0 | ⟨g, cap, cur, rfl, hb, hh, r⟩
  · exact .inl h0
  · exact .inr ⟨g, cap, cur, rfl, hb, (k g rfl).trans hh, r⟩
theorem own_kind {w : World} {base e size n : Nat} {v : Value} {xs : List Value} (h : w.ownsRow base e size v n xs) {g : Nat} (k : v.ownBlock = some g) : ∃ cur, w.heap[g]? = some (.cells cur e (0, 0)) := by
  rcases h.2 with ⟨rfl, _⟩ | ⟨g', cap, cur, rfl, hb, hh, r⟩
  · cases k
  · simp only [Value.ownBlock, Option.some.injEq] at k
    subst k
    exact ⟨cur, hh⟩
def fileCells (i : Nat) (tv kv : Value) (g : Nat) : Obj := .cells #[.int .i64 (i : Int), tv, kv, .int .i64 (g : Int)] 74 (0, 0)
structure FileAt (S : Nat → Prop) (w : World) (b i : Nat) (F : Fl) (tv kv : Value) : Prop where
  blk : w.heap[b]? = some (fileCells i tv kv F.grown)
  text : TextAt w tv F.text
  cuts : CutsAt w kv F.cuts
  s1 : S b
  s2 : ∀ g, rowB tv = some g → S g
  s3 : ∀ g, kv.ownBlock = some g → S g
theorem FileAt.keep {S : Nat → Prop} {w w' : World} {b i : Nat} {F : Fl} {tv kv : Value} (h : FileAt S w b i F tv kv) (k : ∀ g, S g → w'.heap[g]? = w.heap[g]?) : FileAt S w' b i F tv kv :=
  ⟨(k b h.s1).trans h.blk, h.text.keep (fun g e => k g (h.s2 g e)), own_keep h.cuts (fun g e => k g (h.s3 g e)), h.s1, h.s2, h.s3⟩
theorem FileAt.keep' {S : Nat → Prop} {w w' : World} {b i : Nat} {F : Fl} {tv kv : Value} (h : FileAt S w b i F tv kv) (k1 : w'.heap[b]? = w.heap[b]?) (k2 : ∀ g, rowB tv = some g → w'.heap[g]? = w.heap[g]?) (k3 : ∀ g, kv.ownBlock = some g → w'.heap[g]? = w.heap[g]?) : FileAt S w' b i F tv kv :=
  ⟨k1.trans h.blk, h.text.keep k2, own_keep h.cuts k3, h.s1, h.s2, h.s3⟩
theorem FileAt.mono {S T : Nat → Prop} {w : World} {b i : Nat} {F : Fl} {tv kv : Value} (h : FileAt S w b i F tv kv) (k : ∀ g, S g → T g) : FileAt T w b i F tv kv :=
  ⟨h.blk, h.text, h.cuts, k _ h.s1, fun g e => k g (h.s2 g e), fun g e => k g (h.s3 g e)⟩

/-! ## Changes of names -/
def holdV (bl : Nat → Nat) (c : List Hold) : List Value := c.flatMap (fun h => [.string h.1, ptrV (h.2.map bl)])
theorem holdV_len (bl : Nat → Nat) (l : List Hold) : (holdV bl l).length = l.length * 2 := by
  induction l with
  | nil => rfl
  | cons c r ih => simp only [holdV, List.flatMap_cons, List.length_append, List.length_cons, List.length_nil] at ih ⊢; rw [ih]; omega
def HoldAt (S : Nat → Prop) (w : World) (bl : Nat → Nat) (v : Value) (c : List Hold) : Prop := w.ownsRow 0 68 2 v c.length (holdV bl c) ∧ ∀ g, v.ownBlock = some g → S g
theorem HoldAt.keep {S : Nat → Prop} {w w' : World} {bl : Nat → Nat} {v : Value} {c : List Hold} (h : HoldAt S w bl v c) (k : ∀ g, S g → (∃ cur, w.heap[g]? = some (.cells cur 68 (0, 0))) → w'.heap[g]? = w.heap[g]?) : HoldAt S w' bl v c :=
  ⟨own_keep h.1 (fun g e => k g (h.2 g e) (own_kind h.1 e)), h.2⟩
/-- The changes: the row of their slices, and each of them. -/
structure ChgsAt (S : Nat → Prop) (w : World) (bl : Nat → Nat) (cv : Value) (cs : List (List Hold)) : Prop where
  row : ∃ vs : List Value, w.ownsRow 0 105 1 cv cs.length vs ∧ ∀ k (hk : k < cs.length), ∃ v, vs[k]? = some v ∧ HoldAt S w bl v cs[k]
  s : ∀ g, cv.ownBlock = some g → S g
theorem ChgsAt.keep {S : Nat → Prop} {w w' : World} {bl : Nat → Nat} {cv : Value} {cs : List (List Hold)} (h : ChgsAt S w bl cv cs)
    (k : ∀ g, S g → (∃ cur t, (t = 68 ∨ t = 105) ∧ w.heap[g]? = some (.cells cur t (0, 0))) → w'.heap[g]? = w.heap[g]?) : ChgsAt S w' bl cv cs := by
  obtain ⟨⟨vs, h1, h2⟩, h3⟩ := h
  refine ⟨⟨vs, own_keep h1 (fun g e => k g (h3 g e) ?_), fun j hj => ?_⟩, h3⟩
  · obtain ⟨cur, hc⟩ := own_kind h1 e
    exact ⟨cur, _, .inr rfl, hc⟩
  · obtain ⟨v, hv, hh⟩ := h2 j hj
    exact ⟨v, hv, hh.keep (fun g hg ⟨cur, hc⟩ => k g hg ⟨cur, _, .inl rfl, hc⟩)⟩
theorem HoldAt.mono {S T : Nat → Prop} {w : World} {bl : Nat → Nat} {v : Value} {c : List Hold} (h : HoldAt S w bl v c) (k : ∀ g, S g → T g) : HoldAt T w bl v c := ⟨h.1, fun g e => k g (h.2 g e)⟩
theorem ChgsAt.mono {S T : Nat → Prop} {w : World} {bl : Nat → Nat} {cv : Value} {cs : List (List Hold)} (h : ChgsAt S w bl cv cs) (k : ∀ g, S g → T g) : ChgsAt T w bl cv cs := by
  obtain ⟨⟨vs, h1, h2⟩, h3⟩ := h
  exact ⟨⟨vs, h1, fun j hj => by obtain ⟨v, hv, hh⟩ := h2 j hj; exact ⟨v, hv, hh.mono k⟩⟩, fun g e => k g (h3 g e)⟩

/-! ## The whole -/
structure Hd where
  room : Nat
  used : Int
  num : Nat
  made : Nat
  ops : Nat
  power : Int
  fail : Int
  bm : Nat
  mc : Nat
  cv : Value
  cs : List (List Hold)
  f : Nm
  bl : Nat → Nat
  fl : Nat → Fl
  tv : Nat → Value
  kv : Nat → Value
def diskCells (h : Hd) : Obj := .cells #[.int .i64 (h.room : Int), .int .i64 h.used, .int .i64 (h.num : Int), .int .i64 (h.ops : Int), .int .i64 h.power, .int .i64 h.fail, .map (some h.bm), h.cv] 49 (0, 0)
structure HeapDisk (S : Nat → Prop) (w : World) (p : Nat) (h : Hd) : Prop where
  blk : w.heap[p]? = some (diskCells h)
  map : MapIs w h.bm h.mc (fun n => (h.f n).map h.bl)
  files : ∀ i, i < h.made → FileAt S w (h.bl i) i (h.fl i) (h.tv i) (h.kv i)
  apart : ∀ i j, i < h.made → j < h.made → i ≠ j → (∀ g, rowB (h.tv i) = some g → rowB (h.tv j) ≠ some g) ∧ (∀ g, (h.kv i).ownBlock = some g → (h.kv j).ownBlock ≠ some g)
  chgs : ChgsAt S w h.bl h.cv h.cs
  sp : S p
  sm : S h.bm
  lt : ∀ b, S b → b < w.heap.size
  names : ∀ n i, h.f n = some i → i < h.made
  holds : ∀ c ∈ h.cs, c.length ≤ 2 ∧ ∀ x ∈ c, x.1.size ≤ maxLen ∧ ∀ i, x.2 = some i → i < h.made
theorem HeapDisk.keep {S : Nat → Prop} {w w' : World} {p : Nat} {h : Hd} (H : HeapDisk S w p h) (hs : w.heap.size ≤ w'.heap.size) (k : ∀ b, S b → w'.heap[b]? = w.heap[b]?) : HeapDisk S w' p h :=
  ⟨(k p H.sp).trans H.blk, H.map.keep (k _ H.sm), fun i hi => (H.files i hi).keep k, H.apart, H.chgs.keep (fun g hg _ => k g hg), H.sp, H.sm, fun b hb => Nat.lt_of_lt_of_le (H.lt b hb) hs, H.names, H.holds⟩
theorem HeapDisk.below {S : Nat → Prop} {w w' : World} {p : Nat} {h : Hd} (H : HeapDisk S w p h) (hb : Below w.heap.size w w') : HeapDisk S w' p h := H.keep hb.size (fun b h => hb.block b (H.lt b h))
/-- Another disk's operation does not touch it. -/
theorem HeapDisk.other {S T : Nat → Prop} {w w' : World} {p : Nat} {h : Hd} (H : HeapDisk S w p h) (hb : Only T w w') (k : ∀ b, S b → T b → False) : HeapDisk S w' p h := H.keep hb.size (fun b h => hb.block b (H.lt b h) (k b h))
theorem HeapDisk.mono {S T : Nat → Prop} {w : World} {p : Nat} {h : Hd} (H : HeapDisk S w p h) (k : ∀ b, S b → T b) (hl : ∀ b, T b → b < w.heap.size) : HeapDisk T w p h :=
  ⟨H.blk, H.map, fun i hi => (H.files i hi).mono k, H.apart, H.chgs.mono k, k _ H.sp, k _ H.sm, hl, H.names, H.holds⟩
theorem HeapDisk.wide {S : Nat → Prop} (w : World) {w' : World} {p : Nat} {h : Hd} (H : HeapDisk S w' p h) : HeapDisk (more S w w') w' p h :=
  H.mono (fun _ => .inl) (fun b hb => by rcases hb with hb | hb; exact H.lt b hb; exact hb.2)
/-- Its own cells are others; all else is as it was. -/
theorem HeapDisk.cells {S : Nat → Prop} {w w' : World} {p : Nat} {h h' : Hd} (H : HeapDisk S w p h) (hs : w.heap.size ≤ w'.heap.size) (k : ∀ b, S b → b ≠ p → w'.heap[b]? = w.heap[b]?) (hp : w'.heap[p]? = some (diskCells h'))
    (e : h' = { h with room := h'.room, used := h'.used, num := h'.num, ops := h'.ops, power := h'.power, fail := h'.fail }) : HeapDisk S w' p h' := by
  obtain ⟨room, used, num, made, ops, power, fail, bm, mc, cv, cs, f, bl, fl, tv, kv⟩ := h
  obtain ⟨room', used', num', made', ops', power', fail', bm', mc', cv', cs', f', bl', fl', tv', kv'⟩ := h'
  simp only [Hd.mk.injEq, true_and] at e
  obtain ⟨rfl, rfl, rfl, rfl, rfl, rfl, rfl, rfl, rfl, rfl⟩ := e
  have hb := H.blk
  refine ⟨hp, H.map.keep (k _ H.sm ?_), fun i hi => (H.files i hi).keep' ?_ (fun g e => ?_) (fun g e => ?_), H.apart, H.chgs.keep (fun g hg hx => ?_), H.sp, H.sm, fun b hb => Nat.lt_of_lt_of_le (H.lt b hb) hs, H.names, H.holds⟩
  · obtain ⟨es, c, hm⟩ := H.map.block
    exact (kind_map hb hm).symm
  · exact k _ (H.files i hi).s1 (kind_ne hb (H.files i hi).blk (by decide)).symm
  · obtain ⟨cur, hc⟩ := (H.files i hi).text.kind e
    exact k _ ((H.files i hi).s2 g e) (kind_ne hb hc (by decide)).symm
  · obtain ⟨cur, hc⟩ := own_kind (H.files i hi).cuts e
    exact k _ ((H.files i hi).s3 g e) (kind_ne hb hc (by decide)).symm
  · obtain ⟨cur, t, ht, hc⟩ := hx
    exact k _ hg (kind_ne hb hc (by rcases ht with rfl | rfl <;> decide)).symm

def diskArr (h : Hd) : Array Value := #[.int .i64 (h.room : Int), .int .i64 h.used, .int .i64 (h.num : Int), .int .i64 (h.ops : Int), .int .i64 h.power, .int .i64 h.fail, .map (some h.bm), h.cv]
theorem cell_of {w : World} {b : Nat} {cs : Array Value} {t : TypeId} {v : Value} (h : w.heap[b]? = some (.cells cs t (0, 0))) (j : Nat) (e : cs[j]? = some v) : w.cell? ⟨b, j, none⟩ = some v := by simp [World.cell?, h, e]
theorem frozen_of {w : World} {b : Nat} {cs : Array Value} {t : TypeId} (h : w.heap[b]? = some (.cells cs t (0, 0))) (j : Nat) : w.frozen? ⟨b, j, none⟩ = false := by simp [World.frozen?, h]
theorem HeapDisk.look {S : Nat → Prop} {w : World} {p : Nat} {h : Hd} (H : HeapDisk S w p h) :
    w.cell? ⟨p, 0, none⟩ = some (.int .i64 (h.room : Int)) ∧ w.cell? ⟨p, 1, none⟩ = some (.int .i64 h.used) ∧ w.cell? ⟨p, 2, none⟩ = some (.int .i64 (h.num : Int)) ∧ w.cell? ⟨p, 3, none⟩ = some (.int .i64 (h.ops : Int)) ∧
    w.cell? ⟨p, 4, none⟩ = some (.int .i64 h.power) ∧ w.cell? ⟨p, 5, none⟩ = some (.int .i64 h.fail) ∧ w.cell? ⟨p, 6, none⟩ = some (.map (some h.bm)) ∧ w.cell? ⟨p, 7, none⟩ = some h.cv ∧ (∀ j, w.frozen? ⟨p, j, none⟩ = false) :=
  ⟨cell_of H.blk 0 rfl, cell_of H.blk 1 rfl, cell_of H.blk 2 rfl, cell_of H.blk 3 rfl, cell_of H.blk 4 rfl, cell_of H.blk 5 rfl, cell_of H.blk 6 rfl, cell_of H.blk 7 rfl, frozen_of H.blk⟩
theorem HeapDisk.set {S : Nat → Prop} {w : World} {p : Nat} {h : Hd} (H : HeapDisk S w p h) (h' : Hd) (i : Nat) (v : Value) (hc : (diskArr h).setIfInBounds i v = diskArr h')
    (e : h' = { h with room := h'.room, used := h'.used, num := h'.num, ops := h'.ops, power := h'.power, fail := h'.fail }) : HeapDisk S (w.setCell ⟨p, i, none⟩ v) p h' := by
  refine H.cells (by simp [World.setCell]) (fun b _ hb => Below.heap_setCell _ _ _ _ hb) ?_ e
  rw [show (w.setCell ⟨p, i, none⟩ v).heap[p]? = some (.cells ((diskArr h).setIfInBounds i v) 49 (0, 0)) from heap_setCell_same w p i _ _ v H.blk, hc]
  rfl
theorem HeapDisk.only {S : Nat → Prop} {w : World} {p : Nat} {h : Hd} (H : HeapDisk S w p h) (i : Nat) (v : Value) : Only S w (w.setCell ⟨p, i, none⟩ v) := (Only.refl S w).setCell (p := ⟨p, i, none⟩) H.sp v

end Go.Proofs.YtleomppgkikhnaaGreat
