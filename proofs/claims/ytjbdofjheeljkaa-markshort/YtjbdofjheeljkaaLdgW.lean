/-
  A ledger in memory: numbers, destinations, as walks read them; numbers, copied, placeOf.
-/
import Derived.Test.YtjbdofjheeljkaaBase
import Derived.Test.YtjbdofjheeljkaaPlain
import Derived.Laws.OwnMore
import Derived.OwnWalk
import Derived.Deep.RegionLaw
import Derived.Laws.AppendOwnNone
import Derived.Laws.Rows
import Derived.Laws.CopyOwn
import Derived.Deep.OwnRows
namespace Go.Proofs.Ytjbdofjheeljkaa
open Go.RowKit
open Ldg (De Le Rd Rl)

def uV (l : List Nat) : List Value := l.map (fun x : Nat => Value.int .u64 (x : Int))
/-- Numbers behind an address, in a block of X. -/
def U64In (X : Nat → Prop) (w : World) (a : Option Addr) (l : List Nat) : Prop :=
  ∀ i, i < l.length → ∃ b off, a = some ⟨b, off, none⟩ ∧ b < w.heap.size ∧ X b ∧ ∀ j (h : j < l.length), w.cell? ⟨b, off + j, none⟩ = some (.int .u64 (l[j] : Int))
/-- A slice value whose elements are the numbers. -/
def SlIn (X : Nat → Prop) (w : World) (v : Value) (l : List Nat) : Prop := ∃ a c, v = .slice a l.length c ∧ l.length ≤ c ∧ (a = none → c = 0) ∧ U64In X w a l
theorem U64In.keep {X : Nat → Prop} {w w' : World} {a : Option Addr} {l : List Nat} (h : U64In X w a l) (hs : w.heap.size ≤ w'.heap.size) (hk : ∀ b, b < w.heap.size → X b → w'.heap[b]? = w.heap[b]?) : U64In X w' a l := by
  intro i hi
  obtain ⟨b, off, ha, hb, hx, hc⟩ := h i hi
  exact ⟨b, off, ha, by omega, hx, fun j hj => (World.cell?_of_block (w := w) (hk b hb hx)).trans (hc j hj)⟩
theorem SlIn.keep {X : Nat → Prop} {w w' : World} {v : Value} {l : List Nat} (h : SlIn X w v l) (hs : w.heap.size ≤ w'.heap.size) (hk : ∀ b, b < w.heap.size → X b → w'.heap[b]? = w.heap[b]?) : SlIn X w' v l := by
  obtain ⟨a, c, e, h1, h2, h3⟩ := h
  exact ⟨a, c, e, h1, h2, h3.keep hs hk⟩
theorem SlIn.below {X : Nat → Prop} {w w' : World} {v : Value} {l : List Nat} (h : SlIn X w v l) (hb : Below w.heap.size w w') : SlIn X w' v l := h.keep hb.size (fun b hl _ => hb.block b hl)
theorem SlIn.mono {X Y : Nat → Prop} {w : World} {v : Value} {l : List Nat} (h : SlIn X w v l) (k : ∀ b, b < w.heap.size → X b → Y b) : SlIn Y w v l := by
  obtain ⟨a, c, e, h1, h2, h3⟩ := h
  exact ⟨a, c, e, h1, h2, fun i hi => by obtain ⟨b, off, ha, hb, hx, hc⟩ := h3 i hi; exact ⟨b, off, ha, hb, k b hb hx, hc⟩⟩
theorem SlIn.nil (X : Nat → Prop) (w : World) : SlIn X w (.slice none 0 0) [] := ⟨none, 0, rfl, Nat.le_refl _, fun _ => rfl, fun i hi => by simp at hi⟩
theorem U64In.get {X : Nat → Prop} {w wr : World} {a : Option Addr} {l : List Nat} (h : U64In X w a l) (hnx : Below w.heap.size w wr) {k : Nat} (hk : k < l.length) :
    ∃ b off x, a = some ⟨b, off, none⟩ ∧ b < w.heap.size ∧ l[k] = x ∧ wr.cell? ⟨b, off + k, none⟩ = some (.int .u64 (x : Int)) := by
  obtain ⟨b, off, ha, hb, _, hc⟩ := h k hk
  exact ⟨b, off, _, ha, hb, rfl, (hnx.cell (by exact hb)).trans (hc k hk)⟩
theorem U64In.cells {X : Nat → Prop} {w : World} {x : Addr} {l : List Nat} (h : U64In X w (some x) l) : ∀ j u, (uV l)[j]? = some u → w.cell? (x.add j) = some u := by
  intro j u hj
  have hl : j < l.length := by
    have := (List.getElem?_eq_some_iff.1 hj).1
    simpa [uV] using this
  obtain ⟨b, off, ha, _, _, hc⟩ := h j hl
  cases ha
  rw [Addr.add_lit, hc j hl]
  simp only [uV, List.getElem?_map, List.getElem?_eq_getElem hl, Option.map_some, Option.some.injEq] at hj
  rw [hj]
theorem uV_one (l : List Nat) : ∀ u ∈ uV l, u.oneCell' = true := by
  intro u hu
  obtain ⟨x, _, rfl⟩ := List.mem_map.1 hu
  rfl
theorem lcell_of {w : World} {b : Nat} {cs : Array Value} {t : TypeId} {z : Nat × Nat} {x : Value} (h : w.heap[b]? = some (.cells cs t z)) (i : Nat) (hi : cs[i]? = some x) : w.cell? ⟨b, i, none⟩ = some x := by
  simp [World.cell?, h, hi]
/-- A row of numbers, from its head. -/
theorem SlIn.row {w : World} {g c : Nat} {l : List Nat} {t : TypeId} {z : Nat × Nat} {X : Nat → Prop} {r : List Value} (hg : w.heap[g]? = some (.cells (uV l ++ r).toArray t z)) (hx : X g) (hc : l.length ≤ c) : SlIn X w (.slice (some ⟨g, 0, none⟩) l.length c) l := by
  refine ⟨_, c, rfl, hc, fun e => (by cases e), fun i hi => ⟨g, 0, rfl, (Array.getElem?_eq_some_iff.1 hg).1, hx, fun j hj => ?_⟩⟩
  rw [Nat.zero_add]
  refine lcell_of hg j ?_
  simp [uV, hj, List.getElem?_append_left]
theorem u64_info : (Try.prog.info? 23).map (fun i => (i.zero, i.size, i.bytes)) = some (some (.int .u64 0), 1, 8) := by kernel_rfl
theorem u64_size : (Try.prog.info? 23).map (·.size) = some 1 := by kernel_rfl
theorem u64s_under : Try.prog.underlying 39 = some (.slice 23) := by kernel_rfl
/-- 'make([]uint64, n)'. -/
theorem make_u64 (w : World) (n : Nat) (hn : n ≤ 1000000000) :
    ∃ w2 : World, (Instr.makeSlice 39 (.int .i64 (n : Int)) (.int .i64 (n : Int))).run Try.prog w = .ok (.slice (some ⟨w.heap.size, 0, none⟩) n n) w2 ∧ w2.heap.size = w.heap.size + 1 ∧ Below w.heap.size w w2 ∧ w2.heap[w.heap.size]? = some (.cells (uV (List.replicate n 0)).toArray 23 (0, 0)) := by
  refine ⟨_, run_make_row' 39 23 (.int .u64 0) 8 u64s_under u64_info rfl .i64 .i64 n (by omega) (by omega) w, by simp, (Below.refl _ _).alloc (Nat.le_refl _) _, ?_⟩
  show (w.heap.push _)[w.heap.size]? = _
  rw [Array.getElem?_push, if_pos rfl]
  have : (madeCells #[Value.int .u64 0] n) = (uV (List.replicate n 0)).toArray := by
    apply Array.ext'
    rw [toList_madeCells_one]
    simp [uV]
  rw [this]
/-- 'copy(out[o:], l)': out a row that is known whole; what was, is 'cur'. -/
theorem copy_u64 {X : Nat → Prop} {w : World} {g o c n c2 : Nat} {a d : Option Addr} {cur l : List Nat} (ty : TypeId) (hg : w.heap[g]? = some (.cells (uV cur).toArray 23 (0, 0))) (hs : U64In X w a l) (hl : l.length ≤ n) (hfit : o + l.length ≤ cur.length) (hd : 0 < l.length → d = some ⟨g, o, none⟩) :
    ∃ w2 : World, (Builtin.copy_ #[39, 39] ty #[.slice d n c, .slice a l.length c2]).run Try.prog w = .ok (.int .i64 (l.length : Int)) w2 ∧ w2.heap.size = w.heap.size ∧ (∀ b, b ≠ g → w2.heap[b]? = w.heap[b]?) ∧ w2.os = w.os ∧ w2.tape = w.tape ∧ w2.output = w.output ∧ w2.heap[g]? = some (.cells (uV (cur.take o ++ l ++ cur.drop (o + l.length))).toArray 23 (0, 0)) := by
  by_cases h0 : l.length = 0
  · obtain rfl : l = [] := List.eq_nil_of_length_eq_zero h0
    refine ⟨w, run_copy_none (P := Try.prog) w _ _ ty 23 d a n c 0 c2 u64s_under u64_size (by simp), rfl, fun _ _ => rfl, rfl, rfl, rfl, ?_⟩
    simpa using hg
  · obtain ⟨b, off, ha, _⟩ := hs 0 (by omega)
    obtain rfl := hd (by omega)
    subst ha
    have hr := run_copy_row (P := Try.prog) w 39 39 ty 23 g o n c ⟨b, off, none⟩ l.length c2 (uV cur).toArray 23 (uV l) u64s_under u64_size hg (by simp [uV, hl]) hs.cells (by simpa [uV] using hfit) (uV_one l)
    refine ⟨_, hr.trans (congrArg (fun v => Result.ok v _) (by simp [goInt, uV])), by simp [World.setRow], fun b hb => setRow_other w g b _ hb, rfl, rfl, rfl, ?_⟩
    rw [setRow_heap w g _ _ _ _ hg]
    simp [uV, List.map_take, List.map_drop]

set_option maxRecDepth 100000 in
set_option maxHeartbeats 800000 in
theorem numbers_any {X : Nat → Prop} {w : World} {v : Value} {l : List Nat} (h : SlIn X w v l) (hl : l.length ≤ 1000000000) :
    Calls Try.prog 79 #[v] w fun e w' => ∃ v', e = .returned v' ∧ SlIn (fun b => w.heap.size ≤ b) w' v' l ∧ Below w.heap.size w w' := by
  obtain ⟨a, c, rfl, hc, hz, hu⟩ := h
  obtain ⟨n, hn⟩ : ∃ n, l.length = n := ⟨_, rfl⟩
  obtain ⟨w2, hm, hsz, hb2, hg2⟩ := make_u64 w l.length hl
  have hu2 : U64In X w2 a l := hu.keep hb2.size (fun b hb _ => hb2.block b hb)
  obtain ⟨w3, hcp, hsz3, hk3, k1, k2, k3, hg3⟩ := copy_u64 (o := 0) (c := l.length) (n := l.length) (c2 := c) (d := some ⟨w.heap.size, 0, none⟩) 3 hg2 hu2 (Nat.le_refl _) (by simp) (fun _ => rfl)
  have hb3 : Below w.heap.size w w3 := hb2.trans ⟨k1, k2, k3, by omega, fun k hk => hk3 k (by omega)⟩
  have hfin : SlIn (fun b => w.heap.size ≤ b) w3 (.slice (some ⟨w.heap.size, 0, none⟩) l.length l.length) l := by
    refine SlIn.row (r := []) (t := 23) (z := (0, 0)) ?_ (Nat.le_refl _) (Nat.le_refl _)
    rw [hg3]; simp
  have HF := hide hfin
  have HB := hide hb3
  rw [hn] at hm hcp HF hl hc ⊢
  clear hu hu2 hg2 hg3 hsz3 hk3 k1 k2 k3 hb2 hb3 hfin hn hsz
  go_enter Try.func79, Try.ntmps79
  go_wp2
  go_ret
  exact ⟨_, rfl, HF.out, HB.out⟩
end Go.Proofs.Ytjbdofjheeljkaa
