/-
  One more destination behind a copy of destinations.
-/
import Derived.Test.YtjbdofjheeljkaaLdgDupW
import Derived.Test.YtjbdofjheeljkaaLdgDoc
import Derived.Test.YtjbdofjheeljkaaPlain
import Derived.Test.YtjbdofjheeljkaaLdgRowCW
namespace Go.Proofs.Ytjbdofjheeljkaa
open Go.RowKit
open Ldg (De Le Rd Rl)

/-- 'append(bad.Dests, d)', d in a row of one. -/
theorem OwnP.app {w : World} {B : Nat} {v : Value} {ps : List DV} (h : OwnP w B v ps) (hB : B ≤ w.heap.size) (q : DV) (hq : SlIn (fun b => b < B) w q.2 q.1.above) {b : Nat} (hc : w.heap[b]? = some (.cells (drow q).toArray 41 (0, 0))) (hl : ps.length ≤ 1000000) (ty : TypeId) (hv : ∀ g, v.ownBlock = some g → B ≤ g) :
    ∃ v' w', (Builtin.append_ #[25, 25] ty #[v, .slice (some ⟨b, 0, none⟩) 1 1]).run Try.prog w = .ok v' w' ∧ OwnP w' B v' (ps ++ [q]) ∧ w.grownBy w' v.ownBlock ∧ (v'.ownBlock = v.ownBlock ∨ v'.ownBlock = some w.heap.size) := by
  obtain ⟨i0, hi, hz0, hz1, hz2⟩ := info_parts info_dest
  obtain ⟨v', w', hr, ho, hg, hob⟩ := Ldg.app_own w B 25 ty 41 i0 _ 7 80 dests_under hi hz0 hz1 hz2 (by kernel_rfl) (by decide) v ps.length (drows ps) h.row ⟨b, 0, none⟩ 1 1 (drow q) rfl (fun j u hu => by
      rw [Addr.add_lit, Nat.zero_add]
      refine lcell_of hc j ?_
      rw [List.getElem?_toArray]; exact hu) (drows_one [q] (fun p hp => by
      have := List.mem_singleton.1 hp
      subst this
      obtain ⟨a', c', e, _⟩ := hq
      rw [e]; rfl) |> fun k u hu => k u (by simpa [drows] using hu)) (by unfold maxLen; omega) (by omega) hB
  refine ⟨v', w', hr, ⟨?_, fun p hp => ?_⟩, hg, hob⟩
  · rw [List.length_append, drows_app]
    have : drows [q] = drow q := by simp [drows]
    rw [this]
    exact ho
  · rcases List.mem_append.1 hp with hp | hp
    · exact (h.sls p hp).keep hg.size (fun b hbl hx => hg.block b hbl (fun e => by have := hv b e.symm; omega))
    · have := List.mem_singleton.1 hp
      subst this
      exact hq.keep hg.size (fun b hbl hx => hg.block b hbl (fun e => by have := hv b e.symm; omega))
/-- A row that lies at n or above is all that an append writes. -/
theorem below_grown {n : Nat} {w w' : World} {row : Option Nat} (h : w.grownBy w' row) (hr : ∀ g, row = some g → n ≤ g) (hn : n ≤ w.heap.size) : Below n w w' :=
  ⟨h.os, h.tape, h.output, h.size, fun k hk => h.block k (by omega) (fun e => by have := hr k e.symm; omega)⟩
/-- Where a row that is not empty lies. -/
theorem OwnP.at {w : World} {B : Nat} {v : Value} {ps : List DV} (h : OwnP w B v ps) (hp : 0 < ps.length) : ∃ g c, v = .slice (some ⟨g, 0, none⟩) ps.length c ∧ B ≤ g := by
  rcases h.row.2 with ⟨rfl, h0⟩ | ⟨g, cap, cur, rfl, hB, hg, hnc, hcm, hcs, htake⟩
  · omega
  · exact ⟨g, cap, rfl, hB⟩
theorem OwnP.below {w w' : World} {B n : Nat} {v : Value} {ps : List DV} (h : OwnP w B v ps) (hb : Below n w w') (hn : n = w.heap.size) : OwnP w' B v ps := by
  subst hn
  exact ⟨lown_keep h.row (fun b e => hb.block b (lown_lt h.row e).1), fun p hp => (h.sls p hp).below hb⟩
theorem OwnP.kept {w w' : World} {B Z g n c : Nat} {ps : List DV} (h : OwnP w B (.slice (some ⟨g, 0, none⟩) n c) ps) (k : Kept (fun b => b ≠ Z) w w') (hz : B ≤ Z) (hg : Z ≠ g) : OwnP w' B (.slice (some ⟨g, 0, none⟩) n c) ps :=
  ⟨lown_keep h.row (fun b e => k.block b (by cases e; exact Ne.symm hg)), fun p hp => (h.sls p hp).keep k.size (fun b _ hx => k.block b (by omega))⟩
/-- A box Z of a ledger whose destinations lie in a row of the call's own, behind Z; their numbers lie ahead of Z. -/
structure DupI (w : World) (Z g n c F N : Nat) (ps : List DV) : Prop where
  cell : w.heap[Z]? = some (.cells #[.int .u64 (F : Int), .int .u64 (N : Int), .slice (some ⟨g, 0, none⟩) n c] 27 (0, 0))
  own : OwnP w Z (.slice (some ⟨g, 0, none⟩) n c) ps
  zg : Z < g
  len : n = ps.length
theorem DupI.then {w w' : World} {Z g n c F N m : Nat} {ps : List DV} (h : DupI w Z g n c F N ps) (hb : Below m w w') (hm : m = w.heap.size) : DupI w' Z g n c F N ps :=
  ⟨(hb.block _ (by rw [hm]; exact (Array.getElem?_eq_some_iff.1 h.cell).1)).trans h.cell, h.own.below hb hm, h.zg, h.len⟩
theorem DupI.made {w : World} {Z g n c F N m' c' : Nat} {a' : Option Addr} {ps : List DV} (hz : w.heap[Z]? = some (.cells #[.int .u64 (F : Int), .int .u64 (N : Int), .slice a' m' c'] 27 (0, 0))) (ho : OwnP w Z (.slice (some ⟨g, 0, none⟩) n c) ps) (hg : Z < g) (hn : n = ps.length) :
    DupI (w.setCell ⟨Z, 2, none⟩ (.slice (some ⟨g, 0, none⟩) n c)) Z g n c F N ps :=
  ⟨by simp [World.setCell, hz, Array.getElem?_modify], ho.kept (Kept.setCell (Kept.refl _ _) (fun _ h e => h e) _) (Nat.le_refl _) (by omega), hg, hn⟩
theorem DupI.first {w : World} {Z g n c F N F' : Nat} {ps : List DV} (h : DupI w Z g n c F N ps) {v : Value} (hv : v = .int .u64 (F' : Int)) : DupI (w.setCell ⟨Z, 0, none⟩ v) Z g n c F' N ps := by
  subst hv
  exact ⟨by simp [World.setCell, h.cell, Array.getElem?_modify], h.own.kept (Kept.setCell (Kept.refl _ _) (fun _ h e => h e) _) (Nat.le_refl _) (by have := h.zg; omega), h.zg, h.len⟩
theorem DupI.one {w : World} {Z g n c F N : Nat} {ps : List DV} (h : DupI w Z g n c F N ps) {k : Nat} (hk : k < ps.length) {i : Nat} (hi : i < 7) (u : Value) (q : DV) (hq : drow q = (drow ps[k]).set i u) (hs : SlIn (fun b => b < Z) w q.2 q.1.above) :
    DupI (w.setCell ⟨g, k * 7 + i, none⟩ u) Z g n c F N (ps.set k q) :=
  ⟨(Below.heap_setCell _ _ _ _ (by have := h.zg; show Z ≠ g; omega)).trans h.cell, h.own.one (by have := h.zg; omega) hk hi u q hq hs h.len, h.zg, by rw [List.length_set]; exact h.len⟩
theorem DupI.led {w : World} {Z g n c F N : Nat} {ps : List DV} (h : DupI w Z g n c F N ps) : LedAt w (.agg #[.int .u64 (F : Int), .int .u64 (N : Int), .slice (some ⟨g, 0, none⟩) n c]) ⟨F, N, ps.map Prod.fst⟩ := h.own.led F N
/-- The cells of one. -/
theorem DupI.cells {w : World} {Z g n c F N : Nat} {ps : List DV} (h : DupI w Z g n c F N ps) {k : Nat} (hk : k < ps.length) : ∀ (i : Nat) (u : Value), (drow ps[k])[i]? = some u → w.cell? ⟨g, k * 7 + i, none⟩ = some u := by
  intro i u hu
  have hi : i < 7 := by
    have := (List.getElem?_eq_some_iff.1 hu).1
    rwa [drow_len] at this
  obtain rfl := h.len
  have hb : k * 7 + i < ps.length * 7 := by omega
  rw [World.ownsRow.cellAt h.own.row _ hb, drows_at ps k i hk hi]
  exact hu
theorem DupI.frozen {w : World} {Z g n c F N : Nat} {ps : List DV} (h : DupI w Z g n c F N ps) : ∀ j, w.frozen? ⟨g, j, none⟩ = false := by
  rcases h.own.row.2 with ⟨e, _⟩ | ⟨g', cap, cur, e, hB, hg, _⟩
  · cases e
  · cases e
    exact lfrozen_of hg
/-- 'bad.Dests[k].Above = []uint64{x}'. -/
theorem DupI.above {w : World} {Z g n c F N b x : Nat} {ps : List DV} (h : DupI w Z g n c F N ps) {k : Nat} (hk : k < ps.length) (hb : w.heap[b]? = some (.cells #[.int .u64 (x : Int)] 23 (0, 0))) (hbg : b ≠ g) (e : De) (he : e = { ps[k].1 with above := [x] }) :
    LedAt (w.setCell ⟨g, k * 7 + 3, none⟩ (.slice (some ⟨b, 0, none⟩) 1 1)) (.agg #[.int .u64 (F : Int), .int .u64 (N : Int), .slice (some ⟨g, 0, none⟩) n c]) ⟨F, N, (ps.map Prod.fst).set k e⟩ := by
  obtain rfl := h.len
  have hrow := lown_set h.own.row (k * 7 + 3) (.slice (some ⟨b, 0, none⟩) 1 1)
  rw [drows_set ps k 3 (.slice (some ⟨b, 0, none⟩) 1 1) (e, .slice (some ⟨b, 0, none⟩) 1 1) hk (by omega) (by subst he; rfl)] at hrow
  have hcc : ps.length ≤ c := by
    obtain ⟨a, cap, e1, h1, _⟩ := h.own.view
    cases e1; exact h1
  have hkb : ∀ i, i ≠ g → (w.setCell ⟨g, k * 7 + 3, none⟩ (.slice (some ⟨b, 0, none⟩) 1 1)).heap[i]? = w.heap[i]? := fun i hi => Below.heap_setCell _ _ _ _ hi
  have hsz : (w.setCell ⟨g, k * 7 + 3, none⟩ (.slice (some ⟨b, 0, none⟩) 1 1)).heap.size = w.heap.size := by simp [World.setCell]
  have hgl : g < w.heap.size := (lown_lt h.own.row rfl).1
  refine ⟨some ⟨g, 0, none⟩, c, ps.set k (e, .slice (some ⟨b, 0, none⟩) 1 1), by rw [List.length_set], by rw [List.length_set]; exact hcc, by rw [List.map_set], ⟨fun i hi => ⟨g, 0, rfl, by omega, fun j hj m u hu => ?_⟩, fun p hp => ?_⟩⟩
  · have hm : m < 7 := by
      have := (List.getElem?_eq_some_iff.1 hu).1
      rwa [drow_len] at this
    have hj' : j < ps.length := by rwa [List.length_set] at hj
    have hb : j * 7 + m < ps.length * 7 := by omega
    rw [Nat.zero_add, World.ownsRow.cellAt hrow _ hb, drows_at _ j m hj hm]
    exact hu
  · rcases List.mem_or_eq_of_mem_set hp with hp | rfl
    · exact ((h.own.sls p hp).keep (by omega) (fun i _ hx => hkb i (by have := h.zg; omega))).mono (fun _ _ _ => trivial)
    · have hb2 := (hkb b hbg).trans hb
      subst he
      exact SlIn.row (l := [x]) (r := []) hb2 trivial (Nat.le_refl _)
/-- A box of a ledger that is not right. -/
structure BadI (w : World) (Z N : Nat) : Prop where
  out : ∃ (F2 : Nat) (a : Option Addr) (n c : Nat) (L : Le), w.heap[Z]? = some (.cells #[.int .u64 (F2 : Int), .int .u64 (N : Int), .slice a n c] 27 (0, 0)) ∧ LedAt w (.agg #[.int .u64 (F2 : Int), .int .u64 (N : Int), .slice a n c]) L ∧ L.right = false ∧ L.dests.length ≤ 1000 ∧ ∀ d ∈ L.dests, De.Small d
theorem DupI.bad {w : World} {Z g n c F N : Nat} {ps : List DV} (h : DupI w Z g n c F N ps) (hb : (Le.mk F N (ps.map Prod.fst)).right = false) (hl : ps.length ≤ 1000) (hs : ∀ d ∈ ps.map Prod.fst, De.Small d) : BadI w Z N :=
  ⟨F, _, n, c, _, h.cell, h.led, hb, by rw [List.length_map]; exact hl, hs⟩
theorem set_small {l : List De} {k : Nat} {e : De} (hs : ∀ d ∈ l, De.Small d) (he : De.Small e) : ∀ d ∈ l.set k e, De.Small d := by
  intro d hd
  rcases List.mem_or_eq_of_mem_set hd with h | rfl
  · exact hs d h
  · exact he
theorem DupI.badAt {w : World} {Z g n c F N : Nat} {ps : List DV} {k : Nat} {q : DV} (h : DupI w Z g n c F N (ps.set k q)) (hk : k < ps.length) (hb : q.1.right F N = false) (hl : ps.length ≤ 1000) (hs : ∀ d ∈ ps.map Prod.fst, De.Small d) (he : De.Small q.1) : BadI w Z N := by
  refine h.bad ?_ (by rw [List.length_set]; exact hl) ?_
  · rw [List.map_set]; exact Ldg.set_bad (by rw [List.length_map]; exact hk) hb
  · rw [List.map_set]; exact set_small hs he
theorem abs_ak {R : Rl} (hR : R.Ok) {d : De} (hd : d ∈ R.abs.dests) : d.ak ≤ 10000000 := by
  obtain ⟨r, hr, rfl⟩ := List.mem_map.1 hd
  have h1 := (hR.each r hr).ends
  have h2 := hR.nb
  have h3 := List.count_le_length (a := 97) (l := r.all)
  show r.all.count 97 ≤ 10000000
  omega
end Go.Proofs.Ytjbdofjheeljkaa
