/-
  A disk that is made file by file, as a crash leaves it.
-/
import Derived.Test.YtleomppgkikhnaaGreatDskAct4W
import Derived.Test.YtleomppgkikhnaaGreatPlain
namespace Go.Proofs.YtleomppgkikhnaaGreat
open Go.RowKit
open Dsk (Nm Hold Fl Ct By Dk FRel NRel)

def built (room : Nat) (ps : List (ByteArray × By)) : Dk := ⟨room, ps.map (fun p => [p.2]), [Dsk.numbered 0 ps], 0, 0, -1⟩
theorem crash_built (k : Int) (ks : List Int) (D : Dk) : Dsk.crash k ks D = built D.room (Dsk.picks D k ks) := rfl
theorem numbered_snoc : ∀ (l : List (ByteArray × By)) (i : Nat) (p : ByteArray × By), Dsk.numbered i (l ++ [p]) = Dsk.numbered i l ++ [(p.1, i + l.length)]
  | [], i, p => rfl
  | x :: l, i, p => by
    simp only [List.cons_append, Dsk.numbered, numbered_snoc l (i + 1) p, List.length_cons]
    rw [show i + 1 + l.length = i + (l.length + 1) by omega]
theorem built_now (room : Nat) (ps : List (ByteArray × By)) {j : Nat} (hj : j < ps.length) : Dsk.hist (built room ps) j = [ps[j].2] ∧ Dsk.now (built room ps) j = ps[j].2 := by
  have h : Dsk.hist (built room ps) j = [ps[j].2] := by
    unfold Dsk.hist built
    simp only
    rw [List.getD_eq_getElem?_getD, List.getElem?_map, List.getElem?_eq_getElem hj]
    rfl
  exact ⟨h, by unfold Dsk.now; rw [h]; rfl⟩
theorem built_used (room : Nat) (ps : List (ByteArray × By)) : Dsk.used (built room ps) = (ps.map (fun p => p.2.length)).sum := by
  unfold Dsk.used
  show ((Dsk.numbered 0 ps).map (fun p => (Dsk.now (built room ps) p.2).length)).sum = _
  exact Dsk.numbered_sum (fun i => (Dsk.now (built room ps) i).length) ps 0 (fun j hj => by simp only [Nat.zero_add]; rw [(built_now room ps hj).2])
theorem built_snoc_used (room : Nat) (ps : List (ByteArray × By)) (p : ByteArray × By) : Dsk.used (built room (ps ++ [p])) = Dsk.used (built room ps) + p.2.length := by
  rw [built_used, built_used, List.map_append, List.sum_append]
  simp

/-- One file more, with its bytes. -/
theorem HeapDisk.addFile {S : Nat → Prop} {w : World} {p : Nat} {h : Hd} (H : HeapDisk S w p h) {b : Nat} {tv : Value} {t : By} (hb : w.heap[b]? = some (fileCells h.made tv (.slice none 0 0) 0)) (ht : TextAt w tv t) (hfr : ∀ g, rowB tv = some g → ¬ S g) (hcs : h.cs = []) :
    HeapDisk (fun x => S x ∨ x = b ∨ rowB tv = some x) w p { h with made := h.made + 1, bl := upd h.bl h.made b, fl := upd h.fl h.made ⟨t, [], 0⟩, tv := upd h.tv h.made tv, kv := upd h.kv h.made (.slice none 0 0) } := by
  have hbl : ∀ i, i < h.made → upd h.bl h.made b i = h.bl i := fun i hi => upd_ne _ _ (by omega)
  refine ⟨H.blk, H.map.eq ?_, fun i hi => ?_, fun i j hi hj hn => ?_, ?_, .inl H.sp, .inl H.sm, fun x hx => ?_, fun n i e => Nat.lt_succ_of_lt (H.names n i e), fun c hc => ⟨(H.holds c hc).1, fun x hx => ⟨((H.holds c hc).2 x hx).1, fun i e => Nat.lt_succ_of_lt (((H.holds c hc).2 x hx).2 i e)⟩⟩⟩
  · funext n
    cases e : h.f n with
    | none => rfl
    | some i => simp only [Option.map_some]; rw [hbl i (H.names n i e)]
  · show FileAt _ w (upd h.bl h.made b i) i (upd h.fl h.made ⟨t, [], 0⟩ i) (upd h.tv h.made tv i) (upd h.kv h.made (.slice none 0 0) i)
    by_cases e : i = h.made
    · subst e
      rw [upd_at, upd_at, upd_at, upd_at]
      exact ⟨hb, ht, World.ownsRow_nil _ _ _ _, .inr (.inl rfl), fun g e => .inr (.inr e), fun g e => (by cases e)⟩
    · rw [upd_ne _ _ e, upd_ne _ _ e, upd_ne _ _ e, upd_ne _ _ e]
      exact (H.files i (by simp only at hi; omega)).mono (fun _ => .inl)
  · simp only at hi hj ⊢
    by_cases e : i = h.made
    · subst e
      have e2 : j ≠ h.made := fun k => hn k.symm
      rw [upd_at, upd_at, upd_ne _ _ e2, upd_ne _ _ e2]
      exact ⟨fun g e k => hfr g e ((H.files j (by omega)).s2 g k), fun g e => (by cases e)⟩
    · rw [upd_ne _ _ e, upd_ne _ _ e]
      by_cases e2 : j = h.made
      · subst e2
        rw [upd_at, upd_at]
        exact ⟨fun g k e => hfr g e ((H.files i (by omega)).s2 g k), fun g _ e => (by cases e)⟩
      · rw [upd_ne _ _ e2, upd_ne _ _ e2]
        exact H.apart i j (by omega) (by omega) hn
  · obtain ⟨⟨vs, h1, h2⟩, h3⟩ := H.chgs
    refine ⟨⟨vs, h1, fun k hk => ?_⟩, fun g e => .inl (h3 g e)⟩
    simp only [hcs, List.length_nil] at hk
    exact absurd hk (Nat.not_lt_zero _)
  · rcases hx with hx | rfl | hx
    · exact H.lt x hx
    · exact (Array.getElem?_eq_some_iff.1 hb).1
    · obtain ⟨cur, hc⟩ := ht.kind hx
      exact (Array.getElem?_eq_some_iff.1 hc).1

/-- Behind q lies a disk of these files. -/
def Part (S : Nat → Prop) (w : World) (q room : Nat) (ps : List (ByteArray × By)) : Prop := ∃ h, HeapDisk S w q h ∧ Rel h (built room ps) ∧ h.mc ≤ ps.length ∧ h.fail ≤ 9223372036854775807 ∧ h.cs = []
theorem Part.below {S : Nat → Prop} {w w' : World} {q room : Nat} {ps : List (ByteArray × By)} (P : Part S w q room ps) (hb : Below w.heap.size w w') : Part S w' q room ps := by
  obtain ⟨h, H, r⟩ := P
  exact ⟨h, H.below hb, r⟩
theorem Part.wide {a w : World} {q room : Nat} {ps : List (ByteArray × By)} {w' : World} (P : Part (more noneS a w) w' q room ps) (hs : w.heap.size ≤ w'.heap.size) : Part (more noneS a w') w' q room ps := by
  obtain ⟨h, H, r⟩ := P
  refine ⟨h, H.mono (fun b hb => ?_) (fun b hb => ?_), r⟩
  · rcases hb with hb | hb
    · exact hb.elim
    · exact .inr (by omega)
  · rcases hb with hb | hb
    · exact hb.elim
    · exact hb.2
theorem Part.look {S : Nat → Prop} {w : World} {q room : Nat} {ps : List (ByteArray × By)} (P : Part S w q room ps) : ∃ bm, w.cell? ⟨q, 1, none⟩ = some (.int .i64 (((ps.map (fun p => p.2.length)).sum : Nat) : Int)) ∧ w.cell? ⟨q, 2, none⟩ = some (.int .i64 (ps.length : Int)) ∧ w.cell? ⟨q, 6, none⟩ = some (.map (some bm)) ∧ (∀ j, w.frozen? ⟨q, j, none⟩ = false) ∧ S q ∧ q < w.heap.size ∧ S bm ∧ bm ≠ q ∧ ∃ es kk, w.heap[bm]? = some (.map es kk) := by
  obtain ⟨h, H, R, _⟩ := P
  obtain ⟨_, c1, c2, _, _, _, c6, _, cf⟩ := H.look
  obtain ⟨es, k, hm⟩ := H.map.block
  refine ⟨h.bm, ?_, ?_, c6, cf, H.sp, H.lt _ H.sp, H.sm, (kind_map H.blk hm).symm, es, k, hm⟩
  · rw [c1, R.used, built_used]
  · rw [c2, R.num]; simp [built]
theorem find_fresh {l : List (ByteArray × By)} {n : ByteArray} (h : ∀ p ∈ l, p.1 ≠ n) (i : Nat) : Dsk.find (Dsk.numbered i l) n = none := by
  refine Dsk.find_none.2 fun x hx => ?_
  obtain ⟨j, hj, rfl⟩ := Dsk.numbered_mem hx
  exact h _ (List.getElem_mem hj)
theorem built_snoc (room : Nat) (ps : List (ByteArray × By)) (p : ByteArray × By) : built room (ps ++ [p]) = { built room ps with files := (built room ps).files ++ [[p.2]], dirs := [Dsk.numbered 0 ps ++ [(p.1, ps.length)]] } := by
  unfold built
  simp only [List.map_append, List.map_cons, List.map_nil, numbered_snoc, Nat.zero_add]
/-- A name is put for a file more: the map's store, and the disk behind it. -/
theorem Part.store {S : Nat → Prop} {w : World} {q room : Nat} {ps : List (ByteArray × By)} {bm : Nat} (P : Part S w q room ps) (hbm : w.cell? ⟨q, 6, none⟩ = some (.map (some bm))) {b : Nat} {tv : Value} {t : By} {n : ByteArray} (hb : w.heap[b]? = some (fileCells ps.length tv (.slice none 0 0) 0)) (ht : TextAt w tv t) (hfr : ∀ g, rowB tv = some g → ¬ S g)
    (hnew : ∀ p ∈ ps, p.1 ≠ n) (hn : n.size ≤ maxLen) (hl : ps.length ≤ 1000000000) :
    ∃ w2, (Instr.mapUpdate 46 (.map (some bm)) (.string n) (.pointer (some ⟨b, 0, none⟩))).run Tryz.prog w = .ok () w2 ∧ w2.heap.size = w.heap.size ∧ Only (one bm) w w2 ∧
      Part (fun x => S x ∨ x = b ∨ rowB tv = some x) ((w2.setCell ⟨q, 2, none⟩ (.int .i64 ((ps.length + 1 : Nat) : Int))).setCell ⟨q, 1, none⟩ (.int .i64 (((ps.map (fun p => p.2.length)).sum + t.length : Nat) : Int))) q room (ps ++ [(n, t)]) := by
  obtain ⟨h, H, R, hmc, hf0, hcs⟩ := P
  obtain ⟨_, _, _, _, _, _, c6, _, _⟩ := H.look
  rw [hbm] at c6
  obtain rfl : bm = h.bm := by simpa using c6
  have hmade : h.made = ps.length := by rw [R.made]; simp [built]
  rw [← hmade] at hb
  have H1 := H.addFile hb ht hfr hcs
  obtain ⟨w2, hr, hm, hg, hs⟩ := H1.map.store hn (by show h.mc < _; simp [maxLen]; omega) b
  have hO : Only (one h.bm) w w2 := Only.grown hg (fun g e => by cases e; rfl)
  refine ⟨w2, hr, hs, hO, ?_⟩
  have H2 := H1.maps (f := Dsk.putN (n, some h.made) h.f) (hm.eq (by
    funext m
    simp only [Dsk.putN]
    split
    · simp only [Option.map_some, upd_at]
    · rfl)) hO (fun m i e => by
      simp only [Dsk.putN] at e
      split at e
      · cases e; exact Nat.lt_succ_self _
      · exact Nat.lt_succ_of_lt (H.names m i e))
  have H3 := H2.setNum (ps.length + 1)
  have H4 := H3.set { ({ h with made := h.made + 1, bl := upd h.bl h.made b, fl := upd h.fl h.made ⟨t, [], 0⟩, tv := upd h.tv h.made tv, kv := upd h.kv h.made (.slice none 0 0), f := Dsk.putN (n, some h.made) h.f, mc := h.mc + 1, num := ps.length + 1 } : Hd) with used := (((ps.map (fun p => p.2.length)).sum + t.length : Nat) : Int) } 1 _ rfl rfl
  refine ⟨_, H4, ?_, by simp only [List.length_append, List.length_singleton]; omega, hf0, hcs⟩
  rw [built_snoc]
  refine ⟨R.room, ?_, by simp [built], by simp only [List.length_append, List.length_singleton]; rw [R.made], R.ops, R.power, R.fail, fun i hi => ?_, ?_⟩
  · rw [← built_snoc, built_snoc_used, built_used]
  · show FRel (upd h.fl h.made ⟨t, [], 0⟩ i) ((ps.map (fun p => [p.2]) ++ [[t]]).getD i [])
    by_cases e : i = h.made
    · subst e
      rw [upd_at, hmade, List.getD_eq_getElem?_getD]
      have : (ps.map (fun p => [p.2]) ++ [[t]])[ps.length]? = some [t] := by
        have := List.getElem?_concat_length (l := ps.map (fun p : ByteArray × By => [p.2])) (a := [t])
        rwa [List.length_map] at this
      rw [this]
      exact FRel.one t
    · have hi2 : i < h.made := by simp only at hi; omega
      rw [upd_ne _ _ e]
      have h1 := R.files i hi2
      have : (ps.map (fun p => [p.2]) ++ [[t]]).getD i [] = Dsk.hist (built room ps) i := by
        unfold Dsk.hist built
        simp only
        rw [List.getD_eq_getElem?_getD, List.getElem?_append_left (by rw [List.length_map]; omega), ← List.getD_eq_getElem?_getD]
      rw [this]
      exact h1
  · show NRel (Dsk.putN (n, some h.made) h.f) h.cs [Dsk.numbered 0 ps ++ [(n, ps.length)]]
    rw [hcs]
    refine NRel.one fun m => ?_
    have hfm : h.f m = Dsk.find (Dsk.numbered 0 ps) m := R.find m
    rw [Dsk.find_app, Dsk.find_one]
    simp only [Dsk.putN]
    by_cases e : m = n
    · subst e
      rw [if_pos rfl, if_pos rfl, find_fresh hnew, hmade]
      rfl
    · rw [if_neg e, if_neg e, Option.or_none, hfm]
theorem part_new {S : Nat → Prop} {w : World} {q : Nat} {room : Int} (H : IsDk S w q (Dsk.fresh room) 0) : Part S w q room.toNat [] := by
  obtain ⟨_, _, _, h, H, R, hm, hf⟩ := H
  refine ⟨h, H, R, by simpa using hm, hf, ?_⟩
  have := R.names.len
  simp only [Dsk.fresh, List.length_singleton] at this
  exact List.eq_nil_of_length_eq_zero (by omega)
theorem Part.dk {S : Nat → Prop} {w : World} {q : Nat} {D : Dk} {c : Nat} {k : Int} {ks : List Int} (P : Part S w q D.room (Dsk.picks D k ks)) (ok : Dsk.Ok D) (bud : Dsk.Bud D c) (lim : Lim D) : IsDk S w q (Dsk.crash k ks D) c := by
  obtain ⟨h, H, R, hmc, hf0, _⟩ := P
  have bud' := Dsk.bud_crash k ks bud ok
  refine ⟨Dsk.crash_ok ok k ks, bud', ⟨lim.room, by show (-1 : Int) ≤ _; omega⟩, h, H, R, ?_, hf0⟩
  have := bud'.files
  simp only [Dsk.crash, List.length_map] at this
  omega

end Go.Proofs.YtleomppgkikhnaaGreat
