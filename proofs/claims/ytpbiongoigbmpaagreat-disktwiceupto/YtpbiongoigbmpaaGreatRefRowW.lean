/-
  The document's disk: a row of names more, a file more, a file's row another.
-/
import Derived.Test.YtpbiongoigbmpaaGreatRefWoW
import Derived.Test.YtpbiongoigbmpaaGreatGrowK
namespace Go.Proofs.YtpbiongoigbmpaaGreat
open Go.RowKit
open Dsk (By Dk)

theorem sl_info (t : TypeId) (h : (Tryz.prog.info? t).map (fun i => (i.zero, i.size, i.bytes)) = some (some (.slice none 0 0), 1, 24)) : ∃ i, Tryz.prog.info? t = some i ∧ i.zero = some (.slice none 0 0) ∧ i.size = 1 ∧ i.bytes = 24 := by
  obtain ⟨i, hi, e⟩ := Option.map_eq_some_iff.1 h
  simp only [Prod.mk.injEq] at e
  exact ⟨i, hi, e.1, e.2.1, e.2.2⟩
theorem str_info : ∃ i, Tryz.prog.info? 9 = some i ∧ i.zero = some (.string ByteArray.empty) ∧ i.size = 1 ∧ i.bytes = 16 := by
  have h : (Tryz.prog.info? 9).map (fun i => (i.zero, i.size, i.bytes)) = some (some (.string ByteArray.empty), 1, 16) := by kernel_rfl
  obtain ⟨i, hi, e⟩ := Option.map_eq_some_iff.1 h
  simp only [Prod.mk.injEq] at e
  exact ⟨i, hi, e.1, e.2.1, e.2.2⟩
theorem udirs : Tryz.prog.underlying 58 = some (.slice 77) := by kernel_rfl
theorem ufiles : Tryz.prog.underlying 59 = some (.slice 42) := by kernel_rfl
theorem ustrs : Tryz.prog.underlying 42 = some (.slice 9) := by kernel_rfl
theorem one_new (w : World) (c : Value) (t : TypeId) : ∀ j u, [c][j]? = some u → (w.alloc (.cells #[c] t)).cell? ((⟨w.heap.size, 0, none⟩ : Addr).add j) = some u := by
  intro j u hj
  rw [Addr.add_lit, Nat.zero_add]
  match j, hj with
  | 0, hj => simp at hj ⊢; exact hj
/-- 'append(l, x)', of a row of slices. -/
theorem sl_app {w : World} {tt t : TypeId} (hu : Tryz.prog.underlying tt = some (.slice t)) (hinf : (Tryz.prog.info? t).map (fun i => (i.zero, i.size, i.bytes)) = some (some (.slice none 0 0), 1, 24)) {v : Value} {n : Nat} {vs : List Value} (h : w.ownsRow 0 t 1 v n vs) (c : Value) (hc : c.oneCell' = true) (hl : n ≤ 1000000000000) (ty : TypeId) :
    ∃ v' w', (Builtin.append_ #[tt, tt] ty #[v, .slice (some ⟨w.heap.size, 0, none⟩) 1 1]).run Tryz.prog (w.alloc (.cells #[c] t)) = .ok v' w' ∧
      w'.ownsRow 0 t 1 v' (n + 1) (vs ++ [c]) ∧ (w.alloc (.cells #[c] t)).grownBy w' v.ownBlock ∧ (v'.ownBlock = v.ownBlock ∨ v'.ownBlock = some (w.alloc (.cells #[c] t)).heap.size) := by
  obtain ⟨i, hi, hz, hs, hby⟩ := sl_info t hinf
  exact app_own (w.alloc (.cells #[c] t)) 0 tt ty t i _ 1 24 hu hi hz hs hby rfl (by decide) v n vs (h.alloc _) ⟨w.heap.size, 0, none⟩ 1 1 [c] rfl (one_new _ _ _) (fun u hu => by simp at hu; subst hu; exact hc) (by unfold maxLen; omega) (by omega) (Nat.zero_le _)
theorem own_ne {w : World} {base base' e e' size size' n n' : Nat} {u v : Value} {xs ys : List Value} (h : w.ownsRow base e size u n xs) (k : w.ownsRow base' e' size' v n' ys) (hne : e ≠ e') {g : Nat} (hu : u.ownBlock = some g) : v.ownBlock ≠ some g := fun hv => by
  obtain ⟨c1, h1⟩ := own_kind h hu
  obtain ⟨c2, h2⟩ := own_kind k hv
  exact kind_ne h1 h2 hne rfl
/-- Another row of names. -/
theorem RefAt.addDir {S T : Nat → Prop} {w : World} {p : Nat} {D : Dk} {fv dv : Value} {fs ds : List Value} (H : RefAt S w p D fv dv fs ds) (hST : ∀ b, S b → T b) (hT : ∀ b, T b → b < w.heap.size) {v : Value} {r : Dsk.Row} (hv : NmdAt T w v r) (hl : D.dirs.length ≤ 1000000000000) (ty : TypeId) :
    ∃ dv' w', (Builtin.append_ #[58, 58] ty #[dv, .slice (some ⟨w.heap.size, 0, none⟩) 1 1]).run Tryz.prog (w.alloc (.cells #[v] 77)) = .ok dv' w' ∧
      w'.cell? ⟨p, 2, none⟩ = some dv ∧ (∀ j, w'.frozen? ⟨p, j, none⟩ = false) ∧ Kept (fun b => b = p) (w.alloc (.cells #[v] 77)) w' ∧ RefAt (more T w w') (w'.setCell ⟨p, 2, none⟩ dv') p { D with dirs := D.dirs ++ [r] } fv dv' fs (ds ++ [v]) ∧ Only S w (w'.setCell ⟨p, 2, none⟩ dv') := by
  have hone : v.oneCell' = true := by obtain ⟨a, c, rfl⟩ := own_slice hv.1; rfl
  obtain ⟨dv', w', hr, ho, hg, hob⟩ := sl_app udirs (by kernel_rfl) H.dirs v hone hl ty
  have hsz : w.heap.size + 1 ≤ w'.heap.size := by have := hg.size; simpa using this
  have keep1 : ∀ b, b < w.heap.size → dv.ownBlock ≠ some b → w'.heap[b]? = w.heap[b]? := fun b hb hn => by
    rw [hg.block b (by simp; omega) (fun e => hn e.symm), Below.heap_alloc _ _ b hb]
  have hpk : w'.heap[p]? = w.heap[p]? := keep1 p (H.lt p H.sp) (fun e => by obtain ⟨c, hc⟩ := own_kind H.dirs e; exact kind_ne H.blk hc (by decide) rfl)
  have hblk := hpk.trans H.blk
  have keepK : ∀ {b : Nat} {c : Array Value} {u : TypeId}, w.heap[b]? = some (.cells c u (0, 0)) → u ≠ 61 → u ≠ 77 → (w'.setCell ⟨p, 2, none⟩ dv').heap[b]? = w.heap[b]? := fun {b c u} hc h1 h2 => by
    rw [Below.heap_setCell _ _ _ _ (kind_ne hc H.blk h1)]
    exact keep1 b (Array.getElem?_eq_some_iff.1 hc).1 (fun e => by obtain ⟨c', hc'⟩ := own_kind H.dirs e; exact kind_ne hc hc' h2 rfl)
  have hpd : dv'.ownBlock ≠ some p := fun e => by obtain ⟨c, hc⟩ := own_kind ho e; exact kind_ne hblk hc (by decide) rfl
  refine ⟨dv', w', hr, cell_of hblk 2 rfl, frozen_of hblk, ⟨hg.os, hg.tape, hg.output, hg.size, fun b e => by subst e; rw [Below.heap_alloc _ _ b (H.lt b H.sp)]; exact hpk⟩, ⟨?_, ?_, ?_, fun i hi => ?_, fun i hi => ?_, H.apart, .inl (hST _ H.sp), fun g e => .inl (hST _ (H.sf g e)), fun g e => ?_, fun b hb => ?_⟩, ?_⟩
  · exact heap_setCell_same w' p 2 _ _ dv' hblk
  · exact own_keep H.files (fun g e => by obtain ⟨c, hc⟩ := own_kind H.files e; exact keepK hc (by decide) (by decide))
  · show (w'.setCell ⟨p, 2, none⟩ dv').ownsRow 0 _ 1 dv' (D.dirs ++ [r]).length (ds ++ [v])
    rw [List.length_append]
    exact own_keep ho (fun g e => Below.heap_setCell _ _ _ _ (fun x => hpd (by have x : g = p := x; rw [← x]; exact e)))
  · obtain ⟨u, h1, h2⟩ := H.file i hi
    exact ⟨u, h1, h2.keep (fun g x => .inl (hST g x)) (fun g e => by obtain ⟨c, hc⟩ := own_kind h2.1 e; exact keepK hc (by decide) (by decide))⟩
  · have hds := H.dirs.1
    rw [Nat.mul_one] at hds
    by_cases hlt : i < D.dirs.length
    · obtain ⟨u, h1, h2⟩ := H.dir i hlt
      refine ⟨u, by rw [List.getElem?_append_left (by omega)]; exact h1, ?_⟩
      have e : ({ D with dirs := D.dirs ++ [r] } : Dk).dirs[i] = D.dirs[i] := List.getElem_append_left hlt
      rw [e]
      exact h2.keep (fun g x => .inl (hST g x)) (fun g e => by obtain ⟨c, hc⟩ := own_kind h2.1 e; exact keepK hc (by decide) (by decide))
    · have hi' : i = D.dirs.length := by
        have : i < (D.dirs ++ [r]).length := hi
        rw [List.length_append] at this
        simp at this
        omega
      subst hi'
      refine ⟨v, by rw [← hds]; simp, ?_⟩
      have e : ({ D with dirs := D.dirs ++ [r] } : Dk).dirs[D.dirs.length]'hi = r := by simp
      rw [e]
      exact hv.keep (fun g x => .inl x) (fun g e => by obtain ⟨c, hc⟩ := own_kind hv.1 e; exact keepK hc (by decide) (by decide))
  · rcases hob with x | x
    · exact .inl (hST _ (H.sd g (x ▸ e)))
    · rw [x] at e
      cases e
      have := own_lt ho x
      simp at this ⊢
      exact .inr ⟨by omega, this⟩
  · have : b < w'.heap.size := by
      rcases hb with hb | hb
      · have := hT b hb; omega
      · exact hb.2
    simpa [World.setCell] using this
  · have o1 : Only S w w' := ⟨hg.os, hg.tape, hg.output, by omega, fun b hb hn => keep1 b hb (fun e => hn (H.sd b e))⟩
    exact o1.setCell (p := ⟨p, 2, none⟩) H.sp _
/-- Another file. -/
theorem RefAt.addFile {S T : Nat → Prop} {w : World} {p : Nat} {D : Dk} {fv dv : Value} {fs ds : List Value} (H : RefAt S w p D fv dv fs ds) (hST : ∀ b, S b → T b) (hT : ∀ b, T b → b < w.heap.size) {v : Value} {h : List By} (hv : StrAt T w v h) (hnew : ∀ g, v.ownBlock = some g → ¬ S g) (hl : D.files.length ≤ 1000000000000) (ty : TypeId) :
    ∃ fv' w', (Builtin.append_ #[59, 59] ty #[fv, .slice (some ⟨w.heap.size, 0, none⟩) 1 1]).run Tryz.prog (w.alloc (.cells #[v] 42)) = .ok fv' w' ∧
      w'.cell? ⟨p, 1, none⟩ = some fv ∧ (∀ j, w'.frozen? ⟨p, j, none⟩ = false) ∧ Kept (fun b => b = p) (w.alloc (.cells #[v] 42)) w' ∧ RefAt (more T w w') (w'.setCell ⟨p, 1, none⟩ fv') p { D with files := D.files ++ [h] } fv' dv (fs ++ [v]) ds ∧ Only S w (w'.setCell ⟨p, 1, none⟩ fv') := by
  have hone : v.oneCell' = true := by obtain ⟨a, c, rfl⟩ := own_slice hv.1; rfl
  obtain ⟨fv', w', hr, ho, hg, hob⟩ := sl_app ufiles (by kernel_rfl) H.files v hone hl ty
  have hsz : w.heap.size + 1 ≤ w'.heap.size := by have := hg.size; simpa using this
  have keep1 : ∀ b, b < w.heap.size → fv.ownBlock ≠ some b → w'.heap[b]? = w.heap[b]? := fun b hb hn => by
    rw [hg.block b (by simp; omega) (fun e => hn e.symm), Below.heap_alloc _ _ b hb]
  have hpk : w'.heap[p]? = w.heap[p]? := keep1 p (H.lt p H.sp) (fun e => by obtain ⟨c, hc⟩ := own_kind H.files e; exact kind_ne H.blk hc (by decide) rfl)
  have hblk := hpk.trans H.blk
  have keepK : ∀ {b : Nat} {c : Array Value} {u : TypeId}, w.heap[b]? = some (.cells c u (0, 0)) → u ≠ 61 → u ≠ 42 → (w'.setCell ⟨p, 1, none⟩ fv').heap[b]? = w.heap[b]? := fun {b c u} hc h1 h2 => by
    rw [Below.heap_setCell _ _ _ _ (kind_ne hc H.blk h1)]
    exact keep1 b (Array.getElem?_eq_some_iff.1 hc).1 (fun e => by obtain ⟨c', hc'⟩ := own_kind H.files e; exact kind_ne hc hc' h2 rfl)
  have hpd : fv'.ownBlock ≠ some p := fun e => by obtain ⟨c, hc⟩ := own_kind ho e; exact kind_ne hblk hc (by decide) rfl
  have hfs := H.files.1
  rw [Nat.mul_one] at hfs
  refine ⟨fv', w', hr, cell_of hblk 1 rfl, frozen_of hblk, ⟨hg.os, hg.tape, hg.output, hg.size, fun b e => by subst e; rw [Below.heap_alloc _ _ b (H.lt b H.sp)]; exact hpk⟩, ⟨?_, ?_, ?_, fun i hi => ?_, fun i hi => ?_, fun i j u x hij hu hx g e => ?_, .inl (hST _ H.sp), fun g e => ?_, fun g e => .inl (hST _ (H.sd g e)), fun b hb => ?_⟩, ?_⟩
  · exact heap_setCell_same w' p 1 _ _ fv' hblk
  · show (w'.setCell ⟨p, 1, none⟩ fv').ownsRow 0 _ 1 fv' (D.files ++ [h]).length (fs ++ [v])
    rw [List.length_append]
    exact own_keep ho (fun g e => Below.heap_setCell _ _ _ _ (fun x => hpd (by have x : g = p := x; rw [← x]; exact e)))
  · exact own_keep H.dirs (fun g e => by obtain ⟨c, hc⟩ := own_kind H.dirs e; exact keepK hc (by decide) (by decide))
  · by_cases hlt : i < D.files.length
    · obtain ⟨u, h1, h2⟩ := H.file i hlt
      refine ⟨u, by rw [List.getElem?_append_left (by omega)]; exact h1, ?_⟩
      have e : ({ D with files := D.files ++ [h] } : Dk).files[i] = D.files[i] := List.getElem_append_left hlt
      rw [e]
      exact h2.keep (fun g x => .inl (hST g x)) (fun g e => by obtain ⟨c, hc⟩ := own_kind h2.1 e; exact keepK hc (by decide) (by decide))
    · have hi' : i = D.files.length := by
        have : i < (D.files ++ [h]).length := hi
        rw [List.length_append] at this
        simp at this
        omega
      subst hi'
      refine ⟨v, by rw [← hfs]; simp, ?_⟩
      have e : ({ D with files := D.files ++ [h] } : Dk).files[D.files.length]'hi = h := by simp
      rw [e]
      exact hv.keep (fun g x => .inl x) (fun g e => by obtain ⟨c, hc⟩ := own_kind hv.1 e; exact keepK hc (by decide) (by decide))
  · obtain ⟨u, h1, h2⟩ := H.dir i hi
    exact ⟨u, h1, h2.keep (fun g x => .inl (hST g x)) (fun g e => by obtain ⟨c, hc⟩ := own_kind h2.1 e; exact keepK hc (by decide) (by decide))⟩
  · have old : ∀ (k : Nat) (z : Value), fs[k]? = some z → ∀ g, z.ownBlock = some g → S g := fun k z hz g e => by
      have hk : k < D.files.length := by rw [← hfs]; exact (List.getElem?_eq_some_iff.1 hz).1
      obtain ⟨z', h1, h2⟩ := H.file k hk
      rw [hz] at h1
      cases h1
      exact h2.2 g e
    by_cases hi : i < fs.length
    · rw [List.getElem?_append_left hi] at hu
      by_cases hj : j < fs.length
      · rw [List.getElem?_append_left hj] at hx
        exact H.apart i j u x hij hu hx g e
      · have hjl : j = fs.length := by have := (List.getElem?_eq_some_iff.1 hx).1; simp at this; omega
        subst hjl
        simp at hx
        subst hx
        exact fun e2 => hnew g e2 (old i u hu g e)
    · have hil : i = fs.length := by have := (List.getElem?_eq_some_iff.1 hu).1; simp at this; omega
      subst hil
      simp at hu
      subst hu
      have hj : j < fs.length := by have := (List.getElem?_eq_some_iff.1 hx).1; simp at this; omega
      rw [List.getElem?_append_left hj] at hx
      exact fun e2 => hnew g e (old j x hx g e2)
  · rcases hob with x | x
    · exact .inl (hST _ (H.sf g (x ▸ e)))
    · rw [x] at e
      cases e
      have := own_lt ho x
      simp at this ⊢
      exact .inr ⟨by omega, this⟩
  · have : b < w'.heap.size := by
      rcases hb with hb | hb
      · have := hT b hb; omega
      · exact hb.2
    simpa [World.setCell] using this
  · have o1 : Only S w w' := ⟨hg.os, hg.tape, hg.output, by omega, fun b hb hn => keep1 b hb (fun e => hn (H.sf b e))⟩
    exact o1.setCell (p := ⟨p, 1, none⟩) H.sp _
/-- A file's row is another: in the place of the old one. -/
theorem RefAt.setRow {S T : Nat → Prop} {w w' : World} {p : Nat} {D : Dk} {dv : Value} {fs ds : List Value} {gf cf : Nat} (H : RefAt S w p D (.slice (some ⟨gf, 0, none⟩) D.files.length cf) dv fs ds) {n : Nat} (hn : n < D.files.length) {v v' : Value} {h' : List By} (hold : fs[n]? = some v)
    (hk : ∀ b, S b → v.ownBlock ≠ some b → w'.heap[b]? = w.heap[b]?) (hST : ∀ b, S b → T b) (hT : ∀ b, T b → b < w'.heap.size) (hv' : StrAt T w' v' h') (hnew : v'.ownBlock = v.ownBlock ∨ ∀ g, v'.ownBlock = some g → ¬ S g) :
    RefAt T (w'.setCell ⟨gf, n, none⟩ v') p { D with files := D.files.set n h' } (.slice (some ⟨gf, 0, none⟩) D.files.length cf) dv (fs.set n v') ds := by
  obtain ⟨v0, e0, hvS⟩ := H.file n hn
  rw [hold] at e0
  cases e0
  obtain ⟨cu, hgf⟩ := own_kind H.files (g := gf) rfl
  have vne : ∀ {b : Nat} {c : Array Value} {u : TypeId}, w.heap[b]? = some (.cells c u (0, 0)) → u ≠ 9 → v.ownBlock ≠ some b := fun hc hu e => by
    obtain ⟨c', hc'⟩ := own_kind hvS.1 e
    exact kind_ne hc hc' hu rfl
  have keepK : ∀ {b : Nat} {c : Array Value} {u : TypeId}, S b → w.heap[b]? = some (.cells c u (0, 0)) → u ≠ 9 → w'.heap[b]? = w.heap[b]? := fun hb hc hu => hk _ hb (vne hc hu)
  have hgf' := (keepK (H.sf gf rfl) hgf (by decide)).trans hgf
  have set1 : ∀ {b : Nat} {c : Array Value} {u : TypeId}, w'.heap[b]? = some (.cells c u (0, 0)) → u ≠ 42 → (w'.setCell ⟨gf, n, none⟩ v').heap[b]? = w'.heap[b]? := fun hc hu => Below.heap_setCell _ _ _ _ (kind_ne hc hgf' hu)
  have hblk := (keepK H.sp H.blk (by decide)).trans H.blk
  have hfs := H.files.1
  rw [Nat.mul_one] at hfs
  have hfl : ({ D with files := D.files.set n h' } : Dk).files.length = D.files.length := List.length_set
  have hfw : w'.ownsRow 0 42 1 (.slice (some ⟨gf, 0, none⟩) D.files.length cf) D.files.length fs := own_keep H.files (fun g e => by cases e; exact keepK (H.sf gf rfl) hgf (by decide))
  have kind' : ∀ {u : Value} {t : TypeId} {size m : Nat} {xs : List Value}, w.ownsRow 0 t size u m xs → (∀ g, u.ownBlock = some g → S g) → t ≠ 9 → t ≠ 42 → ∀ g, u.ownBlock = some g → (w'.setCell ⟨gf, n, none⟩ v').heap[g]? = w.heap[g]? := fun hu hs h1 h2 g e => by
    obtain ⟨c, hc⟩ := own_kind hu e
    have := keepK (hs g e) hc h1
    rw [set1 (this.trans hc) h2]
    exact this
  refine ⟨?_, ?_, own_keep H.dirs (kind' H.dirs H.sd (by decide) (by decide)), fun i hi => ?_, fun i hi => ?_, fun i j u x hij hu hx g e => ?_, hST _ H.sp, fun g e => hST _ (H.sf g e), fun g e => hST _ (H.sd g e), fun b hb => ?_⟩
  · rw [set1 hblk (by decide)]
    exact hblk
  · rw [hfl]
    exact own_set hfw n v'
  · have hi' : i < D.files.length := by rw [← hfl]; exact hi
    by_cases e : i = n
    · subst e
      refine ⟨v', by rw [List.getElem?_set_self (by omega)], ?_⟩
      have e : ({ D with files := D.files.set i h' } : Dk).files[i]'hi = h' := by simp
      rw [e]
      exact hv'.keep (fun g x => x) (fun g e => by obtain ⟨c, hc⟩ := own_kind hv'.1 e; exact set1 hc (by decide))
    · obtain ⟨u, h1, h2⟩ := H.file i hi'
      refine ⟨u, by rw [List.getElem?_set_ne (fun k => e k.symm)]; exact h1, ?_⟩
      have e2 : ({ D with files := D.files.set n h' } : Dk).files[i]'hi = D.files[i] := by
        simp only [List.getElem_set]
        rw [if_neg (fun k => e k.symm)]
      rw [e2]
      refine h2.keep (fun g x => hST g x) (fun g eg => ?_)
      obtain ⟨c, hc⟩ := own_kind h2.1 eg
      have hkk := hk g (h2.2 g eg) (fun k => H.apart n i v u (fun z => e z.symm) hold h1 g k eg)
      rw [set1 (hkk.trans hc) (by decide)]
      exact hkk
  · obtain ⟨u, h1, h2⟩ := H.dir i hi
    exact ⟨u, h1, h2.keep (fun g x => hST g x) (kind' h2.1 h2.2 (by decide) (by decide))⟩
  · have old : ∀ (k : Nat) (z : Value), fs[k]? = some z → ∀ g, z.ownBlock = some g → S g := fun k z hz g e => by
      have hk : k < D.files.length := by rw [← hfs]; exact (List.getElem?_eq_some_iff.1 hz).1
      obtain ⟨z', h1, h2⟩ := H.file k hk
      rw [hz] at h1
      cases h1
      exact h2.2 g e
    have nov : ∀ (k : Nat) (z : Value), k ≠ n → fs[k]? = some z → ∀ g, v'.ownBlock = some g → z.ownBlock ≠ some g := fun k z hk hz g e e2 => by
      rcases hnew with x | x
      · exact H.apart n k v z (fun z => hk z.symm) hold hz g (x ▸ e) e2
      · exact x g e (old k z hz g e2)
    by_cases hi : i = n
    · subst hi
      rw [List.getElem?_set_self (by omega)] at hu
      cases hu
      rw [List.getElem?_set_ne hij] at hx
      exact nov j x (fun z => hij z.symm) hx g e
    · rw [List.getElem?_set_ne (fun k => hi k.symm)] at hu
      by_cases hj : j = n
      · subst hj
        rw [List.getElem?_set_self (by omega)] at hx
        cases hx
        exact fun e2 => nov i u hi hu g e2 e
      · rw [List.getElem?_set_ne (fun k => hj k.symm)] at hx
        exact H.apart i j u x hij hu hx g e
  · have := hT b hb
    simpa [World.setCell] using this

end Go.Proofs.YtpbiongoigbmpaaGreat
