/-
  inOrder: the names of a map, by their files' numbers.
-/
import Derived.Test.YtpbiongoigbmpaaDskSortW
import Derived.Maps.RangeWalk
import Derived.Sort.MapsRangeIn
namespace Go.Proofs.Ytpbiongoigbmpaa
open Go.RowKit Go.Shelf Go.Lib Go.Sort
open Dsk (Nm Hold Fl Ct By Dk FRel NRel)

theorem uholds : Try.prog.underlying 63 = some (.slice 59) := by kernel_rfl
theorem hold_app2 {w : World} {base : Nat} {bl : Nat → Nat} {v : Value} {l : List Hold} (h : w.ownsRow base 59 2 v l.length (holdV bl l)) (n : ByteArray) (o : Option Nat) (hl : l.length ≤ 1000000000000) (hb : base ≤ w.heap.size) (ty : TypeId) :
    ∃ v' w', (Builtin.append_ #[63, 63] ty #[v, .slice (some ⟨w.heap.size, 0, none⟩) 1 1]).run Try.prog (w.alloc (.cells #[.string n, .pointer (adr (o.map bl))] 59)) = .ok v' w' ∧
      w'.ownsRow base 59 2 v' (l.length + 1) (holdV bl (l ++ [(n, o)])) ∧ (w.alloc (.cells #[.string n, .pointer (adr (o.map bl))] 59)).grownBy w' v.ownBlock := by
  obtain ⟨i, hi, hz, hs, hby⟩ := hold_info
  obtain ⟨v', w', hr, ho, hg, _⟩ := app_own (w.alloc (.cells #[.string n, .pointer (adr (o.map bl))] 59)) base 63 ty 59 i _ 2 24 uholds hi hz hs hby rfl (by decide) v l.length (holdV bl l) (h.alloc _) ⟨w.heap.size, 0, none⟩ 1 1
    [.string n, .pointer (adr (o.map bl))] rfl (two_new _ _ _ _) (fun u hu => by simp at hu; rcases hu with rfl | rfl <;> rfl) (by unfold maxLen; omega) (by omega) (by simp; omega)
  refine ⟨v', w', hr, ?_, hg⟩
  rw [holdV_snoc]
  exact ho

/-- What has come of the map so far: 'left' is still to come. -/
structure Got (f : Nm) (left : Lit → Bool) (l : List Hold) : Prop where
  left : ∀ n, left (bkey n) = true ↔ (f n).isSome = true ∧ ∀ x ∈ l, x.1 ≠ n
  ok : ∀ x ∈ l, ∃ i, x.2 = some i ∧ f x.1 = some i
  apart : l.Pairwise (fun x y => x.1 ≠ y.1)
theorem Got.step {f : Nm} {left : Lit → Bool} {l : List Hold} (h : Got f left l) {n : ByteArray} {i : Nat} (hl : left (bkey n) = true) (hf : f n = some i) : Got f (fun z => left z && !z.sameKey (bkey n)) (l ++ [(n, some i)]) := by
  have h1 := (h.left n).1 hl
  refine ⟨fun m => ?_, fun x hx => ?_, ?_⟩
  · by_cases e : m = n
    · subst e
      have : (bkey m).sameKey (bkey m) = true := by simp [bkey, Lit.sameKey]
      simp [this]
    · have : (bkey m).sameKey (bkey n) = false := Maps.sameKey_ne (fun k => e (bkey_inj k))
      simp only [this, Bool.not_false, Bool.and_true]
      rw [h.left m]
      refine ⟨fun ⟨a, b⟩ => ⟨a, fun x hx => ?_⟩, fun ⟨a, b⟩ => ⟨a, fun x hx => b x (List.mem_append_left _ hx)⟩⟩
      rcases List.mem_append.1 hx with hx | hx
      · exact b x hx
      · simp at hx; subst hx; exact fun k => e k.symm
  · rcases List.mem_append.1 hx with hx | hx
    · exact h.ok x hx
    · simp at hx; subst hx; exact ⟨i, rfl, hf⟩
  · rw [List.pairwise_append]
    refine ⟨h.apart, by simp, fun x hx y hy => ?_⟩
    simp at hy
    subst hy
    exact h1.2 x hx

theorem holds_of {w : World} {base g cap mk : Nat} {bl : Nat → Nat} [Inhabited (NF mk)] {l : List Hold} {d : List (NF mk)} (hl : l = d.map (fun x => (x.1.1, some x.1.2))) (h : w.ownsRow base 59 2 (.slice (some ⟨g, 0, none⟩) l.length cap) l.length (holdV bl l)) :
    HoldsK (encN bl) 2 w g 0 d.toArray ∧ g < w.heap.size := by
  have hld : l.length = d.length := by rw [hl]; simp
  obtain ⟨cur, hc⟩ := own_kind h (g := g) rfl
  refine ⟨fun t ht => ⟨?_, by rw [Nat.zero_add]; exact frozen_of hc t⟩, (Array.getElem?_eq_some_iff.1 hc).1⟩
  have ht2 : t < d.length * 2 := by simpa using ht
  obtain ⟨j, hj⟩ : ∃ j, t / 2 = j := ⟨_, rfl⟩
  have hjd : j < d.length := by omega
  obtain ⟨v1, v2⟩ := holdV_at bl (l := l) (j := j) (by omega)
  have hlj : l[j]'(by omega) = (d[j].1.1, some d[j].1.2) := by subst hl; simp
  rw [hlj] at v1 v2
  simp only [Option.map_some, adr] at v2
  rw [Nat.zero_add, h.cellAt t (by omega)]
  have hg : (flatK (encN bl) 2 d.toArray)[t]! = (encN bl d[j])[t % 2]! := by
    rw [get_flatK _ _ _ _ (by simpa using ht2), hj]
    simp [hjd]
  show _ = some ((flatK (encN bl) 2 d.toArray)[t]!)
  rw [hg]
  rcases Nat.mod_two_eq_zero_or_one t with e | e
  · rw [e, show t = j * 2 by omega, v1]; rfl
  · rw [e, show t = j * 2 + 1 by omega, v2]; rfl

/-- All names, by their files' numbers. -/
structure Ord (f : Nm) (l : List (ByteArray × Nat)) : Prop where
  ok : ∀ x ∈ l, f x.1 = some x.2
  all : ∀ n i, f n = some i → (n, i) ∈ l
  up : l.Pairwise (fun x y => x.2 < y.2)
/-- They lie behind a slice. -/
structure NamesAt (w : World) (bl : Nat → Nat) (a : Option Addr) (l : List (ByteArray × Nat)) : Prop where
  at_ : 0 < l.length → ∃ g, a = some ⟨g, 0, none⟩ ∧ g < w.heap.size ∧ ∀ j (hj : j < l.length), w.cell? ⟨g, j * 2, none⟩ = some (.string l[j].1) ∧ w.cell? ⟨g, j * 2 + 1, none⟩ = some (.pointer (some ⟨bl l[j].2, 0, none⟩))
theorem got_list {f : Nm} {mk : Nat} (hf : ∀ n i, f n = some i → i < mk) : ∀ (l : List Hold), (∀ x ∈ l, ∃ i, x.2 = some i ∧ f x.1 = some i) → ∃ d : List (NF mk), l = d.map (fun x => (x.1.1, some x.1.2))
  | [], _ => ⟨[], rfl⟩
  | x :: r, h => by
    obtain ⟨d, hd⟩ := got_list hf r (fun y hy => h y (List.mem_cons_of_mem _ hy))
    obtain ⟨i, h1, h2⟩ := h x (List.mem_cons_self ..)
    refine ⟨⟨(x.1, i), hf _ _ h2⟩ :: d, ?_⟩
    rw [List.map_cons, ← hd]
    congr 1
    exact Prod.ext rfl h1

theorem below_sort {α : Type} [Inhabited α] (enc : α → List Value) (k : Nat) (w : World) (blk off n : Nat) (d : Array α) (os : Array Obj) {B : Nat} (hB : B ≤ w.heap.size) (h : B ≤ blk) : RowKit.Below B w (sortWorldK enc k w blk off n d os) := by
  have hs : (putRowK enc k (Sort.ahead w n) blk off d).heap.size = w.heap.size := by simp [putRowK, putRow, mapBlock, Sort.ahead]
  refine ⟨rfl, rfl, rfl, ?_, fun i hi => ?_⟩
  · unfold sortWorldK
    rw [size_grow, hs]
    omega
  · unfold sortWorldK
    rw [heap_grow_old _ _ (by rw [hs]; omega)]
    have hne : blk ≠ i := by omega
    simp [putRowK, putRow, mapBlock, Sort.ahead, Array.getElem?_modify, hne]
theorem ord_end {f : Nm} {mk : Nat} [Inhabited (NF mk)] (hinj : ∀ n m i, f n = some i → f m = some i → n = m) {l : List Hold} {d : List (NF mk)} (hd : l = d.map (fun x => (x.1.1, some x.1.2))) (hok : ∀ x ∈ l, ∃ i, x.2 = some i ∧ f x.1 = some i) (hap : l.Pairwise (fun x y => x.1 ≠ y.1)) (hall : ∀ n i, f n = some i → (n, some i) ∈ l)
    {d' : Array (NF mk)} (hp : PermIn 0 l.length d.toArray d') (hs : SortedIn (ltOf cmpN) 0 l.length d') : Ord f (d'.toList.map (fun x => x.1)) ∧ d'.size = l.length := by
  have hld : l.length = d.length := by rw [hd]; simp
  obtain ⟨h1, _, h2⟩ := hp
  have hsz : d'.size = l.length := by rw [h1, hld]; simp
  have hperm : d'.toList.Perm d := by
    have e1 : (d'.extract 0 l.length).toList = d'.toList := by rw [← hsz]; simp
    have e2 : (d.toArray.extract 0 l.length).toList = d := by rw [hld]; simp
    rw [e1, e2] at h2
    exact h2
  have hmem : ∀ x : NF mk, x ∈ d → f x.1.1 = some x.1.2 := fun x hx => by
    obtain ⟨i, e1, e2⟩ := hok (x.1.1, some x.1.2) (by rw [hd]; exact List.mem_map.2 ⟨x, hx, rfl⟩)
    simp only [Option.some.injEq] at e1
    rw [e1]; exact e2
  have hnd : d'.toList.Pairwise (fun x y => x.1.1 ≠ y.1.1) := by
    refine (hperm.pairwise_iff (fun {x y} h => h.symm)).2 ?_
    rw [hd, List.pairwise_map] at hap
    exact hap
  refine ⟨⟨fun x hx => ?_, fun n i e => ?_, ?_⟩, hsz⟩
  · obtain ⟨y, hy, rfl⟩ := List.mem_map.1 hx
    exact hmem y (hperm.mem_iff.1 hy)
  · have := hall n i e
    rw [hd] at this
    obtain ⟨y, hy, ey⟩ := List.mem_map.1 this
    simp only [Prod.mk.injEq, Option.some.injEq] at ey
    exact List.mem_map.2 ⟨y, hperm.mem_iff.2 hy, Prod.ext ey.1 ey.2⟩
  · rw [List.pairwise_map, List.pairwise_iff_getElem]
    intro i j hi hj hij
    have hi2 : i < d'.size := by simpa using hi
    have hj2 : j < d'.size := by simpa using hj
    have h3 := hs i j (Nat.zero_le _) hij (by omega)
    rw [ltN, getElem!_pos d' i hi2, getElem!_pos d' j hj2] at h3
    have h4 : ¬ d'[j].1.2 < d'[i].1.2 := by simpa using h3
    have h5 := (List.pairwise_iff_getElem.1 hnd) i j hi hj hij
    simp only [Array.getElem_toList] at h5 ⊢
    have m1 := hmem d'[i] (hperm.mem_iff.1 (by simp))
    have m2 := hmem d'[j] (hperm.mem_iff.1 (by simp))
    rcases Nat.lt_or_ge d'[i].1.2 d'[j].1.2 with h6 | h6
    · exact h6
    · have h7 : d'[i].1.2 = d'[j].1.2 := by omega
      rw [h7] at m1
      exact absurd (hinj _ _ _ m1 m2) h5

set_option maxRecDepth 100000 in
set_option maxHeartbeats 300000 in
theorem inOrder_at {w : World} {b c : Nat} {f : Nm} {bl : Nat → Nat} {mk : Nat} (h : MapIs w b c (fun n => (f n).map bl)) (hc : c ≤ 1000000000) (hf : ∀ n i, f n = some i → i < mk) (hinj : ∀ n m i, f n = some i → f m = some i → n = m) (hfile : ∀ i, i < mk → w.cell? ⟨bl i, 0, none⟩ = some (.int .i64 (i : Int))) :
    Calls Try.prog 25 #[.map (some b)] w fun e w' => ∃ a cap l, e = .returned (.slice a l.length cap) ∧ Ord f l ∧ NamesAt w' bl a l ∧ l.length ≤ c ∧ Below w.heap.size w w' := by
  have HFI := hide hfile
  clear hfile
  have hb := h.lt
  obtain ⟨D, hown, h1, h2⟩ := h
  have hsD := hown.size_le
  go_enter Try.func25, Try.ntmps25
  go_wp2_with (first
    | (at_range; refine wpList_range_own _ rfl _ 48 rfl 9 53 skeyed umap _ b c _ rfl hown ?_; intro w0 hrg0 hg0 hs0)
    | go_in)
  go_loopw [3] (fun v wr => ∃ (left : Lit → Bool) (cnt : Nat) (l : List Hold), Hid (wr.ranges Try.prog 9 ptrR b w.heap.size c D left cnt) ∧ Hid (wr.ownsRow (w.heap.size + 1) 59 2 v l.length (holdV bl l)) ∧ Hid (Got f left l) ∧ Hid (Below w.heap.size w wr) ∧ l.length + cnt ≤ c)
    (fun _ wr => wr.rangeLeft b w.heap.size)
  case atStart =>
    refine ⟨_, _, [], hrg0, World.ownsRow_nil _ _ _ _, ?_, ?_, by simpa using hsD⟩
    · exact ⟨fun n => by rw [h1 n]; simp, fun x hx => by simp at hx, .nil⟩
    · exact ⟨hg0.os, hg0.tape, hg0.output, hg0.size, fun k hk => hg0.block k hk (by simp)⟩
  case round =>
    obtain ⟨left, cnt, l, HR, HO, HG, HB, hcl⟩ := hrel
    obtain ⟨vA, vC, hv⟩ := own_slice HO.out
    subst hv
    go_wp2_with (first
      | (at_next; refine wpList_next_ranges _ rfl _ rfl 9 skeyed ptrR Value.string ptrV (fun key kl hkey => Maps.keyOf_string_inv ustr hkey) (fun v y hv => by obtain ⟨o, e, _⟩ := ptrR_inv hv; exact ⟨o, e⟩) b w.heap.size c D left cnt rfl HR.out ?_ ?_)
      | go_in)
    · intro h0 hl0
      obtain ⟨d, hd⟩ := got_list hf l HG.out.ok
      have hld : l.length = d.length := by rw [hd]; simp
      have hOrd : Got f left l := HG.out
      have hall : ∀ n i, f n = some i → (n, some i) ∈ l := fun n i e => by
        have h3 : ¬ left (bkey n) = true := by rw [hl0]; simp
        rw [hOrd.left n] at h3
        have h4 : ¬ ∀ x ∈ l, x.1 ≠ n := fun k => h3 ⟨by rw [e]; rfl, k⟩
        obtain ⟨x, hx, hxn⟩ : ∃ x ∈ l, x.1 = n := by
          simp only [ne_eq, Classical.not_forall, Classical.not_not] at h4
          obtain ⟨x, hx, hxn⟩ := h4
          exact ⟨x, hx, hxn⟩
        obtain ⟨i2, h5, h6⟩ := hOrd.ok x hx
        rw [hxn, e] at h6
        cases h6
        have : x = (n, some i) := Prod.ext hxn h5
        rwa [← this]
      cases hdd : d with
      | nil =>
        subst hdd
        obtain rfl : l = [] := hd
        simp only [List.length_nil]
        have HSN := hide (AnyF.slices_SortFunc_none Try.sortFL vA vC (.func (.func 47) #[] #[]) wr)
        go_wp2_with (go_at_call 46; refine HSN.out.mono ?_; rintro e w5 ⟨rfl, rfl⟩)
        go_ret
        refine ⟨vA, vC, [], rfl, ⟨fun x hx => by simp at hx, fun n i e => ?_, .nil⟩, ⟨fun h => by simp at h⟩, by simp, HB.out⟩
        have := hall n i e
        simp at this
      | cons d0 dr =>
        have inh : Inhabited (NF mk) := ⟨d0⟩
        have hpos : 0 < l.length := by rw [hld, hdd]; simp
        obtain ⟨g, rfl, hg1⟩ : ∃ g, vA = some ⟨g, 0, none⟩ ∧ w.heap.size + 1 ≤ g := by
          rcases HO.out.2 with ⟨e, h0⟩ | ⟨g, cap, cur, e, hg, _⟩
          · omega
          · simp only [Value.slice.injEq] at e
            exact ⟨g, e.1, hg⟩
        obtain ⟨hH, hblk⟩ := holds_of hd HO.out
        have hcell : ∀ i, i < mk → wr.cell? ⟨bl i, 0, none⟩ = some (.int .i64 (i : Int)) := fun i hi => (HB.out.cell (p := ⟨bl i, 0, none⟩) (cell_lt (HFI.out i hi))).trans (HFI.out i hi)
        have hsort := sortN_at hcell g vC d.toArray hH hblk (fun i hi e => by have h7 := cell_lt (HFI.out i hi); simp only at h7; omega) (by simp; omega)
        rw [show d.toArray.size = l.length by simp [hld]] at hsort
        have HSN := hide hsort
        have HLD := hide hld
        have HDE := hide hd
        have HHK := hide hH
        clear hsort hld hdd hd hH hcell
        go_wp2_with (go_at_call 46; refine HSN.out.mono ?_; rintro e w5 ⟨rfl, d', nn, os, hperm, hsorted, hw5⟩)
        go_ret
        obtain ⟨hO, hdz⟩ := ord_end hinj HDE.out hOrd.ok hOrd.apart hall hperm hsorted
        have hsz2 : d'.size = d.toArray.size := hperm.1
        have hK := holdsK_sortWorldK (encN bl) 2 wr g 0 nn d.toArray d' os hblk HHK.out hsz2
        have hgl := lt_sortWorldK (encN bl) 2 wr g 0 nn d' os hblk
        refine ⟨some ⟨g, 0, none⟩, vC, d'.toList.map (fun x => x.1), by simp [hdz], hO, ⟨fun _ => ⟨g, rfl, hgl, fun j hj => ?_⟩⟩, by simp [hdz]; omega, ?_⟩
        · have hj2 : j < d'.size := by simpa using hj
          have q0 := (hK.cell hj2 (c := 0) (by omega)).1
          have q1 := (hK.cell hj2 (c := 1) (by omega)).1
          rw [Nat.zero_add, getElem!_pos d' j hj2] at q0 q1
          simp only [List.getElem_map, Array.getElem_toList]
          exact ⟨q0, q1⟩
        · exact HB.out.trans (below_sort (encN bl) 2 wr g 0 nn d' os (by have := HB.out.size; omega) (by omega))
    · intro n o kl y y' w1 cnt1 hkey hlk hv hat hrg1 hlt hg1 hs1 hen
      obtain ⟨i, hi, ho, hkl⟩ : ∃ i, f n = some i ∧ o = some (bl i) ∧ kl = bkey n := by
        obtain ⟨x, e1, e2, e3⟩ := Maps.keyOf_str ustr hkey
        have en : x = n.data.toList := by
          simp only [encStr, Value.string.injEq] at e1
          rw [e1]
        have hkl : kl = bkey n := by rw [e2, en]; rfl
        subst hkl
        have h3 := ((HG.out.left n).1 hlk).1
        cases hfn : f n with
        | none => rw [hfn] at h3; cases h3
        | some i =>
          refine ⟨i, rfl, ?_, rfl⟩
          have e4 := hat .nil
          rw [h2 n, hfn] at e4
          rw [ptrR_ptrV] at hv
          simp only [Option.some.injEq, Prod.mk.injEq] at hv
          rw [← hv.1] at e4
          exact (datV_inj e4).symm
      subst ho hkl
      have HR1 := hide hrg1
      have HG1 := hide hg1
      have hbz := HB.out.size
      have hgot := HG.out.step hlk hi
      have HGO := hide hgot
      have HO1 : Hid (w1.ownsRow (w.heap.size + 1) 59 2 (.slice vA l.length vC) l.length (holdV bl l)) := hide (own_keep HO.out (fun g e => hg1.block g (HO.out.lt g e).2 (fun k => by have := (HO.out.lt g e).1; cases k; omega)))
      have hlw : w.heap.size < wr.heap.size := HR.out.lt
      obtain ⟨v2, w2, hr2, ho2, hg2⟩ := hold_app2 HO1.out n (some i) (by omega) (by omega) 63
      simp only [Option.map_some, adr] at hr2 hg2
      have HRR := hide hr2
      have HO2 := hide ho2
      have HG2 := hide hg2
      simp only [ptrV] at hen
      have HS1 := hide hs1
      have HI := hide hi
      clear hr2 hkey hlk hv hat hrg1 hg1 hgot ho2 hg2 h1 h2 hs1 hi
      go_wp2_with (at_builtin; refine wpList_app_run rfl _ _ _ _ rfl rfl rfl HRR.out ?_)
      have hrow : ∀ g, (Value.slice vA l.length vC).ownBlock = some g → w.heap.size + 1 ≤ g := fun g e => (HO.out.lt g e).1
      have hRn := (HR1.out.alloc (.cells #[.string n, .pointer (some ⟨bl i, 0, none⟩)] 59)).kept HG2.out (fun e => by have := hrow b e.symm; omega) (fun e => by have := hrow _ e.symm; omega)
      have hBn : Below w.heap.size w w2 := HB.out.trans ⟨HG2.out.os.trans HG1.out.os, HG2.out.tape.trans HG1.out.tape, HG2.out.output.trans HG1.out.output, by have := HG2.out.size; have := HS1.out; simp at *; omega, fun k hk => by
        have := HS1.out
        rw [HG2.out.block k (by simp; omega) (fun e => by have := hrow k e.symm; omega), Below.heap_alloc _ _ _ (by omega)]
        exact HG1.out.block k (by omega) (fun e => by cases e; omega)⟩
      go_roundw
      case rel => exact ⟨_, cnt1, l ++ [(n, some i)], hRn, by rw [List.length_append]; exact HO2.out, HGO.out, hBn, by simp; omega⟩
      case measure => rw [hRn.left_eq, HR.out.left_eq]; exact hlt
end Go.Proofs.Ytpbiongoigbmpaa
