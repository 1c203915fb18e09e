/-
  Acts that came in; are they light?
-/
import Derived.Test.YtleomppgkikhnaaGreatKinds
import Derived.Test.YtleomppgkikhnaaGreatBase
import Derived.Deep.SlicePairs
import Derived.OpenShut
import Derived.Lib.SmallJoins
import Derived.SizedLaws
import Derived.Deep.QuietTactic
namespace Go.Proofs.YtleomppgkikhnaaGreat
open Go.RowKit Go.Deep
structure A8 where
  op : Int
  name : Int
  n : Int
  raw : ByteArray
  text : ByteArray
def a8In64 (x : Int) : Prop := -9223372036854775808 ≤ x ∧ x ≤ 9223372036854775807
structure A8Ok (x : A8) : Prop where
  op : a8In64 x.op
  name : a8In64 x.name
  n : a8In64 x.n
  raw : x.raw.size ≤ 140737488351232
  text : x.text.size ≤ 140737488351232
structure A8Cells (w : World) (g o : Nat) (x : A8) : Prop where
  c0 : w.cell? ⟨g, o, none⟩ = some (.int .i64 x.op)
  c1 : w.cell? ⟨g, o + 1, none⟩ = some (.int .i64 x.name)
  c2 : w.cell? ⟨g, o + 2, none⟩ = some (.int .i64 x.n)
  c3 : w.cell? ⟨g, o + 3, none⟩ = some (.string x.raw)
  c4 : w.cell? ⟨g, o + 4, none⟩ = some (.string x.text)
theorem A8Cells.below {n : Nat} {w w' : World} {g o : Nat} {x : A8} (h : A8Cells w g o x) (hb : Below n w w') (hg : g < n) : A8Cells w' g o x :=
  ⟨(hb.cell (p := ⟨g, o, none⟩) hg).trans h.c0, (hb.cell (p := ⟨g, o + 1, none⟩) hg).trans h.c1, (hb.cell (p := ⟨g, o + 2, none⟩) hg).trans h.c2, (hb.cell (p := ⟨g, o + 3, none⟩) hg).trans h.c3, (hb.cell (p := ⟨g, o + 4, none⟩) hg).trans h.c4⟩
/-- Acts behind an address. -/
def A8sAt (w : World) (a : Option Addr) (l : List A8) : Prop := ∀ i, i < l.length → ∃ g o, a = some ⟨g, o, none⟩ ∧ g < w.heap.size ∧ ∀ j (hj : j < l.length), A8Cells w g (o + j * 5) l[j]
theorem A8sAt.nil (w : World) (a : Option Addr) : A8sAt w a [] := fun _ hi => absurd hi (Nat.not_lt_zero _)
theorem A8sAt.below {w w' : World} {a : Option Addr} {l : List A8} (h : A8sAt w a l) (hb : Below w.heap.size w w') : A8sAt w' a l := fun i hi => by
  obtain ⟨g, o, h1, h2, h3⟩ := h i hi
  exact ⟨g, o, h1, Nat.lt_of_lt_of_le h2 hb.size, fun j hj => (h3 j hj).below hb h2⟩
theorem A8sAt_of {w : World} {x : Addr} {len : Nat} {q : Nat → A8} (h : ∀ i, i < len → w.cell? (x.add (i * 5)) = some (.int .i64 (q i).op) ∧ w.cell? (x.add (i * 5 + 1)) = some (.int .i64 (q i).name) ∧ w.cell? (x.add (i * 5 + 2)) = some (.int .i64 (q i).n) ∧ w.cell? (x.add (i * 5 + 3)) = some (.string (q i).raw) ∧ w.cell? (x.add (i * 5 + 4)) = some (.string (q i).text)) : A8sAt w (some x) ((List.range len).map q) := by
  intro i hi
  have hi' : i < len := by simpa using hi
  obtain ⟨b, off, spot⟩ := x
  have h0 := (h 0 (by omega)).1
  have hs : spot = none := by simpa [Addr.add] using World.cell?_spot h0
  subst hs
  refine ⟨b, off, rfl, ?_, fun j hj => ?_⟩
  · have := World.block_lt_of_cell? w _ h0
    simpa [Addr.add] using this
  · have hj' : j < len := by simpa using hj
    have := h j hj'
    simp only [Addr.add_lit] at this
    simp only [List.getElem_map, List.getElem_range]
    obtain ⟨a0, a1, a2, a3, a4⟩ := this
    exact ⟨a0, by rw [Nat.add_assoc]; exact a1, by rw [Nat.add_assoc]; exact a2, by rw [Nat.add_assoc]; exact a3, by rw [Nat.add_assoc]; exact a4⟩
theorem a8Weights_mem {H : Type} {P : Program} {e : TypeId} : ∀ {l : List (DataW H)} {d : DataW H} {n : Nat}, d ∈ l → n ∈ d.weights P e → n ∈ DataW.weightsAll P e l
  | x :: l, d, n, hd, hn => by
    simp only [DataW.weightsAll, List.mem_append]
    rcases List.mem_cons.1 hd with rfl | hd
    · exact .inl hn
    · exact .inr (a8Weights_mem hd hn)
set_option maxRecDepth 100000 in
theorem open_A8s {H : Type} {enc : TypeId × Value → H} {w : World} {base : Nat} {spare : Nat → Bool} {held : Bool} {fuel : Nat} {cs : List Value} {x : DataW H × List MemPlace} (h : DataW.trod enc Tryz.prog w base spare held fuel 22 cs = some x)
    (hz : ∀ n ∈ x.1.weights Tryz.prog 22, n ≤ 140737488351232) :
    ∃ a l cap, cs = [.slice a l.length cap] ∧ A8sAt w a l ∧ l.length ≤ maxLen ∧ (∀ p ∈ l, A8Ok p) := by
  rcases open_slice Tryz.underlying22 h with ⟨rfl, _⟩ | ⟨a, len, cap, m, n, D, Pl, rfl, _, hl, hm, hmm, hx, hc⟩
  · exact ⟨none, [], 0, rfl, A8sAt.nil _ _, Nat.zero_le _, fun p hp => by simp at hp⟩
  · have hlm : len ≤ m := by rw [hmm]; split <;> omega
    have ce : Tryz.prog.cellsOf 34 = 5 := by kernel_rfl
    have hw : ∀ i, i < len → ∀ n ∈ (D i).weights Tryz.prog 34, n ≤ 140737488351232 := fun i hi n hn => by
      refine hz n ?_
      rw [hx]
      simp only [DataW.weights, Tryz.underlying22]
      exact List.mem_cons_of_mem _ (List.mem_append_left _ (a8Weights_mem (List.mem_map.2 ⟨i, List.mem_range.2 hi, rfl⟩) hn))
    have each : ∀ i, i < len → ∃ q : A8, (w.cell? (a.add (i * 5)) = some (.int .i64 q.op) ∧ w.cell? (a.add (i * 5 + 1)) = some (.int .i64 q.name) ∧ w.cell? (a.add (i * 5 + 2)) = some (.int .i64 q.n) ∧ w.cell? (a.add (i * 5 + 3)) = some (.string q.raw) ∧ w.cell? (a.add (i * 5 + 4)) = some (.string q.text)) ∧ A8Ok q := by
      intro i hi
      obtain ⟨cs', h1, h2⟩ := hc i (by omega)
      rw [ce] at h1
      obtain ⟨_, hlen, hcell⟩ := World.cells?_some h1
      obtain ⟨xs, k, hk, hxy, _, hxl, hf⟩ := DataW.trod_struct Tryz.underlying34 h2
      have hwi := hw i hi
      match xs, hxl, cs', hlen with
      | [y0, y1, y2, y3, y4], _, [v0, v1, v2, v3, v4], _ =>
        have g0 := hf 0 _ rfl
        have g1 := hf 1 _ rfl
        have g2 := hf 2 _ rfl
        have g3 := hf 3 _ rfl
        have g4 := hf 4 _ rfl
        have k1 : Tryz.prog.cellsOf 9 = 1 := by kernel_rfl
        have k2 : Tryz.prog.cellsOf 3 = 1 := by kernel_rfl
        simp [k1, k2] at g0 g1 g2 g3 g4
        obtain ⟨s0, e0, _, z0⟩ := DataW.trod_int Tryz.underlying3 g0
        obtain ⟨s1, e1, _, z1⟩ := DataW.trod_int Tryz.underlying3 g1
        obtain ⟨s2, e2, _, z2⟩ := DataW.trod_int Tryz.underlying3 g2
        obtain ⟨s3, e3, f3, z3⟩ := DataW.trod_string Tryz.underlying9 g3
        obtain ⟨s4, e4, f4, z4⟩ := DataW.trod_string Tryz.underlying9 g4
        have c0 := hcell 0 (by omega)
        have c1 := hcell 1 (by omega)
        have c2 := hcell 2 (by omega)
        have c3 := hcell 3 (by omega)
        have c4 := hcell 4 (by omega)
        rw [add_add] at c0 c1 c2 c3 c4
        simp at e0 e1 e2 e3 e4 c0 c1 c2 c3 c4
        subst e0 e1 e2 e3 e4
        have hD : D i = .agg [y0.1, y1.1, y2.1, y3.1, y4.1] := congrArg Prod.fst hxy
        have q3 : s3.size ≤ 140737488351232 := by
          refine hwi _ ?_
          rw [hD]
          simp only [DataW.weights, Tryz.underlying34]
          refine DataW.weights_mem_each (j := 3) rfl rfl _ ?_
          rw [f3]
          simp [DataW.weights]
        have q4 : s4.size ≤ 140737488351232 := by
          refine hwi _ ?_
          rw [hD]
          simp only [DataW.weights, Tryz.underlying34]
          refine DataW.weights_mem_each (j := 4) rfl rfl _ ?_
          rw [f4]
          simp [DataW.weights]
        exact ⟨⟨s0, s1, s2, s3, s4⟩, ⟨c0, c1, c2, c3, c4⟩, ⟨bounds_i64 z0, bounds_i64 z1, bounds_i64 z2, q3, q4⟩⟩
    have inh : Inhabited A8 := ⟨⟨0, 0, 0, ByteArray.empty, ByteArray.empty⟩⟩
    obtain ⟨q, hq⟩ := choose_lt each
    refine ⟨some a, (List.range len).map q, cap, by simp, A8sAt_of fun i hi => (hq i hi).1, by simp; omega, fun p hp => ?_⟩
    obtain ⟨i, hi, rfl⟩ := List.mem_map.1 hp
    exact (hq i (List.mem_range.1 hi)).2

/-! ## Are they light? -/
def a8Sum (l : List A8) : Nat := (l.map (fun x => x.text.size + x.raw.size)).sum
theorem a8Sum_take {l : List A8} {j : Nat} (h : j < l.length) : a8Sum (l.take (j + 1)) = a8Sum (l.take j) + (l[j].text.size + l[j].raw.size) := by
  unfold a8Sum
  rw [List.take_succ_eq_append_getElem h, List.map_append, List.sum_append]
  simp
theorem a8Sum_pre (l : List A8) (j : Nat) : a8Sum (l.take j) ≤ a8Sum l := by
  conv => rhs; rw [← List.take_append_drop j l]
  unfold a8Sum
  rw [List.map_append, List.sum_append]
  omega
theorem a8Sum_le {l : List A8} (h : ∀ p ∈ l, A8Ok p) : a8Sum l ≤ l.length * 281474976702464 := by
  induction l with
  | nil => simp [a8Sum]
  | cons x r ih =>
    have := ih (fun p hp => h p (List.mem_cons_of_mem _ hp))
    have k := h x (List.mem_cons_self ..)
    have k0 := k.text
    have k1 := k.raw
    unfold a8Sum at this ⊢
    simp only [List.map_cons, List.sum_cons, List.length_cons, Nat.add_mul, Nat.one_mul]
    omega
/-- So many, so short. -/
def A8Light (l : List A8) : Prop := l.length ≤ 50 ∧ a8Sum l ≤ 600
def A8LightE (l : List A8) (w : World) (e : Ending) (w' : World) : Prop := ∃ b : Bool, e = .returned (.bool b) ∧ (b = true → A8Light l) ∧ Below w.heap.size w w'
theorem a8Wrap_in {x : Int} (h0 : 0 ≤ x) (h1 : x ≤ 9223372036854775807) : IntKind.i64.wrap x = x := by
  rw [IntKind.wrap_i64]
  omega
theorem a8Wrap_two {a b c : Nat} (h : a + b + c ≤ 9223372036854775807) : IntKind.i64.wrap (IntKind.i64.wrap ((a : Int) + (b : Int)) + (c : Int)) = ((a + (b + c) : Nat) : Int) := by
  rw [a8Wrap_in (x := (a : Int) + (b : Int)) (by omega) (by omega), a8Wrap_in (x := (a : Int) + (b : Int) + (c : Int)) (by omega) (by omega)]
  omega
theorem a8Wrap_one {a b : Nat} (h : a + b ≤ 9223372036854775807) : IntKind.i64.wrap ((a : Int) + (b : Int)) = ((a + b : Nat) : Int) := by
  rw [a8Wrap_in (x := (a : Int) + (b : Int)) (by omega) (by omega)]
  omega
set_option maxRecDepth 100000 in
set_option maxHeartbeats 600000 in
theorem a8light_any {w : World} {a : Option Addr} (cap : Nat) {l : List A8} (ha : A8sAt w a l) (hl : l.length ≤ 9223372036854775807) (hok : ∀ p ∈ l, A8Ok p) :
    Calls Tryz.prog 5 #[.slice a l.length cap] w (A8LightE l w) := by
  have HA := hide ha
  have HOK := hide hok
  clear ha hok
  go_enter Tryz.func5, Tryz.ntmps5
  go_wp2
  go_loopw [3, 4] (fun v3 v4 wr => ∃ (j : Nat) (x : Int), j ≤ l.length ∧ v4 = .int .i64 (j : Int) ∧ v3 = .int .i64 x ∧ Hid (j ≤ 100 → x = ((a8Sum (l.take j) : Nat) : Int)) ∧ Hid (Below w.heap.size w wr)) (fun _ v4 _ => l.length - (intOf v4).toNat)
  case atStart => exact ⟨0, 0, Nat.zero_le _, rfl, rfl, hide (fun _ => rfl), hide (Below.refl _ _)⟩
  case round =>
    obtain ⟨j, x, hj, rfl, rfl, HX, HB⟩ := hrel
    by_cases hlt : j < l.length
    · obtain ⟨g, o, rfl, hg, hcell⟩ := HA.out j hlt
      have hc := (hcell j hlt).below HB.out hg
      have e0 := a8Sum_take hlt
      have e1 := HOK.out _ (List.getElem_mem hlt)
      obtain ⟨y, hy⟩ : ∃ y, l[j] = y := ⟨_, rfl⟩
      rw [hy] at hc e0 e1
      have z3 := e1.raw
      have q3 : ∀ nq, (wr.drewN nq).cell? ⟨g, o + j * 5 + 3, none⟩ = some (.string y.raw) := fun _ => hc.c3
      have z4 := e1.text
      have q4 : ∀ nq, (wr.drewN nq).cell? ⟨g, o + j * 5 + 4, none⟩ = some (.string y.text) := fun _ => hc.c4
      have E0 := hide e0
      clear hc e0 e1 hy hcell
      go_wp2_with fail
      go_quiet (fail)
      go_wp2
      go_roundw
      case rel =>
        refine ⟨j + 1, _, by omega, by go_num, rfl, hide (fun h => ?_), hide (⟨HB.out.os, HB.out.tape, HB.out.output, HB.out.size, HB.out.block⟩)⟩
        have h1 := HX.out (by omega)
        have h2 := a8Sum_le (l := l.take j) (fun p hp => HOK.out p (List.mem_of_mem_take hp))
        rw [List.length_take] at h2
        rw [E0.out, h1]
        exact a8Wrap_two (by omega)
      case measure => simp [intOf]; omega
    · obtain rfl : j = l.length := by omega
      have h1 := HX.out
      rw [List.take_length] at h1
      have H1 := hide h1
      clear h1
      by_cases hb : l.length ≤ 50
      · have hx := H1.out (by omega)
        subst hx
        go_wp2
        go_ret
        exact ⟨_, rfl, fun h => ⟨hb, by have := of_decide_eq_true h; omega⟩, HB.out⟩
      · go_wp2
        go_ret
        exact ⟨false, rfl, fun h => Bool.noConfusion h, HB.out⟩

end Go.Proofs.YtleomppgkikhnaaGreat
