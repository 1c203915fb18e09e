/-
  Acts that came in; are they light?
-/
import Derived.Test.YtpbiongoigbmpaaKinds
import Derived.Test.YtpbiongoigbmpaaFirsts
import Derived.Deep.SlicePairs
import Derived.OpenShut
import Derived.Lib.SmallJoins
import Derived.SizedLaws
import Derived.Deep.QuietTactic
namespace Go.Proofs.Ytpbiongoigbmpaa
open Go.RowKit Go.Deep

structure Ac where
  op : Int
  name : Int
  to : Int
  n : Int
  raw : ByteArray
  text : ByteArray
def in64 (x : Int) : Prop := -9223372036854775808 ≤ x ∧ x ≤ 9223372036854775807
structure AcOk (x : Ac) : Prop where
  op : in64 x.op
  name : in64 x.name
  to : in64 x.to
  n : in64 x.n
  raw : x.raw.size ≤ 140737488351232
  text : x.text.size ≤ 140737488351232
structure AcCells (w : World) (g o : Nat) (x : Ac) : Prop where
  c0 : w.cell? ⟨g, o, none⟩ = some (.int .i64 x.op)
  c1 : w.cell? ⟨g, o + 1, none⟩ = some (.int .i64 x.name)
  c2 : w.cell? ⟨g, o + 2, none⟩ = some (.int .i64 x.to)
  c3 : w.cell? ⟨g, o + 3, none⟩ = some (.int .i64 x.n)
  c4 : w.cell? ⟨g, o + 4, none⟩ = some (.string x.raw)
  c5 : w.cell? ⟨g, o + 5, none⟩ = some (.string x.text)
theorem AcCells.below {n : Nat} {w w' : World} {g o : Nat} {x : Ac} (h : AcCells w g o x) (hb : Below n w w') (hg : g < n) : AcCells w' g o x :=
  ⟨(hb.cell (p := ⟨g, o, none⟩) hg).trans h.c0, (hb.cell (p := ⟨g, o + 1, none⟩) hg).trans h.c1, (hb.cell (p := ⟨g, o + 2, none⟩) hg).trans h.c2, (hb.cell (p := ⟨g, o + 3, none⟩) hg).trans h.c3, (hb.cell (p := ⟨g, o + 4, none⟩) hg).trans h.c4, (hb.cell (p := ⟨g, o + 5, none⟩) hg).trans h.c5⟩
/-- Acts behind an address. -/
def ActsAt (w : World) (a : Option Addr) (l : List Ac) : Prop := ∀ i, i < l.length → ∃ g o, a = some ⟨g, o, none⟩ ∧ g < w.heap.size ∧ ∀ j (hj : j < l.length), AcCells w g (o + j * 6) l[j]
theorem ActsAt.nil (w : World) (a : Option Addr) : ActsAt w a [] := fun _ hi => absurd hi (Nat.not_lt_zero _)
theorem ActsAt.below {w w' : World} {a : Option Addr} {l : List Ac} (h : ActsAt w a l) (hb : Below w.heap.size w w') : ActsAt w' a l := fun i hi => by
  obtain ⟨g, o, h1, h2, h3⟩ := h i hi
  exact ⟨g, o, h1, Nat.lt_of_lt_of_le h2 hb.size, fun j hj => (h3 j hj).below hb h2⟩
theorem actsAt_of {w : World} {x : Addr} {len : Nat} {q : Nat → Ac} (h : ∀ i, i < len → w.cell? (x.add (i * 6)) = some (.int .i64 (q i).op) ∧ w.cell? (x.add (i * 6 + 1)) = some (.int .i64 (q i).name) ∧ w.cell? (x.add (i * 6 + 2)) = some (.int .i64 (q i).to) ∧
    w.cell? (x.add (i * 6 + 3)) = some (.int .i64 (q i).n) ∧ w.cell? (x.add (i * 6 + 4)) = some (.string (q i).raw) ∧ w.cell? (x.add (i * 6 + 5)) = some (.string (q i).text)) : ActsAt w (some x) ((List.range len).map q) := by
  intro i hi
  have hi' : i < len := by simpa using hi
  obtain ⟨b, off, spot⟩ := x
  have h0 := (h 0 (by omega)).1
  have hs : spot = none := by simpa [Addr.add] using World.cell?_spot h0
  subst hs
  refine ⟨b, off, rfl, ?_, fun j hj => ?_⟩
  · have := World.block_lt_of_cell? w _ h0
    simpa [Addr.add] using this
  · have hj' : j < len := by simpa using hj
    have := h j hj'
    simp only [Addr.add_lit] at this
    simp only [List.getElem_map, List.getElem_range]
    obtain ⟨a0, a1, a2, a3, a4, a5⟩ := this
    exact ⟨a0, by rw [Nat.add_assoc]; exact a1, by rw [Nat.add_assoc]; exact a2, by rw [Nat.add_assoc]; exact a3, by rw [Nat.add_assoc]; exact a4, by rw [Nat.add_assoc]; exact a5⟩
theorem weightsAll_mem {H : Type} {P : Program} {e : TypeId} : ∀ {l : List (DataW H)} {d : DataW H} {n : Nat}, d ∈ l → n ∈ d.weights P e → n ∈ DataW.weightsAll P e l
  | x :: l, d, n, hd, hn => by
    simp only [DataW.weightsAll, List.mem_append]
    rcases List.mem_cons.1 hd with rfl | hd
    · exact .inl hn
    · exact .inr (weightsAll_mem hd hn)
/-- The data that acts are read as. -/
def ActD {H : Type} (d : DataW H) (l : List Ac) : Prop := l = [] ∨ ∃ (D : Nat → DataW H) (sp : List (DataW H)), d = .slice ((List.range l.length).map D) sp ∧ ∀ i (h : i < l.length), ∃ y0 y1 y2 y3, D i = .agg [y0, y1, y2, y3, .lit (.string l[i].raw.data.toList), .lit (.string l[i].text.data.toList)]
set_option maxRecDepth 100000 in
theorem open_actsD {H : Type} {enc : TypeId × Value → H} {w : World} {base : Nat} {spare : Nat → Bool} {held : Bool} {fuel : Nat} {cs : List Value} {x : DataW H × List MemPlace} (h : DataW.trod enc Try.prog w base spare held fuel 22 cs = some x)
    (hz : ∀ n ∈ x.1.weights Try.prog 22, n ≤ 140737488351232) :
    ∃ a l cap, cs = [.slice a l.length cap] ∧ ActsAt w a l ∧ l.length ≤ maxLen ∧ (∀ p ∈ l, AcOk p) ∧ ActD x.1 l := by
  rcases open_slice Try.underlying22 h with ⟨rfl, _⟩ | ⟨a, len, cap, m, n, D, Pl, rfl, _, hl, hm, hmm, hx, hc⟩
  · exact ⟨none, [], 0, rfl, ActsAt.nil _ _, Nat.zero_le _, fun p hp => by simp at hp, .inl rfl⟩
  · have hlm : len ≤ m := by rw [hmm]; split <;> omega
    have ce : Try.prog.cellsOf 44 = 6 := by kernel_rfl
    have hw : ∀ i, i < len → ∀ n ∈ (D i).weights Try.prog 44, n ≤ 140737488351232 := fun i hi n hn => by
      refine hz n ?_
      rw [hx]
      simp only [DataW.weights, Try.underlying22]
      exact List.mem_cons_of_mem _ (List.mem_append_left _ (weightsAll_mem (List.mem_map.2 ⟨i, List.mem_range.2 hi, rfl⟩) hn))
    have each : ∀ i, i < len → ∃ q : Ac, (w.cell? (a.add (i * 6)) = some (.int .i64 q.op) ∧ w.cell? (a.add (i * 6 + 1)) = some (.int .i64 q.name) ∧ w.cell? (a.add (i * 6 + 2)) = some (.int .i64 q.to) ∧
        w.cell? (a.add (i * 6 + 3)) = some (.int .i64 q.n) ∧ w.cell? (a.add (i * 6 + 4)) = some (.string q.raw) ∧ w.cell? (a.add (i * 6 + 5)) = some (.string q.text)) ∧ AcOk q ∧ ∃ y0 y1 y2 y3, D i = .agg [y0, y1, y2, y3, .lit (.string q.raw.data.toList), .lit (.string q.text.data.toList)] := by
      intro i hi
      obtain ⟨cs', h1, h2⟩ := hc i (by omega)
      rw [ce] at h1
      obtain ⟨_, hlen, hcell⟩ := World.cells?_some h1
      obtain ⟨xs, k, hk, hxy, _, hxl, hf⟩ := DataW.trod_struct Try.underlying44 h2
      have hwi := hw i hi
      match xs, hxl, cs', hlen with
      | [y0, y1, y2, y3, y4, y5], _, [v0, v1, v2, v3, v4, v5], _ =>
        have g0 := hf 0 _ rfl
        have g1 := hf 1 _ rfl
        have g2 := hf 2 _ rfl
        have g3 := hf 3 _ rfl
        have g4 := hf 4 _ rfl
        have g5 := hf 5 _ rfl
        have k1 : Try.prog.cellsOf 9 = 1 := by kernel_rfl
        have k2 : Try.prog.cellsOf 3 = 1 := by kernel_rfl
        simp [k1, k2] at g0 g1 g2 g3 g4 g5
        obtain ⟨s0, e0, _, z0⟩ := DataW.trod_int Try.underlying3 g0
        obtain ⟨s1, e1, _, z1⟩ := DataW.trod_int Try.underlying3 g1
        obtain ⟨s2, e2, _, z2⟩ := DataW.trod_int Try.underlying3 g2
        obtain ⟨s3, e3, _, z3⟩ := DataW.trod_int Try.underlying3 g3
        obtain ⟨s4, e4, f4, z4⟩ := DataW.trod_string Try.underlying9 g4
        obtain ⟨s5, e5, f5, z5⟩ := DataW.trod_string Try.underlying9 g5
        have c0 := hcell 0 (by omega)
        have c1 := hcell 1 (by omega)
        have c2 := hcell 2 (by omega)
        have c3 := hcell 3 (by omega)
        have c4 := hcell 4 (by omega)
        have c5 := hcell 5 (by omega)
        rw [add_add] at c0 c1 c2 c3 c4 c5
        simp at e0 e1 e2 e3 e4 e5 c0 c1 c2 c3 c4 c5
        subst e0 e1 e2 e3 e4 e5
        have hD : D i = .agg [y0.1, y1.1, y2.1, y3.1, y4.1, y5.1] := congrArg Prod.fst hxy
        have q4 : s4.size ≤ 140737488351232 := by
          refine hwi _ ?_
          rw [hD]
          simp only [DataW.weights, Try.underlying44]
          refine DataW.weights_mem_each (j := 4) rfl rfl _ ?_
          rw [f4]
          simp [DataW.weights]
        have q5 : s5.size ≤ 140737488351232 := by
          refine hwi _ ?_
          rw [hD]
          simp only [DataW.weights, Try.underlying44]
          refine DataW.weights_mem_each (j := 5) rfl rfl _ ?_
          rw [f5]
          simp [DataW.weights]
        exact ⟨⟨s0, s1, s2, s3, s4, s5⟩, ⟨c0, c1, c2, c3, c4, c5⟩, ⟨bounds_i64 z0, bounds_i64 z1, bounds_i64 z2, bounds_i64 z3, q4, q5⟩, y0.1, y1.1, y2.1, y3.1, by rw [hD, f4, f5]⟩
    have inh : Inhabited Ac := ⟨⟨0, 0, 0, 0, ByteArray.empty, ByteArray.empty⟩⟩
    obtain ⟨q, hq⟩ := choose_lt each
    refine ⟨some a, (List.range len).map q, cap, by simp, actsAt_of fun i hi => (hq i hi).1, by simp; omega, fun p hp => ?_, .inr ⟨D, (List.range (m - len)).map (fun j => D (len + j)), ?_, fun i hi => ?_⟩⟩
    · obtain ⟨i, hi, rfl⟩ := List.mem_map.1 hp
      exact (hq i (List.mem_range.1 hi)).2.1
    · rw [hx]; simp
    · have hi' : i < len := by simpa using hi
      have := (hq i hi').2.2
      simpa using this
theorem open_actsAt {H : Type} {enc : TypeId × Value → H} {w : World} {base : Nat} {spare : Nat → Bool} {held : Bool} {fuel : Nat} {cs : List Value} {x : DataW H × List MemPlace} (h : DataW.trod enc Try.prog w base spare held fuel 22 cs = some x)
    (hz : ∀ n ∈ x.1.weights Try.prog 22, n ≤ 140737488351232) :
    ∃ a l cap, cs = [.slice a l.length cap] ∧ ActsAt w a l ∧ l.length ≤ maxLen ∧ ∀ p ∈ l, AcOk p := by
  obtain ⟨a, l, cap, h1, h2, h3, h4, _⟩ := open_actsD h hz
  exact ⟨a, l, cap, h1, h2, h3, h4⟩

/-! ## Are they light? -/
def acSum (l : List Ac) : Nat := (l.map (fun x => x.text.size + x.raw.size)).sum
theorem acSum_take {l : List Ac} {j : Nat} (h : j < l.length) : acSum (l.take (j + 1)) = acSum (l.take j) + (l[j].text.size + l[j].raw.size) := by
  unfold acSum
  rw [List.take_succ_eq_append_getElem h, List.map_append, List.sum_append]
  simp
theorem acSum_le {l : List Ac} (h : ∀ p ∈ l, AcOk p) : acSum l ≤ l.length * 281474976702464 := by
  induction l with
  | nil => simp [acSum]
  | cons x r ih =>
    have := ih (fun p hp => h p (List.mem_cons_of_mem _ hp))
    have k := h x (List.mem_cons_self ..)
    have k1 := k.raw
    have k2 := k.text
    unfold acSum at this ⊢
    simp only [List.map_cons, List.sum_cons, List.length_cons, Nat.add_mul, Nat.one_mul]
    omega
theorem dn_below' {n : Nat} {a w : World} (h : Below n a w) (k : Nat) : Below n a (w.drewN k) := ⟨h.os, h.tape, h.output, h.size, h.block⟩
/-- So many, so short. -/
def Light (l : List Ac) : Prop := l.length ≤ 100 ∧ acSum l ≤ 1000
def LightE (l : List Ac) (w : World) (e : Ending) (w' : World) : Prop := ∃ b : Bool, e = .returned (.bool b) ∧ (b = true → Light l) ∧ Below w.heap.size w w'
theorem wrap_in {x : Int} (h0 : 0 ≤ x) (h1 : x ≤ 9223372036854775807) : IntKind.i64.wrap x = x := by
  rw [IntKind.wrap_i64]
  omega
set_option maxRecDepth 100000 in
set_option maxHeartbeats 600000 in
theorem light_any {w : World} {a : Option Addr} (cap : Nat) {l : List Ac} (ha : ActsAt w a l) (hl : l.length ≤ 9223372036854775807) (hok : ∀ p ∈ l, AcOk p) :
    Calls Try.prog 5 #[.slice a l.length cap] w (LightE l w) := by
  have HA := hide ha
  have HOK := hide hok
  clear ha hok
  go_enter Try.func5, Try.ntmps5
  go_wp2
  go_loopw [3, 4] (fun v3 v4 wr => ∃ (j : Nat) (x : Int), j ≤ l.length ∧ v4 = .int .i64 (j : Int) ∧ v3 = .int .i64 x ∧ Hid (j ≤ 100 → x = ((acSum (l.take j) : Nat) : Int)) ∧ Hid (Below w.heap.size w wr)) (fun _ v4 _ => l.length - (intOf v4).toNat)
  case atStart => exact ⟨0, 0, Nat.zero_le _, rfl, rfl, hide (fun _ => rfl), hide (Below.refl _ _)⟩
  case round =>
    obtain ⟨j, x, hj, rfl, rfl, HX, HB⟩ := hrel
    by_cases hlt : j < l.length
    · obtain ⟨g, o, rfl, hg, hcell⟩ := HA.out j hlt
      have hc := (hcell j hlt).below HB.out hg
      have e0 := acSum_take hlt
      have e1 := HOK.out _ (List.getElem_mem hlt)
      obtain ⟨y, hy⟩ : ∃ y, l[j] = y := ⟨_, rfl⟩
      rw [hy] at hc e0 e1
      have z1 := e1.raw
      have z2 := e1.text
      have q4 : ∀ nq, (wr.drewN nq).cell? ⟨g, o + j * 6 + 4, none⟩ = some (.string y.raw) := fun _ => hc.c4
      have q5 : ∀ nq, (wr.drewN nq).cell? ⟨g, o + j * 6 + 5, none⟩ = some (.string y.text) := fun _ => hc.c5
      have E0 := hide e0
      clear hc e0 e1 hy hcell
      go_wp2_with fail
      go_quiet (fail)
      go_wp2
      go_roundw
      case rel =>
        refine ⟨j + 1, _, by omega, by go_num, rfl, hide (fun h => ?_), hide (dn_below' HB.out _)⟩
        have h1 := HX.out (by omega)
        have h2 := acSum_le (l := l.take j) (fun p hp => HOK.out p (List.mem_of_mem_take hp))
        rw [List.length_take] at h2
        rw [E0.out, h1, wrap_in (x := (acSum (l.take j) : Int) + y.text.size) (by omega) (by omega), wrap_in (by omega) (by omega)]
        omega
      case measure => simp [intOf]; omega
    · obtain rfl : j = l.length := by omega
      have h1 := HX.out
      rw [List.take_length] at h1
      have H1 := hide h1
      clear h1
      by_cases hb : l.length ≤ 100
      · have hx := H1.out hb
        subst hx
        go_wp2
        go_ret
        exact ⟨_, rfl, fun h => ⟨hb, by have := of_decide_eq_true h; omega⟩, HB.out⟩
      · go_wp2
        go_ret
        exact ⟨false, rfl, fun h => Bool.noConfusion h, HB.out⟩

end Go.Proofs.Ytpbiongoigbmpaa
