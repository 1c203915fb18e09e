/-
  What a destination waits for: all of it.
-/
import Derived.Test.YtjbdofjheeljkaaLdgDW
namespace Go.Proofs.Ytjbdofjheeljkaa
open Go.RowKit
open Ldg (De Le Rd Rl)

/-- So many numbers from seq on, but those that are done. -/
def pf : Nat → Nat → List Nat → List Nat
  | 0, _, _ => []
  | n + 1, q, [] => q :: pf n (q + 1) []
  | n + 1, q, x :: r => if x = q then pf n (q + 1) r else q :: pf n (q + 1) (x :: r)
theorem pf_eq : ∀ (n q : Nat) (l : List Nat), l.Pairwise (· < ·) → (∀ x ∈ l, q ≤ x) → pf n q l = (List.range' q n).filter (fun s => !l.contains s)
  | 0, q, l, _, _ => by simp [pf]
  | n + 1, q, [], hr, hg => by
    rw [List.range'_succ, List.filter_cons_of_pos (by simp)]
    unfold pf
    rw [pf_eq n (q + 1) [] List.Pairwise.nil (fun x h => by simp at h)]
  | n + 1, q, x :: r, hr, hg => by
    rw [List.range'_succ]
    unfold pf
    obtain ⟨h1, h2⟩ := List.pairwise_cons.1 hr
    by_cases e : x = q
    · subst e
      rw [if_pos rfl, List.filter_cons_of_neg (by simp), pf_eq n (x + 1) r h2 (fun y hy => h1 y hy)]
      refine List.filter_congr (fun y hy => ?_)
      have := List.mem_range'_1.1 hy
      have hne : y ≠ x := by omega
      simp [hne]
    · have hx := hg x (by simp)
      have hq : (x :: r).contains q = false := by
        rw [Bool.eq_false_iff]; intro h
        rcases List.mem_cons.1 (by simpa using h : q ∈ x :: r) with h | h
        · exact e h.symm
        · have := h1 q h; omega
      rw [if_neg e, List.filter_cons_of_pos (by rw [hq]; rfl), pf_eq n (q + 1) (x :: r) hr (fun y hy => by
        rcases List.mem_cons.1 hy with h | h
        · omega
        · have := h1 y h; omega)]
theorem pf_skip {q next : Nat} {l : List Nat} {x : Nat} (hm : 0 < l.length) (h : l[0] = x) (hq : q < next) (e : x = q) : pf (next - q) q l = pf (next - (q + 1)) (q + 1) (l.drop 1) := by
  subst e
  rw [show next - x = next - (x + 1) + 1 by omega]
  cases l with
  | nil => simp at hm
  | cons y r =>
    have hy : y = x := h
    subst hy
    conv => lhs; unfold pf
    rw [if_pos rfl]; rfl
theorem pf_keep {q next : Nat} {l : List Nat} (hq : q < next) (h : ∀ hm : 0 < l.length, l[0] ≠ q) : pf (next - q) q l = q :: pf (next - (q + 1)) (q + 1) l := by
  rw [show next - q = next - (q + 1) + 1 by omega]
  cases l with
  | nil => rfl
  | cons y r =>
    have := h (by simp)
    conv => lhs; unfold pf
    rw [if_neg (by simpa using this)]
theorem u64sE : Try.prog.underlying 39 = some (.slice (Try.prog.elem 39)) := by kernel_rfl
theorem elem_u64s : Try.prog.elem 39 = 23 := by kernel_rfl
theorem size_u64 (w : World) : (sizeOf 23).run Try.prog w = .ok 1 w := by
  obtain ⟨i, hi, _, hs, _⟩ := info_parts u64_info
  simp [sizeOf, typeInfo, hi, hs]
/-- 'l[n:]'. -/
theorem from_u64 {X : Nat → Prop} {w : World} {a : Option Addr} {c n : Nat} {l : List Nat} (h : SlIn X w (.slice a l.length c) l) (hn : n ≤ l.length) :
    (∀ W, (Instr.slice 39 (.slice a l.length c) (some (.int .i64 (n : Int))) none none).run Try.prog W = .ok (.slice (if c = n then a else a.map (fun x : Addr => x.add n)) (l.length - n) (c - n)) W) ∧ SlIn X w (.slice (if c = n then a else a.map (fun x : Addr => x.add n)) (l.length - n) (c - n)) (l.drop n) := by
  obtain ⟨a0, c0, e, hc, hz, hu⟩ := h
  simp only [Value.slice.injEq] at e
  obtain ⟨rfl, _, rfl⟩ := e
  refine ⟨fun W => ?_, if c = n then a else a.map (fun x : Addr => x.add n), c - n, ?_, by rw [List.length_drop]; omega, ?_, ?_⟩
  · rw [run_slice_l (P := Try.prog) W 39 a l.length c u64sE .i64 (n : Int) (by omega) (by omega), elem_u64s, size_u64]
    simp [Result.andThen, sliced]
  · rw [List.length_drop]
  · intro hno
    have : a = none := by
      by_cases e : c = n
      · rw [if_pos e] at hno; exact hno
      · rw [if_neg e] at hno; cases a with
        | none => rfl
        | some x => cases hno
    have := hz this
    omega
  · intro i hi
    rw [List.length_drop] at hi
    obtain ⟨b, off, ha, hb, hx, hcc⟩ := hu (n + i) (by omega)
    subst ha
    refine ⟨b, off + n, ?_, hb, hx, fun j hj => ?_⟩
    · rw [if_neg (by omega)]; simp [Addr.add]
    · rw [List.length_drop] at hj
      have := hcc (n + j) (by omega)
      rw [← Nat.add_assoc] at this
      rw [this, List.getElem_drop]

/-- Numbers that the call has made by itself. -/
def OwnU (w : World) (B : Nat) (v : Value) (l : List Nat) : Prop := w.ownsRow B 23 1 v l.length (uV l)
theorem OwnU.below {w w' : World} {B : Nat} {v : Value} {l : List Nat} (h : OwnU w B v l) (hb : Below w.heap.size w w') : OwnU w' B v l := by
  refine ⟨h.1, ?_⟩
  rcases h.2 with h0 | ⟨g, cap, cur, hv, hB, hg, hnc, hcm, hcs, htake⟩
  · exact .inl h0
  · exact .inr ⟨g, cap, cur, hv, hB, (hb.block g (Array.getElem?_eq_some_iff.1 hg).1).trans hg, hnc, hcm, hcs, htake⟩
theorem OwnU.sl {w : World} {B : Nat} {v : Value} {l : List Nat} (h : OwnU w B v l) : SlIn (fun b => B ≤ b) w v l := by
  rcases h.2 with ⟨rfl, h0⟩ | ⟨g, cap, cur, rfl, hB, hg, hnc, hcm, hcs, htake⟩
  · have : l = [] := List.length_eq_zero_iff.1 h0
    subst this
    exact SlIn.nil _ _
  · refine ⟨some ⟨g, 0, none⟩, cap, rfl, hnc, fun e => (by cases e), fun i hi => ⟨g, 0, rfl, (Array.getElem?_eq_some_iff.1 hg).1, hB, fun j hj => ?_⟩⟩
    rw [Nat.zero_add, World.ownsRow.cellAt h _ (by omega)]
    simp [uV, hj]
theorem OwnU.mono {w : World} {B B' : Nat} {v : Value} {l : List Nat} (h : OwnU w B v l) (hB : B' ≤ B) : OwnU w B' v l := by
  refine ⟨h.1, ?_⟩
  rcases h.2 with h0 | ⟨g, cap, cur, hv, hg, hr⟩
  · exact .inl h0
  · exact .inr ⟨g, cap, cur, hv, Nat.le_trans hB hg, hr⟩
/-- Behind 'out = append(out, x)'. -/
theorem ownu_step {w wr w1 : World} {B n : Nat} {v v' : Value} {l : List Nat} {o : Obj} {x : Nat} (hn : n = l.length) (hB : B ≤ wr.heap.size) (hown : (wr.alloc o).ownsRow B 23 1 v n (uV l)) (hnx : Below B w wr)
    (hown' : w1.ownsRow B 23 1 v' (n + 1) (uV l ++ [.int .u64 (x : Int)])) (hgrow : (wr.alloc o).grownBy w1 v.ownBlock) :
    OwnU w1 B v' (l ++ [x]) ∧ Below B w w1 := by
  subst hn
  refine ⟨?_, (hnx.alloc hB o).grown hgrow (by simp; omega) (fun k hk => (hown.lt k hk).1)⟩
  unfold OwnU
  simpa [uV] using hown'
theorem cell_one_new (w : World) (x : Value) (t : TypeId) : ∀ (j : Nat) (u : Value), [x][j]? = some u → (w.alloc (.cells #[x] t)).cell? ((⟨w.heap.size, 0, none⟩ : Addr).add j) = some u := by
  intro j u hj
  match j, hj with
  | 0, hj => simp at hj; subst hj; simp [Addr.add]
set_option maxRecDepth 100000 in
set_option maxHeartbeats 1600000 in
theorem dpending_any {X : Nat → Prop} {w : World} (nm : ByteArray) (s lo ak ev rj : Nat) {ab : List Nat} {va : Option Addr} {vc : Nat} (h : SlIn X w (.slice va ab.length vc) ab) (hr : ab.Pairwise (· < ·)) (hg : ∀ x ∈ ab, lo ≤ x) (next : Nat) (hln : lo ≤ next) (hn : next ≤ 1000000000) :
    Calls Try.prog 57 #[.agg #[.string nm, .int .u64 (s : Int), .int .u64 (lo : Int), .slice va ab.length vc, .int .u64 (ak : Int), .int .u64 (ev : Int), .int .u64 (rj : Int)], .int .u64 (next : Int)] w fun e w' =>
      ∃ v', e = .returned v' ∧ OwnU w' w.heap.size v' (De.pend next ⟨nm, s, lo, ab, ak, ev, rj⟩) ∧ Below w.heap.size w w' := by
  obtain ⟨i0, hi, hz0, hz1, hz2⟩ := info_parts u64_info
  have HP : Hid (De.pend next ⟨nm, s, lo, ab, ak, ev, rj⟩ = pf (next - lo) lo ab) := (pf_eq _ _ _ hr hg).symm
  obtain ⟨P, hP⟩ : ∃ P, De.pend next ⟨nm, s, lo, ab, ak, ev, rj⟩ = P := ⟨_, rfl⟩
  rw [hP] at HP ⊢
  have HH := hide h
  obtain ⟨an, han⟩ : ∃ n, ab.length = n := ⟨_, rfl⟩
  rw [han] at HH ⊢
  have HN := hide han
  have hA := (Below.refl w.heap.size w).alloc (Nat.le_refl _) (Obj.cells #[.string nm, .int .u64 (s : Int), .int .u64 (lo : Int), .slice va an vc, .int .u64 (ak : Int), .int .u64 (ev : Int), .int .u64 (rj : Int)] 41)
  clear hr hg han h hP
  go_enter Try.func57, Try.ntmps57
  go_wp2
  obtain ⟨wA, hwA⟩ : ∃ W, w.alloc (.cells #[.string nm, .int .u64 (s : Int), .int .u64 (lo : Int), .slice va an vc, .int .u64 (ak : Int), .int .u64 (ev : Int), .int .u64 (rj : Int)] 41) = W := ⟨_, rfl⟩
  rw [hwA] at hA ⊢
  have HA := hide hA
  have HS := hide ((HH.out.mono (Y := fun b => b < w.heap.size) (fun b hb _ => hb)).below hA)
  clear hwA hA
  go_loopw [5, 6, 7] (fun vo vd vq wr => ∃ (out done : List Nat) (q : Nat) (a' : Option Addr) (c' n' : Nat), q ≤ next ∧ lo ≤ q ∧ vd = .slice a' n' c' ∧ n' = done.length ∧ SlIn (fun b => b < w.heap.size) wr (.slice a' n' c') done ∧ vq = .int .u64 (q : Int) ∧ out ++ pf (next - q) q done = P ∧ out.length ≤ q ∧ done.length ≤ an ∧ OwnU wr w.heap.size vo out ∧ Below w.heap.size w wr)
    (fun _ _ vq _ => next - (intOf vq).toNat)
  case atStart => exact ⟨[], ab, lo, va, vc, an, hln, Nat.le_refl _, rfl, HN.out.symm, HS.out, rfl, HP.out.symm, Nat.zero_le _, Nat.le_of_eq HN.out, World.ownsRow_nil _ _ _ _, HA.out⟩
  case round =>
    obtain ⟨out, done, q, a', c', n', hq, hlq, rfl, hn', hs, rfl, hpf, hol, hdl, hown, hnx⟩ := hrel
    have HB := hide hnx
    have HO := hide hown
    have HPF := hide hpf
    have HSL := hide hs
    have HN' := hide hn'
    clear hnx hown hpf hs hn'
    by_cases hlt : q < next
    · have hlti : (q : Int) < (next : Int) := by omega
      by_cases hd0 : 0 < n'
      · obtain ⟨a2, c2, e2, _, _, hu⟩ := HSL.out
        simp only [Value.slice.injEq] at e2
        obtain ⟨e3, e5, e4⟩ := e2
        clear e5
        subst e3 e4
        obtain ⟨b, off, x, ea, hbl, hx, hc⟩ := hu.get (Below.refl _ _) (k := 0) (by have := HN'.out; omega)
        subst ea
        rw [Nat.add_zero] at hc
        have HX := hide hx
        clear hx hu
        by_cases hxq : x = q
        · obtain ⟨_, hs3⟩ := from_u64 (n := 1) (l := done) (by have := HSL.out; rw [HN'.out] at this; exact this) (by have := HN'.out; omega)
          have hnn : done.length - 1 = n' - 1 := by have := HN'.out; omega
          rw [hnn] at hs3
          have HS3 : Hid (SlIn (fun b => b < w.heap.size) wr (.slice (if c' = 1 then some ⟨b, off, none⟩ else some ⟨b, off + 1, none⟩) (n' - 1) (c' - 1)) (done.drop 1)) := hide hs3
          clear hnn hs3
          subst hxq
          have hpf2 := pf_skip (q := x) (next := next) (l := done) (by have := HN'.out; omega) HX.out hlt rfl
          have HP2 := hide (HPF.out)
          go_wp2
          go_roundw
          case rel => exact ⟨out, done.drop 1, x + 1, _, _, _, by omega, by omega, rfl, by rw [List.length_drop, HN'.out], HS3.out, by go_num, by rw [← hpf2]; exact HP2.out, by omega, by rw [List.length_drop]; omega, HO.out, HB.out⟩
          case measure => simp [intOf]; omega
        · have hpf2 := pf_keep (q := q) (next := next) (l := done) hlt (fun hm => by have := HX.out; omega)
          have HPF := hide (show out ++ (q :: pf (next - (q + 1)) (q + 1) done) = P by rw [← hpf2]; exact HPF.out)
          clear hpf2
          have hxq' : ((x : Int) == (q : Int)) = false := beq_eq_false_iff_ne.2 (fun e => hxq (by omega))
          have hown := HO.out
          have hsz := HB.out.size
          unfold OwnU at hown
          go_wp2_with (at_builtin; refine wpList_append_own _ rfl _ _ 39 rfl w.heap.size 23 i0 _ 1 8 Try.underlying39 hi hz0 hz1 hz2 rfl (by decide) _ _ _ rfl (hown.alloc _) ⟨wr.heap.size, 0, none⟩ 1 1 [.int .u64 (q : Int)] rfl rfl ?c1 ?c2 ?c3 ?c4 ?c5 ?_)
          case c1 => exact cell_one_new _ _ _
          case c2 => intro u hu; simp at hu; subst hu; rfl
          case c3 => unfold maxLen; omega
          case c4 => omega
          case c5 => simp; omega
          intro v' w3 hown' hgrow _
          have R := ownu_step (x := q) rfl hsz (hown.alloc _) HB.out hown' hgrow
          have HS4 := hide (HSL.out.keep (w' := w3) (by have := hgrow.size; simp at this; omega) (fun b hb hx => by
            have := hgrow.block b (by simp; omega) (fun e => by
              have := (hown.lt b e.symm).1
              omega)
            rw [this, Below.heap_alloc _ _ _ hb]))
          clear hown hown' hgrow
          go_wp2
          go_roundw
          case rel => exact ⟨out ++ [q], done, q + 1, _, c', n', by omega, by omega, rfl, HN'.out, HS4.out, by go_num, by rw [List.append_assoc]; exact HPF.out, by rw [List.length_append]; simp; omega, hdl, R.1, R.2⟩
          case measure => simp [intOf]; omega
      · have hpf2 := pf_keep (q := q) (next := next) (l := done) hlt (fun hm => by have := HN'.out; omega)
        have HPF := hide (show out ++ (q :: pf (next - (q + 1)) (q + 1) done) = P by rw [← hpf2]; exact HPF.out)
        clear hpf2
        have hown := HO.out
        have hsz := HB.out.size
        unfold OwnU at hown
        go_wp2_with (at_builtin; refine wpList_append_own _ rfl _ _ 39 rfl w.heap.size 23 i0 _ 1 8 Try.underlying39 hi hz0 hz1 hz2 rfl (by decide) _ _ _ rfl (hown.alloc _) ⟨wr.heap.size, 0, none⟩ 1 1 [.int .u64 (q : Int)] rfl rfl ?d1 ?d2 ?d3 ?d4 ?d5 ?_)
        case d1 => exact cell_one_new _ _ _
        case d2 => intro u hu; simp at hu; subst hu; rfl
        case d3 => unfold maxLen; omega
        case d4 => omega
        case d5 => simp; omega
        intro v' w3 hown' hgrow _
        have R := ownu_step (x := q) rfl hsz (hown.alloc _) HB.out hown' hgrow
        have HS4 := hide (HSL.out.keep (w' := w3) (by have := hgrow.size; simp at this; omega) (fun b hb hx => by
          have := hgrow.block b (by simp; omega) (fun e => by
            have := (hown.lt b e.symm).1
            omega)
          rw [this, Below.heap_alloc _ _ _ hb]))
        clear hown hown' hgrow
        go_wp2
        go_roundw
        case rel => exact ⟨out ++ [q], done, q + 1, _, c', n', by omega, by omega, rfl, HN'.out, HS4.out, by go_num, by rw [List.append_assoc]; exact HPF.out, by rw [List.length_append]; simp; omega, hdl, R.1, R.2⟩
        case measure => simp [intOf]; omega
    · have hqn : q = next := by omega
      have hE : out = P := by
        have := HPF.out
        rw [hqn, Nat.sub_self] at this
        simpa [pf] using this
      have hown := HO.out
      rw [hE] at hown
      have HOW := hide hown
      clear hown hE
      go_wp2
      go_ret
      exact ⟨_, rfl, HOW.out, HB.out⟩
end Go.Proofs.Ytjbdofjheeljkaa
