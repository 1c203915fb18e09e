/-
  The document's Join.
-/
import Derived.Test.YtjbdofjheeljkaaLdgRAddW
namespace Go.Proofs.Ytjbdofjheeljkaa
open Go.RowKit
open Ldg (De Le Rd Rl)

/-- A ledger that is told, and an error. -/
def RTwoE (w : World) (r : Rl × Nat) (e : Ending) (w' : World) : Prop := ∃ rv, e = .returned (.tuple #[rv, .int .i64 (r.2 : Int)]) ∧ RlAt w' rv r.1 ∧ Below w.heap.size w w'
theorem rled_none (w : World) : RlAt w (.agg #[.int .u64 0, .int .u64 0, .slice none 0 0]) Rl.none := ⟨none, 0, [], rfl, Nat.le_refl _, rfl, RsAt.nil _ _⟩
theorem RTwoE.err {w w1 wA : World} {v0 v1 : Value} {a : Option Addr} {m c : Nat} (h : RBox2 w w1 v0 v1 a m c) (x : Nat) (hA : wA = ((w1.setCell ⟨w.heap.size + 1, 0, none⟩ (.int .u64 0)).setCell ⟨w.heap.size + 1, 1, none⟩ (.int .u64 0)).setCell ⟨w.heap.size + 1, 2, none⟩ (.slice none 0 0)) :
    RTwoE w (Rl.none, x) (.returned (.tuple #[.agg #[.int .u64 0, .int .u64 0, .slice none 0 0], .int .i64 (x : Int)])) wA :=
  ⟨_, rfl, rled_none _, by rw [hA]; exact h.bel.trans ((kept3 w1 (w.heap.size + 1) _ _ _).bel (fun b hb => by omega))⟩
set_option maxRecDepth 100000 in
set_option maxHeartbeats 1600000 in
theorem rjoin_any {w : World} {v : Value} {R : Rl} (h : RlAt w v R) (hf : R.Ok) (n : ByteArray) (hns : n.size ≤ 1000000000) :
    Calls Try.prog 48 #[v, .string n] w (RTwoE w (R.join n)) := by
  have HRL := hide h
  obtain ⟨a, c, qs, rfl, hc, hd, hds⟩ := h
  have hmn := rmany_of hf hd
  have hnb := hf.nb
  have hnm := rnames_eq hd
  have hall : ∀ d ∈ R.dests, d.all.length ≤ 10000000 := fun d hd => by have := (hf.each d hd).ends; omega
  obtain ⟨m, hm⟩ : ∃ m, qs.length = m := ⟨_, rfl⟩
  have hpl := fun W (hW : Below w.heap.size w W) => rplace_any (R.first : Int) (R.next : Int) a c qs n W (hds.below hW) (by omega)
  rw [hm] at hc hmn HRL hpl ⊢
  have hlc := fun W (hW : Below w.heap.size w W) => rcopied_any (HRL.out.below hW) hf.many (fun d hd => by have := hall d hd; omega)
  have HLC := hide hlc
  have HALL := hide hall
  have HF := hide hf
  have HPL := hide hpl
  have HD := hide hd
  have HDS := hide hds
  have HM := hide hm
  have HNM := hide hnm
  obtain ⟨wA, hwA⟩ : ∃ W, (w.alloc (.cells #[.int .u64 (R.first : Int), .int .u64 (R.next : Int), .slice a m c] 31)).alloc (.cells #[.int .u64 0, .int .u64 0, .slice none 0 0] 31) = W := ⟨_, rfl⟩
  have hbx := RBox2.made w (.int .u64 (R.first : Int)) (.int .u64 (R.next : Int)) a m c
  rw [hwA] at hbx
  have z0 := lcell_of hbx.b0 0 rfl
  have z1 := lcell_of hbx.b0 1 rfl
  have z2 := lcell_of hbx.b0 2 rfl
  have y0 := lcell_of hbx.b1 0 rfl
  have y1 := lcell_of hbx.b1 1 rfl
  have y2 := lcell_of hbx.b1 2 rfl
  have fy := lfrozen_of hbx.b1
  have HBX := hide hbx
  obtain ⟨T, hT⟩ : ∃ T, R.join n = T := ⟨_, rfl⟩
  rw [hT]
  unfold Rl.join Rl.names at hT
  rw [hnm] at hT
  have hdl : R.dests.length = m := by rw [hd, List.length_map, hm]
  rw [hdl] at hT
  have HDL := hide hdl
  obtain ⟨ib, hib⟩ : ∃ b, Lab.isName n = b := ⟨_, rfl⟩
  have hna := fun W => Ldg.refName_any n W (by omega)
  rw [hib] at hT hna
  have HNA := hide hna
  clear hlc hpl hm hds hd hf hc hbx hnm hib hna hdl hall
  cases ib with
  | false =>
    rw [if_pos rfl] at hT
    subst hT
    go_enter Try.func48, Try.ntmps48
    go_wp2_with fail
    refine (HNA.out _).mono ?_
    rintro e w1 ⟨rfl, rfl⟩
    go_wp2_with fail
    refine bodyPost_ret (v := .tuple #[.agg #[.int .u64 0, .int .u64 0, .slice none 0 0], .int .i64 3]) (by simp [results, Try.results48, go_sem, y0, y1, y2]) rfl ?_
    exact RTwoE.err HBX.out 3 rfl
  | true =>
    rw [if_neg (by decide)] at hT
    have HT := hide hT
    clear hT
    go_enter Try.func48, Try.ntmps48
    go_wp2_with fail
    refine (HNA.out _).mono ?_
    rintro e w1 ⟨rfl, rfl⟩
    go_wp2_with fail
    refine (HPL.out _ HBX.out.bel).mono ?_
    rintro e w1 ⟨rfl, hb1⟩
    have HX1 := hide (HBX.out.then hb1)
    clear z0 z1 z2 y0 y1 y2 fy hwA hb1
    have z0 := lcell_of HX1.out.b0 0 rfl
    have z1 := lcell_of HX1.out.b0 1 rfl
    have z2 := lcell_of HX1.out.b0 2 rfl
    have y0 := lcell_of HX1.out.b1 0 rfl
    have y1 := lcell_of HX1.out.b1 1 rfl
    have y2 := lcell_of HX1.out.b1 2 rfl
    have fy := lfrozen_of HX1.out.b1
    rcases Ldg.plc_cases (qs.map (fun p => p.1.name)) n with ⟨hp, _⟩ | ⟨k, hk, hp, _⟩
    · rw [hp] at HT ⊢
      have hT := HT.out
      rw [if_neg (fun x => x rfl)] at hT
      clear HT hp
      by_cases h4 : 4 ≤ m
      · rw [if_pos h4] at hT
        subst hT
        go_wp2_with fail
        refine bodyPost_ret (v := .tuple #[.agg #[.int .u64 0, .int .u64 0, .slice none 0 0], .int .i64 6]) (by simp [results, Try.results48, go_sem, y0, y1, y2]) rfl ?_
        exact RTwoE.err HX1.out 6 rfl
      · rw [if_neg h4] at hT
        have HTT := hide hT
        clear hT
        go_wp2_with fail
        refine (HLC.out _ HX1.out.bel).mono ?_
        rintro e w2 ⟨ea, n', ec, ps, rfl, hnp, hps, hown, hb2⟩
        have HX2 := hide (HX1.out.then hb2)
        have hx2 := HX2.out
        have s1 := hx2.size
        have HPS := hide hps
        obtain ⟨N, hN⟩ : ∃ N, w2.heap.size = N := ⟨_, rfl⟩
        rw [hN] at s1
        have hs1 := HX1.out.size
        obtain ⟨wB, hwB⟩ : ∃ W, w2.alloc (.cells #[.int .u64 (R.first : Int), .int .u64 (R.next : Int), .slice ea n' ec] 31) = W := ⟨_, rfl⟩
        have o0 : wB.heap[N]? = some (.cells #[.int .u64 (R.first : Int), .int .u64 (R.next : Int), .slice ea n' ec] 31 (0, 0)) := by
          rw [← hwB, ← hN]; show (w2.heap.push _)[w2.heap.size]? = _; simp
        have kB : Below w2.heap.size w2 wB := by rw [← hwB]; exact (Below.refl _ _).alloc (Nat.le_refl _) _
        have xB := hx2.then kB
        have sB : wB.heap.size = N + 1 := by rw [← hwB]; simp [hN]
        obtain ⟨wC, hwC⟩ : ∃ W, wB.alloc (.cells #[.string n, .int .u64 (R.next : Int), .slice none 0 0] 99) = W := ⟨_, rfl⟩
        have kC : Below wB.heap.size wB wC := by rw [← hwC]; exact (Below.refl _ _).alloc (Nat.le_refl _) _
        have xC := xB.then kC
        have oC := (kC.block N (by omega)).trans o0
        have sC : wC.heap.size = N + 2 := by rw [← hwC]; simp [sB]
        have qC : wC.heap[N + 1]? = some (.cells #[.string n, .int .u64 (R.next : Int), .slice none 0 0] 99 (0, 0)) := by
          rw [← hwC, ← sB]; show (wB.heap.push _)[wB.heap.size]? = _; simp
        have hn4 : n' ≤ 4 := by
          have h2 := congrArg List.length hps
          rw [List.length_map] at h2
          have := HF.out.many
          omega
        have hownC := (hown.below kB).below kC
        obtain ⟨ea2, ec2, w3, hap, ho3, hg3⟩ := hownC.app (by have := hb2.size; omega) (by omega) 29 (N + 1) n R.next [] (.slice none 0 0) qC (World.ownsRow_nil _ _ _ _) (fun p hp x hx e => by cases e)
        rw [← hnp] at hap ho3
        have hrowN : ∀ g, (Value.slice ea n' ec).ownBlock = some g → w1.heap.size ≤ g ∧ g < N := fun g e => ⟨(lown_lt hown.row e).2, by have := (lown_lt hown.row e).1; omega⟩
        have k3 : ∀ b, b < wC.heap.size → (Value.slice ea n' ec).ownBlock ≠ some b → w3.heap[b]? = wC.heap[b]? := fun b hb hne => hg3.block b hb (fun e => hne e.symm)
        have o3 := (k3 N (by omega) (fun e => by have := (hrowN N e).2; omega)).trans oC
        have b3 := (k3 (w.heap.size + 1) (by omega) (fun e => by have := (hrowN _ e).1; omega)).trans xC.b1
        have l3 : Below w.heap.size w w3 := xC.bel.trans ⟨hg3.os, hg3.tape, hg3.output, hg3.size, fun b hb => k3 b (by omega) (fun e => by have := (hrowN _ e).1; omega)⟩
        obtain ⟨w4, hw4⟩ : ∃ W, w3.setCell ⟨N, 2, none⟩ (.slice ea2 (n' + 1) ec2) = W := ⟨_, rfl⟩
        have o4 : w4.heap[N]? = some (.cells #[.int .u64 (R.first : Int), .int .u64 (R.next : Int), .slice ea2 (n' + 1) ec2] 31 (0, 0)) := by
          rw [← hw4]; exact box_set o3 _
        have k34 : Kept (fun b => b ≠ N) w3 w4 := by rw [← hw4]; exact Kept.setCell (Kept.refl _ _) (fun _ h e => h e) _
        have b4 := (k34.block (w.heap.size + 1) (by omega)).trans b3
        have l4 := l3.trans (k34.bel (B := w.heap.size) (fun b hb => by omega))
        have ho4 := ho3.other o3 (by decide) (by decide) k34
        have x0 := lcell_of o0 0 rfl
        have x1 := lcell_of o0 1 rfl
        have x2 := lcell_of o0 2 rfl
        have w32 := lcell_of o3 2 rfl
        have w3f := lfrozen_of o3
        have p0 := lcell_of o4 0 rfl
        have p1 := lcell_of o4 1 rfl
        have p2 := lcell_of o4 2 rfl
        have d0 := lcell_of b4 0 rfl
        have d1 := lcell_of b4 1 rfl
        have d2 := lcell_of b4 2 rfl
        have fd := lfrozen_of b4
        have vB := lcell_of xB.b0 1 rfl
        have HO4 := hide ho4
        have HL4 := hide l4
        have HB4 := hide b4
        have HAP := hide hap
        have hmi : (m : Int) < 4 := by omega
        clear hx2 hown hps hb2 o0 kB xB kC xC oC qC o3 b3 l3 k34 b4 l4 ho4 ho3 hg3 hap hownC hrowN k3 hnp z0 z1 z2 y0 y1 y2 fy
        go_wp2_with (at_builtin; refine Ldg.wpList_app_run rfl _ _ _ _ rfl rfl rfl HAP.out ?_)
        go_wp2_with fail
        refine bodyPost_ret (v := .tuple #[.agg #[.int .u64 (R.first : Int), .int .u64 (R.next : Int), .slice ea2 (n' + 1) ec2], .int .i64 0]) (by simp [results, Try.results48, go_sem, d0, d1, d2]) rfl ?_
        have hfin := rled_told (w := w) (first := R.first) (next := R.next) HO4.out HB4.out HL4.out (.int .u64 (R.first : Int)) (.int .u64 (R.next : Int)) rfl rfl rfl
        rw [List.map_append, HPS.out] at hfin
        rw [← HTT.out]
        exact ⟨_, rfl, hfin⟩
    · rw [hp] at HT ⊢
      have hT := HT.out
      rw [if_pos (by omega)] at hT
      subst hT
      clear HT hp
      have hk0 : (0 : Int) ≤ (k : Int) := by omega
      go_wp2_with fail
      refine bodyPost_ret (v := .tuple #[.agg #[.int .u64 0, .int .u64 0, .slice none 0 0], .int .i64 4]) (by simp [results, Try.results48, go_sem, y0, y1, y2]) rfl ?_
      exact RTwoE.err HX1.out 4 rfl
end Go.Proofs.Ytjbdofjheeljkaa
