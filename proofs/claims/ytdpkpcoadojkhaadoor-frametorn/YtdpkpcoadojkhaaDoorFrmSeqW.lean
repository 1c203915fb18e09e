/-
  The function that tells the frames one by one (frames, frames$1): its contract, for every loop body that keeps what lay below n₀ and every frame that lies in a block of its own.
-/
import Derived.RangeFuncNested
import Derived.RangeFuncBound
import Derived.RangeFuncCalls
import Derived.RangeFuncLeaves
import Derived.Shelf.Abstract
import Derived.Shelf.RegionOpen
import Derived.WalkKit
import Derived.OwnWalkIn
import Derived.TacticsInMore
import Derived.LoopNIn
import Derived.LoopIn
import Derived.Maps.AppendAt
import Derived.Test.YtdpkpcoadojkhaaDoorFrmFirstW
namespace Go.Proofs.YtdpkpcoadojkhaaDoor
open Go.RowKit Go.Shelf
open Frm (Fr)

/-- A frame that is right. -/
abbrev OkFr := { f : Fr // Frm.Ok f }
def encF (x : OkFr) : Array Value := #[.agg #[fq x.1, fb x.1, fz x.1]]
/-- Each block that is just one frame's cells stays. -/
def Keep3 (A B : World) : Prop := ∀ (k : Nat) (q t z : Value), A.heap[k]? = some (Obj.cells #[q, t, z] 28 (0, 0)) → B.heap[k]? = some (Obj.cells #[q, t, z] 28 (0, 0))
theorem Keep3.refl (A : World) : Keep3 A A := fun _ _ _ _ h => h
theorem Keep3.trans {A B C : World} (h : Keep3 A B) (k : Keep3 B C) : Keep3 A C := fun j q t z hj => k j q t z (h j q t z hj)
theorem Keep3.alloc (A : World) (o : Obj) : Keep3 A (A.alloc o) := fun k _ _ _ h => (heap_alloc_old A o k (Array.getElem?_eq_some_iff.1 h).1).trans h
theorem Keep3.putObj {W : World} {l : Nat} {o : Obj} (o' : Obj) (h : W.heap[l]? = some o) (ho : o.isCells = false) : Keep3 W (W.putObj l o') := fun k q t z hk => by
  by_cases e : k = l
  · subst e; rw [hk] at h; cases h; cases ho
  · exact (World.putObj_heap_other (by omega)).trans hk
def KpF (n₀ : Nat) (A B : World) : Prop := Below n₀ A B ∧ Keep3 A B
theorem kpF_t {n₀ : Nat} {A B C : World} (h : KpF n₀ A B) (k : KpF n₀ B C) : KpF n₀ A C := ⟨h.1.trans k.1, h.2.trans k.2⟩
theorem kpF_b {n₀ : Nat} {w : World} (hn : n₀ ≤ w.heap.size) (W : World) (l : Nat) (o o' : Obj) (hl : w.heap.size ≤ l) (h : W.heap[l]? = some o) (h1 : o.isCells = false) (h2 : o.isWalk = false) : KpF n₀ W (W.putObj l o') :=
  ⟨belowK_b hn W l o o' hl h h1 h2, Keep3.putObj o' h h1⟩
theorem three_cells {W : World} {k : Nat} {q t z : Value} (h : W.heap[k]? = some (Obj.cells #[q, t, z] 28 (0, 0))) : W.cell? ⟨k, 0, none⟩ = some q ∧ W.cell? ⟨k, 1, none⟩ = some t ∧ W.cell? ⟨k, 2, none⟩ = some z := by
  refine ⟨?_, ?_, ?_⟩ <;> simp [World.cell?, h]
/-- What a call leaves, as growth. -/
theorem grown_none {w w' : World} (h : Below w.heap.size w w') : w.grownBy w' none := ⟨h.os, h.tape, h.output, h.size, fun k hk _ => h.block k hk⟩
theorem abides_below {β : Type} {B : Nat} {J : β → World → Prop} (h : AbidesFrom B J) {s : β} {w w' : World} (hj : J s w) (hb : Below w.heap.size w w') : J s w' :=
  h s w w' none hj (grown_none hb) (fun r e => by cases e)
def strLen : Value → Nat
  | .string s => s.size
  | _ => 0

theorem all_ok (pre : List OkFr) : ∀ f ∈ pre.map (fun y => y.1), Frm.Ok f := by
  intro f hf
  obtain ⟨y, _, rfl⟩ := List.mem_map.1 hf
  exact y.2
theorem pre_len : ∀ pre : List OkFr, pre.length ≤ (Frm.bytes (pre.map (fun y => y.1))).length
  | [] => Nat.le_refl _
  | y :: pre => by
    have h1 := pre_len pre
    have h2 := Frm.size_ge y.1
    rw [List.map_cons, Frm.bytes_cons, List.length_append, List.length_cons]
    unfold Frm.size at h2
    omega

set_option maxRecDepth 100000 in
set_option maxHeartbeats 2000000 in
theorem frames1_in (n : Nat) (hn : 1 ≤ n) (l Bn n₀ N : Nat) (s : List UInt8) (hs : s.length ≤ maxLen) (hN : s.length < N) (J Jx : List OkFr → World → Prop) (W : World) (hJ : AbidesFrom W.heap.size J)
    (hY : ∀ pre x W, J pre W → pre.length < N → YieldAt Fence.wide (n - 1) Tryd.prog l (encF x) W fun e W' =>
      (e = .returned (.bool true) ∧ J (pre ++ [x]) W' ∧ KpF n₀ W W') ∨ (e = .returned (.bool false) ∧ Jx (pre ++ [x]) W'))
    (hBn : W.cell? ⟨Bn, 0, none⟩ = some (.string (Num.bs s))) (hT : Tab W) (hn₀ : 0 < n₀) (h0 : J [] W) :
    CallsIn Fence.wide n Tryd.prog 31 #[.func (.yield l) #[] #[], .pointer (some ⟨Bn, 0, none⟩)] W fun e W' => (∃ v, e = .returned v) ∧
      ((∃ ys : List OkFr, ys.map (fun y => y.1) = Frm.scan s ∧ J ys W') ∨ (∃ pre : List OkFr, True ∧ Jx pre W')) := by
  refine callsIn_of_wp Tryd.func31 rfl trivial ?_ rfl
  simp only [Tryd.ntmps31, List.size_toArray, List.length_cons, List.length_nil, Nat.reduceAdd, Nat.reduceSub, Array.replicate_succ, Array.replicate_zero, List.push_toArray, List.append_toArray, List.nil_append, List.cons_append]
  gi_wp2
  gi_loopw [3] (fun p wr => ∃ (pre : List OkFr) (r : List UInt8), p = .string (Num.bs r) ∧ Frm.bytes (pre.map (fun y => y.1)) ++ r = s ∧ Tab wr ∧ J pre wr)
    (fun p _ => strLen p)
  case atStart => exact ⟨[], s, rfl, rfl, hT, h0⟩
  case round =>
    obtain ⟨pre, r, rfl, hx, ht, hJs⟩ := hrel
    have hlen := congrArg List.length hx
    rw [List.length_append] at hlen
    have HX := hide hx
    clear hx
    cases hf : Frm.first r with
    | none =>
      have HF : Hid (Frm.first r = none) := hide hf
      have HC := fun wx hTx => ffirst_any r wx (by omega) hTx
      unfold firstV at HC
      rw [hf] at HC
      unfold noneV at HC
      clear hf
      gi_wp2_with (refine ⟨trivial, ?_⟩; gi_at_call 13; refine (callsIn_wide.2 (HC _ ht)).mono ?_; rintro e w1 ⟨rfl, hb1⟩)
      refine ⟨fun _ h => (by cases h), ?_⟩
      gi_wp2
      refine bodyPost_ret (results_none rfl _ _ _) rfl ?_
      refine ⟨⟨_, rfl⟩, .inl ⟨pre, (Frm.scan_unique HX.out.symm (all_ok pre) HF.out).symm, abides_below hJ hJs (hb1.alloc hb1.size _)⟩⟩
    | some f =>
      obtain ⟨hok, r', hr'⟩ := Frm.of_first hf
      obtain ⟨q, t⟩ := f
      have hsz := Frm.size_ge (q, t)
      have hsl := Frm.size_le hok
      have hrl : r.length = Frm.size (q, t) + r'.length := by rw [hr', List.length_append]; rfl
      have HE : Hid ((Num.bs r).extract (Frm.size (q, t)) (Frm.size (q, t) + r'.length) = Num.bs r') := by
        show _ = _
        rw [← hrl, extract_mid, hr', Frm.drop_put, List.take_of_length_le (by simp only [List.length_append, Frm.size]; omega)]
      have HC := fun wx hTx => ffirst_any r wx (by omega) hTx
      unfold firstV at HC
      rw [hf] at HC
      unfold someV fq fb fz at HC
      have HN : Hid (Frm.bytes ((pre ++ [(⟨(q, t), hok⟩ : OkFr)]).map (fun y => y.1)) ++ r' = s) := by
        show _ = _
        rw [← HX.out, hr', List.map_append, Frm.bytes_app]
        simp [Frm.bytes]
      have hpl := pre_len pre
      have hrs : (Num.bs r).size = r.length := Num.bs_size _
      clear hf hr'
      gi_wp2_with (refine ⟨trivial, ?_⟩; gi_at_call 13; refine (callsIn_wide.2 (HC _ ht)).mono ?_; rintro e w1 ⟨rfl, hb1⟩; obtain ⟨fn, tmps, assign, body, hy, hR⟩ := hY pre ⟨(q, t), hok⟩ (w1.alloc (Obj.cells #[.int .u64 (q : Int), .string (Num.bs t), .int .i64 ((Frm.size (q, t) : Nat) : Int)] 28)) (abides_below hJ hJs (hb1.alloc hb1.size _)) (by omega); dsimp only [encF, fq, fb, fz] at hy)
      refine hR.mono ?_
      rintro e W3 (⟨rfl, hJ3, hk3⟩ | ⟨rfl, hJx3⟩)
      · have hnew : (w1.alloc (Obj.cells #[.int .u64 (q : Int), .string (Num.bs t), .int .i64 ((Frm.size (q, t) : Nat) : Int)] 28)).heap[w1.heap.size]? = some (Obj.cells #[.int .u64 (q : Int), .string (Num.bs t), .int .i64 ((Frm.size (q, t) : Nat) : Int)] 28 (0, 0)) := World.alloc_heap_new _ _
        obtain ⟨c1, c2, c3⟩ := three_cells (hk3.2 _ _ _ _ hnew)
        have hT3 : Tab W3 := fun m hm => by
          rw [hk3.1.cell (p := ⟨0, m, none⟩) hn₀]
          exact ((ht.below hb1).alloc _) m hm
        gi_wp2
        rw [HE.out]
        go_roundw
        case rel => exact ⟨_, r', rfl, HN.out, hT3, hJ3⟩
        case measure =>
          show (Num.bs r').size < (Num.bs r).size
          rw [Num.bs_size, Num.bs_size]; omega
      · gi_wp2
        refine bodyPost_ret (results_none rfl _ _ _) rfl ?_
        exact ⟨⟨_, rfl⟩, .inr ⟨pre ++ [⟨(q, t), hok⟩], trivial, hJx3⟩⟩

set_option maxRecDepth 100000 in
set_option maxHeartbeats 1000000 in
theorem frames_any (s : ByteArray) (w : World) :
    Calls Tryd.prog 28 #[.string s] w fun e w' => e = .returned (.func (.func 31) #[] #[.pointer (some ⟨w.heap.size, 0, none⟩)]) ∧ w' = w.alloc (.cells #[.string s] 9) := by
  go_enter Tryd.func28, Tryd.ntmps28
  go_wp2
  go_ret
  exact ⟨rfl, rfl⟩

theorem frames_stops (n : Nat) (hn : 1 ≤ n) (Bn n₀ N : Nat) (s : List UInt8) (hs : s.length ≤ maxLen) (hN : s.length < N) (w : World) (hBn : Bn < w.heap.size) (hn₀ : 0 < n₀) (hc : w.cell? ⟨Bn, 0, none⟩ = some (.string (Num.bs s))) (hT : Tab w) :
    SeqStopsK Fence.wide n Tryd.prog 31 #[.pointer (some ⟨Bn, 0, none⟩)] encF (KpF n₀) (fun ys : List OkFr => ys.map (fun y => y.1) = Frm.scan s) (fun _ => True) N w := fun l J Jx W hW hJ _ hY h0 =>
  frames1_in n hn l Bn n₀ N s hs hN J Jx W hJ hY ((hW.cell (p := ⟨Bn, 0, none⟩) hBn).trans hc) (hT.below hW) hn₀ h0
end Go.Proofs.YtdpkpcoadojkhaaDoor
