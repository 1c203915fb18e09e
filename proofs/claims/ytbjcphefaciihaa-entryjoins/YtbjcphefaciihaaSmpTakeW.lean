/-
  takeFirst, takeChange, Take.
-/
import Derived.Test.YtbjcphefaciihaaSmpKeepW
import Derived.Test.YtbjcphefaciihaaTakeCW
namespace Go.Proofs.Ytbjcphefaciihaa
open Go.RowKit
open Smp (Sm)

/-- The two cells of a new block, later. -/
theorem stwo_later {w w1 : World} {x y : Value} {t : TypeId} (hb : Below (w.alloc (.cells #[x, y] t)).heap.size (w.alloc (.cells #[x, y] t)) w1) :
    w1.cell? ⟨w.heap.size, 0, none⟩ = some x ∧ w1.cell? ⟨w.heap.size, 1, none⟩ = some y ∧ w1.frozen? ⟨w.heap.size, 0, none⟩ = false ∧ w1.frozen? ⟨w.heap.size, 1, none⟩ = false := by
  refine ⟨?_, ?_, ?_, ?_⟩
  · rw [hb.cell (p := ⟨w.heap.size, 0, none⟩) (by simp)]; simp
  · rw [hb.cell (p := ⟨w.heap.size, 1, none⟩) (by simp)]; simp
  · rw [hb.frozen (p := ⟨w.heap.size, 0, none⟩) (by simp), World.frozen?_alloc_at _ _ _ _ rfl]
  · rw [hb.frozen (p := ⟨w.heap.size, 1, none⟩) (by simp), World.frozen?_alloc_at _ _ _ _ rfl]
theorem sset_two {w : World} {b : Nat} {x y : Value} (hx : w.cell? ⟨b, 0, none⟩ = some x) (hy : w.cell? ⟨b, 1, none⟩ = some y) (u v : Value) :
    ((w.setCell ⟨b, 0, none⟩ u).setCell ⟨b, 1, none⟩ v).cell? ⟨b, 0, none⟩ = some u ∧ ((w.setCell ⟨b, 0, none⟩ u).setCell ⟨b, 1, none⟩ v).cell? ⟨b, 1, none⟩ = some v := by
  constructor
  · rw [World.cell?_setCell_other _ _ _ _ (fun c => by have := congrArg Addr.off c; simp at this), World.cell?_setCell_same _ _ _ hx]
  · have : (w.setCell ⟨b, 0, none⟩ u).cell? ⟨b, 1, none⟩ = some y := by
      rw [World.cell?_setCell_other _ _ _ _ (fun c => by have := congrArg Addr.off c; simp at this), hy]
    rw [World.cell?_setCell_same _ _ _ this]
theorem sbel_al {w w1 : World} {o : Obj} (hb : Below (w.alloc o).heap.size (w.alloc o) w1) : Below w.heap.size w w1 := bl ((Below.refl _ _).alloc (Nat.le_refl _) o) hb

def firstV (l : List UInt8) : Value :=
  match Smp.takeF l with
  | none => .tuple #[.agg #[.int .u64 0, .int .i64 0], .string ⟨#[]⟩, .int .i64 2]
  | some (a, r) => .tuple #[.agg #[.int .u64 a.1, .int .i64 a.2], .string (Num.bs r), .int .i64 0]
def changeV (l : List UInt8) : Value :=
  match Smp.takeC l with
  | none => .tuple #[.agg #[.int .i64 0, .int .i64 0], .string ⟨#[]⟩, .int .i64 2]
  | some (a, r) => .tuple #[.agg #[.int .i64 a.1, .int .i64 a.2], .string (Num.bs r), .int .i64 0]

set_option maxRecDepth 100000 in
set_option maxHeartbeats 1600000 in
theorem takeFirst_any (s : ByteArray) (w : World) (hs : s.size ≤ maxLen) :
    Calls Try.prog 57 #[.string s] w fun e w' => e = .returned (firstV s.data.toList) ∧ Below w.heap.size w w' := by
  cases h1 : Num.take s.data.toList with
  | none =>
    have hv : firstV s.data.toList = .tuple #[.agg #[.int .u64 0, .int .i64 0], .string ⟨#[]⟩, .int .i64 2] := by simp [firstV, Smp.takeF, h1]
    rw [hv]
    have HT := hide (fun wx => take_none s wx hs h1)
    clear hv h1
    go_enter Try.func57, Try.ntmps57
    go_wp2_with fail
    refine (HT.out _).mono ?_
    rintro e w1 ⟨rfl, hb1⟩
    obtain ⟨p1, p2, p3, p4⟩ := stwo_later hb1
    have hbz := sbel_al hb1
    clear hb1
    go_wp2
    have r1 := (sset_two p1 p2 (.int .u64 0) (.int .i64 0)).1
    have r2 := (sset_two p1 p2 (.int .u64 0) (.int .i64 0)).2
    refine bodyPost_ret (v := .tuple #[.agg #[.int .u64 0, .int .i64 0], .string ⟨#[]⟩, .int .i64 2]) (by simp [results, Try.results57, go_sem, r1, r2]) rfl ?_
    exact ⟨rfl, (hbz.setCell (Nat.le_refl _) _).setCell (Nat.le_refl _) _⟩
  | some q =>
    obtain ⟨n, y⟩ := q
    have hyl := take_len h1
    have hsl : s.data.toList.length = s.size := rfl
    have HT := hide (fun wx => take_some s wx hs h1)
    have hys : (Num.bs y).size ≤ maxLen := by rw [Num.bs_size]; omega
    cases h2 : Num.take y with
    | none =>
      have hv : firstV s.data.toList = .tuple #[.agg #[.int .u64 0, .int .i64 0], .string ⟨#[]⟩, .int .i64 2] := by simp [firstV, Smp.takeF, h1, h2]
      rw [hv]
      have HU := hide (fun wx => takeInt_none (Num.bs y) wx hys h2)
      clear hv h1 h2 hyl hsl
      go_enter Try.func57, Try.ntmps57
      go_wp2_with fail
      refine (HT.out _).mono ?_
      rintro e w1 ⟨rfl, hb1⟩
      go_wp2_with fail
      refine (HU.out _).mono ?_
      rintro e w3 ⟨rfl, hb3⟩
      obtain ⟨p1, p2, p3, p4⟩ := stwo_later (bl hb1 hb3)
      have hbz := sbel_al (bl hb1 hb3)
      clear hb1 hb3
      go_wp2
      have r1 := (sset_two p1 p2 (.int .u64 0) (.int .i64 0)).1
      have r2 := (sset_two p1 p2 (.int .u64 0) (.int .i64 0)).2
      refine bodyPost_ret (v := .tuple #[.agg #[.int .u64 0, .int .i64 0], .string ⟨#[]⟩, .int .i64 2]) (by simp [results, Try.results57, go_sem, r1, r2]) rfl ?_
      exact ⟨rfl, (hbz.setCell (Nat.le_refl _) _).setCell (Nat.le_refl _) _⟩
    | some q =>
      obtain ⟨m, z⟩ := q
      have hv : firstV s.data.toList = .tuple #[.agg #[.int .u64 ((n : Nat) : Int), .int .i64 (Num.zag m)], .string (Num.bs z), .int .i64 0] := by simp [firstV, Smp.takeF, h1, h2]
      rw [hv]
      have HU := hide (fun wx => takeInt_some (Num.bs y) wx hys h2)
      clear hv h1 h2 hyl hsl
      go_enter Try.func57, Try.ntmps57
      go_wp2_with fail
      refine (HT.out _).mono ?_
      rintro e w1 ⟨rfl, hb1⟩
      go_wp2_with fail
      refine (HU.out _).mono ?_
      rintro e w3 ⟨rfl, hb3⟩
      obtain ⟨p1, p2, p3, p4⟩ := stwo_later (bl hb1 hb3)
      have hbz := sbel_al (bl hb1 hb3)
      clear hb1 hb3
      go_wp2
      have r1 := (sset_two p1 p2 (.int .u64 ((n : Nat) : Int)) (.int .i64 (Num.zag m))).1
      have r2 := (sset_two p1 p2 (.int .u64 ((n : Nat) : Int)) (.int .i64 (Num.zag m))).2
      refine bodyPost_ret (v := .tuple #[.agg #[.int .u64 ((n : Nat) : Int), .int .i64 (Num.zag m)], .string (Num.bs z), .int .i64 0]) (by simp [results, Try.results57, go_sem, r1, r2]) rfl ?_
      exact ⟨rfl, (hbz.setCell (Nat.le_refl _) _).setCell (Nat.le_refl _) _⟩
theorem takeFirst_none (s : ByteArray) (w : World) (hs : s.size ≤ maxLen) (h : Smp.takeF s.data.toList = none) :
    Calls Try.prog 57 #[.string s] w fun e w' => e = .returned (.tuple #[.agg #[.int .u64 0, .int .i64 0], .string ⟨#[]⟩, .int .i64 2]) ∧ Below w.heap.size w w' := by
  have := takeFirst_any s w hs
  rwa [firstV, h] at this
theorem takeFirst_some (s : ByteArray) (w : World) (hs : s.size ≤ maxLen) {x y : Int} {r : List UInt8} (h : Smp.takeF s.data.toList = some ((x, y), r)) :
    Calls Try.prog 57 #[.string s] w fun e w' => e = .returned (.tuple #[.agg #[.int .u64 x, .int .i64 y], .string (Num.bs r), .int .i64 0]) ∧ Below w.heap.size w w' := by
  have := takeFirst_any s w hs
  rwa [firstV, h] at this
set_option maxRecDepth 100000 in
set_option maxHeartbeats 1600000 in
theorem takeChange_any (s : ByteArray) (w : World) (hs : s.size ≤ maxLen) :
    Calls Try.prog 59 #[.string s] w fun e w' => e = .returned (changeV s.data.toList) ∧ Below w.heap.size w w' := by
  cases h1 : Num.take s.data.toList with
  | none =>
    have hv : changeV s.data.toList = .tuple #[.agg #[.int .i64 0, .int .i64 0], .string ⟨#[]⟩, .int .i64 2] := by simp [changeV, Smp.takeC, h1]
    rw [hv]
    have HT := hide (fun wx => takeInt_none s wx hs h1)
    clear hv h1
    go_enter Try.func59, Try.ntmps59
    go_wp2_with fail
    refine (HT.out _).mono ?_
    rintro e w1 ⟨rfl, hb1⟩
    obtain ⟨p1, p2, p3, p4⟩ := stwo_later hb1
    have hbz := sbel_al hb1
    clear hb1
    go_wp2
    have r1 := (sset_two p1 p2 (.int .i64 0) (.int .i64 0)).1
    have r2 := (sset_two p1 p2 (.int .i64 0) (.int .i64 0)).2
    refine bodyPost_ret (v := .tuple #[.agg #[.int .i64 0, .int .i64 0], .string ⟨#[]⟩, .int .i64 2]) (by simp [results, Try.results59, go_sem, r1, r2]) rfl ?_
    exact ⟨rfl, (hbz.setCell (Nat.le_refl _) _).setCell (Nat.le_refl _) _⟩
  | some q =>
    obtain ⟨n, y⟩ := q
    have hyl := take_len h1
    have hsl : s.data.toList.length = s.size := rfl
    have HT := hide (fun wx => takeInt_some s wx hs h1)
    have hys : (Num.bs y).size ≤ maxLen := by rw [Num.bs_size]; omega
    cases h2 : Num.take y with
    | none =>
      have hv : changeV s.data.toList = .tuple #[.agg #[.int .i64 0, .int .i64 0], .string ⟨#[]⟩, .int .i64 2] := by simp [changeV, Smp.takeC, h1, h2]
      rw [hv]
      have HU := hide (fun wx => takeInt_none (Num.bs y) wx hys h2)
      clear hv h1 h2 hyl hsl
      go_enter Try.func59, Try.ntmps59
      go_wp2_with fail
      refine (HT.out _).mono ?_
      rintro e w1 ⟨rfl, hb1⟩
      go_wp2_with fail
      refine (HU.out _).mono ?_
      rintro e w3 ⟨rfl, hb3⟩
      obtain ⟨p1, p2, p3, p4⟩ := stwo_later (bl hb1 hb3)
      have hbz := sbel_al (bl hb1 hb3)
      clear hb1 hb3
      go_wp2
      have r1 := (sset_two p1 p2 (.int .i64 0) (.int .i64 0)).1
      have r2 := (sset_two p1 p2 (.int .i64 0) (.int .i64 0)).2
      refine bodyPost_ret (v := .tuple #[.agg #[.int .i64 0, .int .i64 0], .string ⟨#[]⟩, .int .i64 2]) (by simp [results, Try.results59, go_sem, r1, r2]) rfl ?_
      exact ⟨rfl, (hbz.setCell (Nat.le_refl _) _).setCell (Nat.le_refl _) _⟩
    | some q =>
      obtain ⟨m, z⟩ := q
      have hv : changeV s.data.toList = .tuple #[.agg #[.int .i64 (Num.zag n), .int .i64 (Num.zag m)], .string (Num.bs z), .int .i64 0] := by simp [changeV, Smp.takeC, h1, h2]
      rw [hv]
      have HU := hide (fun wx => takeInt_some (Num.bs y) wx hys h2)
      clear hv h1 h2 hyl hsl
      go_enter Try.func59, Try.ntmps59
      go_wp2_with fail
      refine (HT.out _).mono ?_
      rintro e w1 ⟨rfl, hb1⟩
      go_wp2_with fail
      refine (HU.out _).mono ?_
      rintro e w3 ⟨rfl, hb3⟩
      obtain ⟨p1, p2, p3, p4⟩ := stwo_later (bl hb1 hb3)
      have hbz := sbel_al (bl hb1 hb3)
      clear hb1 hb3
      go_wp2
      have r1 := (sset_two p1 p2 (.int .i64 (Num.zag n)) (.int .i64 (Num.zag m))).1
      have r2 := (sset_two p1 p2 (.int .i64 (Num.zag n)) (.int .i64 (Num.zag m))).2
      refine bodyPost_ret (v := .tuple #[.agg #[.int .i64 (Num.zag n), .int .i64 (Num.zag m)], .string (Num.bs z), .int .i64 0]) (by simp [results, Try.results59, go_sem, r1, r2]) rfl ?_
      exact ⟨rfl, (hbz.setCell (Nat.le_refl _) _).setCell (Nat.le_refl _) _⟩
theorem takeChange_none (s : ByteArray) (w : World) (hs : s.size ≤ maxLen) (h : Smp.takeC s.data.toList = none) :
    Calls Try.prog 59 #[.string s] w fun e w' => e = .returned (.tuple #[.agg #[.int .i64 0, .int .i64 0], .string ⟨#[]⟩, .int .i64 2]) ∧ Below w.heap.size w w' := by
  have := takeChange_any s w hs
  rwa [changeV, h] at this
theorem takeChange_some (s : ByteArray) (w : World) (hs : s.size ≤ maxLen) {x y : Int} {r : List UInt8} (h : Smp.takeC s.data.toList = some ((x, y), r)) :
    Calls Try.prog 59 #[.string s] w fun e w' => e = .returned (.tuple #[.agg #[.int .i64 x, .int .i64 y], .string (Num.bs r), .int .i64 0]) ∧ Below w.heap.size w w' := by
  have := takeChange_any s w hs
  rwa [changeV, h] at this
end Go.Proofs.Ytbjcphefaciihaa
