/-
  The names by their files' numbers.
-/
import Derived.Test.YtpbiongoigbmpaaDskBehW
import Derived.Shelf.SlSortCmp.NoneTotal
namespace Go.Proofs.Ytpbiongoigbmpaa
open Go.RowKit Go.Shelf Go.Lib Go.Sort
open Dsk (Nm Hold Fl Ct By Dk FRel NRel)

set_option maxRecDepth 100000 in
set_option maxHeartbeats 600000 in
theorem isNaN_any (x : Int) (w : World) : Calls Try.prog 68 #[.int .i64 x] w fun e w' => e = .returned (.bool false) ∧ w' = w := by
  go_enter Try.func68, Try.ntmps68
  go_wp2
  go_ret
  exact ⟨rfl, rfl⟩
set_option maxRecDepth 100000 in
set_option maxHeartbeats 600000 in
theorem compare_any (x y : Int) (w : World) : Calls Try.prog 48 #[.int .i64 x, .int .i64 y] w fun e w' => e = .returned (.int .i64 (Lib.compareInt x y)) ∧ w' = w := by
  go_enter Try.func48, Try.ntmps48
  go_wp2_with (go_at_call 68; refine (isNaN_any _ _).mono ?_; rintro e w1 ⟨rfl, rfl⟩)
  · rename_i h1 _ _
    go_ret
    exact ⟨by unfold Lib.compareInt; rw [if_pos (by omega)]; rfl, rfl⟩
  · rename_i h1 _ _ h2
    go_ret
    exact ⟨by unfold Lib.compareInt; rw [if_neg (by omega), if_pos (by omega)]; rfl, rfl⟩
  · rename_i h1 h2
    go_ret
    exact ⟨by unfold Lib.compareInt; rw [if_neg (by omega), if_neg (by omega)]; rfl, rfl⟩
theorem cell_lt {W : World} {a : Addr} {v : Value} (h : W.cell? a = some v) : a.block < W.heap.size := by
  unfold World.cell? at h
  cases e : W.heap[a.block]? with
  | none => rw [e] at h; simp at h
  | some o => exact (Array.getElem?_eq_some_iff.1 e).1
theorem two_alloc {W : World} {a : Addr} {v : Value} (h : W.cell? a = some v) (o o' : Obj) : ((W.alloc o).alloc o').cell? a = W.cell? a := by
  have := cell_lt h
  exact World.cell?_of_block (w := W) ((Below.heap_alloc _ _ _ (by simp; omega)).trans (Below.heap_alloc _ _ _ this))
set_option maxRecDepth 100000 in
set_option maxHeartbeats 600000 in
theorem ord_any (n1 n2 : ByteArray) (b1 b2 i1 i2 : Nat) (W : World) (h1 : W.cell? ⟨b1, 0, none⟩ = some (.int .i64 (i1 : Int))) (h2 : W.cell? ⟨b2, 0, none⟩ = some (.int .i64 (i2 : Int))) :
    Calls Try.prog 47 #[.agg #[.string n1, .pointer (some ⟨b1, 0, none⟩)], .agg #[.string n2, .pointer (some ⟨b2, 0, none⟩)]] W fun e w' => e = .returned (.int .i64 (Lib.compareInt i1 i2)) ∧ ∃ q os', w' = grow (W.drewN q) os' := by
  have a1 : ∀ o o', ((W.alloc o).alloc o').cell? ⟨b1, 0, none⟩ = some (.int .i64 (i1 : Int)) := fun o o' => (two_alloc h1 o o').trans h1
  have a2 : ∀ o o', ((W.alloc o).alloc o').cell? ⟨b2, 0, none⟩ = some (.int .i64 (i2 : Int)) := fun o o' => (two_alloc h2 o o').trans h2
  go_enter Try.func47, Try.ntmps47
  go_wp2
  have r1 := a1 (.cells #[.string n1, .pointer (some ⟨b1, 0, none⟩)] 59) (.cells #[.string n2, .pointer (some ⟨b2, 0, none⟩)] 59)
  have r2 := a2 (.cells #[.string n1, .pointer (some ⟨b1, 0, none⟩)] 59) (.cells #[.string n2, .pointer (some ⟨b2, 0, none⟩)] 59)
  clear a1 a2
  go_region_held3 (fun w' => w'.cell? ⟨W.heap.size, 1, none⟩ = some (.pointer (some ⟨b1, 0, none⟩)) ∧ w'.cell? ⟨W.heap.size + 1, 1, none⟩ = some (.pointer (some ⟨b2, 0, none⟩)) ∧ w'.cell? ⟨b1, 0, none⟩ = some (.int .i64 (i1 : Int)) ∧ w'.cell? ⟨b2, 0, none⟩ = some (.int .i64 (i2 : Int))) (go_keep)
    (first | (go_at_call 48; refine (compare_any _ _ _).mono ?_; rintro e w1 ⟨rfl, rfl⟩))
  all_goals go_wp2
  all_goals go_ret
  all_goals exact ⟨rfl, 1, _, by rw [alloc_eq_grow, alloc_eq_grow, grow_grow]; rfl⟩

/-- A name and its file, in memory. -/
abbrev NF (mk : Nat) := { x : ByteArray × Nat // x.2 < mk }
def encN (bl : Nat → Nat) {mk : Nat} (x : NF mk) : List Value := [.string x.1.1, .pointer (some ⟨bl x.1.2, 0, none⟩)]
def cmpN {mk : Nat} (x y : NF mk) : Int := Lib.compareInt (x.1.2 : Int) (y.1.2 : Int)
theorem ltN {mk : Nat} (x y : NF mk) : ltOf cmpN x y = decide (x.1.2 < y.1.2) := by
  unfold ltOf cmpN Lib.compareInt
  by_cases h1 : x.1.2 < y.1.2
  · simp [h1]
  · by_cases h2 : y.1.2 < x.1.2 <;> simp [h1, h2]
theorem swoN {mk : Nat} : SWO (ltOf (cmpN (mk := mk))) where
  irrefl x := by rw [ltN]; simp
  trans x y z h1 h2 := by rw [ltN] at *; simp at *; omega
  ntrans x y z h1 h2 := by rw [ltN] at *; simp at *; omega
theorem hold_agg (w : World) : (isAgg 59).run Try.prog w = .ok true w := Try.isAgg59 w
theorem hold_size (w : World) : (sizeOf 59).run Try.prog w = .ok 2 w := Try.sizeOf59 w
set_option maxHeartbeats 600000 in
theorem sortN_at {w : World} {bl : Nat → Nat} {mk : Nat} [Inhabited (NF mk)] (hf : ∀ i, i < mk → w.cell? ⟨bl i, 0, none⟩ = some (.int .i64 (i : Int))) (blk cap : Nat) (d : Array (NF mk)) (hH : HoldsK (encN bl) 2 w blk 0 d) (hblk : blk < w.heap.size) (hne : ∀ i, i < mk → bl i ≠ blk) (hsz : d.size ≤ 1000000000) :
    Calls Try.prog 46 #[.slice (some ⟨blk, 0, none⟩) d.size cap, .func (.func 47) #[] #[]] w fun e w' =>
      e = .returned (.tuple #[]) ∧ ∃ d' n os, PermIn 0 d.size d d' ∧ SortedIn (ltOf cmpN) 0 d.size d' ∧ w' = sortWorldK (encN bl) 2 w blk 0 n d' os := by
  refine AnyQ.slices_SortFunc Try.sortFL 2 hold_agg hold_size (encN bl) (fun _ => rfl) (fun x v hv => by simp [encN] at hv; rcases hv with rfl | rfl <;> rfl) cmpN swoN 47 #[] blk 0 cap d w (enters_of Try.func47 (by kernel_rfl) rfl) ?_ hH hblk (by omega)
  intro m os dk hs x y
  have key : ∀ i, i < mk → (sortWorldK (encN bl) 2 w blk 0 m dk os).cell? ⟨bl i, 0, none⟩ = some (.int .i64 (i : Int)) := fun i hi => (cell?_sortWorldK_other _ 2 w blk 0 m dk os ⟨bl i, 0, none⟩ (hne i hi) (cell_lt (hf i hi))).trans (hf i hi)
  exact ord_any x.1.1 y.1.1 (bl x.1.2) (bl y.1.2) x.1.2 y.1.2 _ (key _ x.2) (key _ y.2)
end Go.Proofs.Ytpbiongoigbmpaa
