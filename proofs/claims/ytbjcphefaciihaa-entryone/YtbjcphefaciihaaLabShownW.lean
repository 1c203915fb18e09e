/-
  Chapter 3's example, which every statement of layer 3 asks first: it holds.
-/
import Derived.Test.YtbjcphefaciihaaLabPutW
namespace Go.Proofs.Ytbjcphefaciihaa
open Go.RowKit
open Lab (Pr)

def exL : List Pr := [(⟨#[98]⟩, ⟨#[50]⟩), (⟨#[97]⟩, ⟨#[49]⟩)]
def exC : List Pr := [(⟨#[97]⟩, ⟨#[49]⟩), (⟨#[98]⟩, ⟨#[50]⟩)]
theorem ex_lt : Lab.lt ⟨#[97]⟩ ⟨#[98]⟩ = true := by unfold Lab.lt; rw [ByteArray.toList_eq, ByteArray.toList_eq]; decide
theorem ex_name1 : Lab.isName ⟨#[97]⟩ = true := by decide +kernel
theorem ex_name2 : Lab.isName ⟨#[98]⟩ = true := by decide +kernel
theorem ex_right : Lab.Right exL := by
  refine ⟨by decide, fun p hp => ?_, ?_⟩
  · simp [exL] at hp
    rcases hp with rfl | rfl
    · exact ⟨ex_name2, by decide⟩
    · exact ⟨ex_name1, by decide⟩
  · simp only [exL, List.pairwise_cons, List.mem_singleton, forall_eq, List.not_mem_nil, false_implies, implies_true, List.Pairwise.nil, and_true]
    exact fun e => Lab.lt_ne ex_lt e.symm
theorem ex_canon : Lab.canon exL = exC := by
  have h : exL.Perm exC := List.Perm.swap _ _ _
  rw [Lab.canon_same h ex_right]
  refine Lab.canon_of_rise ?_ (Lab.perm_right h ex_right)
  simp only [Lab.Rise, exC, List.pairwise_cons, List.mem_singleton, forall_eq, List.not_mem_nil, false_implies, implies_true, List.Pairwise.nil, and_true]
  exact ex_lt
theorem ex_bytes : Num.bs (Lab.putL (Lab.canon exL)) = ⟨#[2, 1, 97, 1, 49, 1, 98, 1, 50]⟩ := by
  rw [ex_canon]
  have h2 : Num.put 2 = [2] := Num.put_lt (by decide)
  have h1 : Num.put 1 = [1] := Num.put_lt (by decide)
  simp only [Lab.putL, exC, Lab.pb, Lab.txt, List.length_cons, List.length_nil, Nat.zero_add, Nat.reduceAdd]
  rw [h2, show ByteArray.size ⟨#[97]⟩ = 1 from rfl, show ByteArray.size ⟨#[49]⟩ = 1 from rfl, show ByteArray.size ⟨#[98]⟩ = 1 from rfl, show ByteArray.size ⟨#[50]⟩ = 1 from rfl, h1]
  rfl

theorem ex_put (w : World) (b : Nat) (h0 : w.cell? ⟨b, 0, none⟩ = some (.string ⟨#[98]⟩)) (h1 : w.cell? ⟨b, 1, none⟩ = some (.string ⟨#[50]⟩)) (h2 : w.cell? ⟨b, 2, none⟩ = some (.string ⟨#[97]⟩)) (h3 : w.cell? ⟨b, 3, none⟩ = some (.string ⟨#[49]⟩)) :
    Calls Try.prog 30 #[.slice (some ⟨b, 0, none⟩) 2 2] w fun e w' => e = .returned (.tuple #[.string ⟨#[2, 1, 97, 1, 49, 1, 98, 1, 50]⟩, .int .i64 0]) ∧ Below w.heap.size w w' := by
  have hp : PairsAt w (some ⟨b, 0, none⟩) exL := fun i hi => ⟨b, 0, rfl, World.block_lt_of_cell? w ⟨b, 0, none⟩ h0, fun j hj => by
    match j, hj with
    | 0, _ => exact ⟨h0, h1⟩
    | 1, _ => exact ⟨h2, h3⟩⟩
  have := lput_good (some ⟨b, 0, none⟩) 2 exL w hp (by decide) ex_right
  rwa [ex_bytes] at this


end Go.Proofs.Ytbjcphefaciihaa
