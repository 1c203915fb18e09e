/-
  The document's New; the statements' own kind and name.
-/
import Derived.Test.YtjbdofjheeljkaaPickW
import Derived.Test.YtjbdofjheeljkaaLdgDoc
namespace Go.Proofs.Ytjbdofjheeljkaa
open Go.RowKit
open Ldg (De Le Rd Rl)

theorem rnew_any (w : World) : Calls Try.prog 17 #[] w fun e w' => ∃ rv, e = .returned rv ∧ RlAt w' rv ⟨1, 1, []⟩ ∧ Below w.heap.size w w' := by
  go_enter Try.func17, Try.ntmps17
  go_wp2_with fail
  refine bodyPost_ret (v := .agg #[.int .u64 1, .int .u64 1, .slice none 0 0]) (by simp [results, Try.results17, go_sem]) rfl ?_
  refine ⟨_, rfl, ⟨none, 0, [], rfl, Nat.le_refl _, rfl, RsAt.nil _ _⟩, ?_⟩
  exact (Below.refl w.heap.size w).alloc (Nat.le_refl _) _

def kindOf (k : Nat) : Nat := [97, 97, 97, 97, 114, 114, 114, 101].getD k 101
theorem kindOf_is (k : Nat) : kindOf k = 97 ∨ kindOf k = 114 ∨ kindOf k = 101 := by
  match k with
  | 0 | 1 | 2 | 3 => exact .inl rfl
  | 4 | 5 | 6 => exact .inr (.inl rfl)
  | k + 7 => exact .inr (.inr (by match k with | 0 => rfl | k + 1 => rfl))
set_option maxRecDepth 100000 in
set_option maxHeartbeats 600000 in
theorem kind_any (c : Int) (w : World) (h0 : -9223372036854775808 ≤ c) (h1 : c ≤ 9223372036854775807) :
    Calls Try.prog 50 #[.int .i64 c] w fun e w' => e = .returned (.int .u8 (kindOf (pk c 8) : Int)) ∧ w' = w := by
  obtain ⟨n, hn⟩ : ∃ n, pk c 8 = n := ⟨_, rfl⟩
  have hlt : n < 8 := by rw [← hn]; exact pk_lt c (by omega)
  rw [hn]
  have HN := hide hn
  clear hn
  go_enter Try.func50, Try.ntmps50
  go_wp2_with fail
  refine (pick_any c 8 _ h0 h1 (by omega) (by omega)).mono ?_
  rintro e w1 ⟨rfl, rfl⟩
  rw [HN.out]
  have h8 : n = 0 ∨ n = 1 ∨ n = 2 ∨ n = 3 ∨ n = 4 ∨ n = 5 ∨ n = 6 ∨ n = 7 := by omega
  clear hlt HN
  rcases h8 with rfl | rfl | rfl | rfl | rfl | rfl | rfl | rfl
  all_goals
    go_wp2
    go_ret
    exact ⟨rfl, rfl⟩

def nameAt (k : Nat) : ByteArray := [(⟨#[97]⟩ : ByteArray), ⟨#[98]⟩, ⟨#[99]⟩, ⟨#[100]⟩, ⟨#[101]⟩].getD k ⟨#[49]⟩
theorem nameAt_size (k : Nat) : (nameAt k).size = 1 := by
  match k with
  | 0 | 1 | 2 | 3 | 4 => rfl
  | k + 5 => simp [nameAt]; rfl
theorem six_at (w : World) {k : Nat} (hk : k < 6) : (w.alloc (.cells #[.string ⟨#[97]⟩, .string ⟨#[98]⟩, .string ⟨#[99]⟩, .string ⟨#[100]⟩, .string ⟨#[101]⟩, .string ⟨#[49]⟩] 9)).cell? ⟨w.heap.size, k, none⟩ = some (.string (nameAt k)) := by
  match k, hk with
  | 0, _ => simp [nameAt]
  | 1, _ => simp [nameAt]
  | 2, _ => simp [nameAt]
  | 3, _ => simp [nameAt]
  | 4, _ => simp [nameAt]
  | 5, _ => simp [nameAt]
set_option maxRecDepth 100000 in
set_option maxHeartbeats 600000 in
theorem lname_any (c : Int) (w : World) (h0 : -9223372036854775808 ≤ c) (h1 : c ≤ 9223372036854775807) :
    Calls Try.prog 20 #[.int .i64 c] w fun e w' => e = .returned (.string (nameAt (pk c 6))) ∧ Below w.heap.size w w' := by
  obtain ⟨n, hn⟩ : ∃ n, pk c 6 = n := ⟨_, rfl⟩
  have hlt : n < 6 := by rw [← hn]; exact pk_lt c (by omega)
  rw [hn]
  have HN := hide hn
  clear hn
  have hc := six_at w hlt
  have bA : Below w.heap.size w (w.alloc (.cells #[.string ⟨#[97]⟩, .string ⟨#[98]⟩, .string ⟨#[99]⟩, .string ⟨#[100]⟩, .string ⟨#[101]⟩, .string ⟨#[49]⟩] 9)) := (Below.refl _ w).alloc (Nat.le_refl _) _
  have HBA := hide bA
  clear bA
  go_enter Try.func20, Try.ntmps20
  go_wp2_with fail
  refine (pick_any c 6 _ h0 h1 (by omega) (by omega)).mono ?_
  rintro e w1 ⟨rfl, hw⟩
  rw [hw, HN.out]
  clear hw
  go_wp2
  go_ret
  exact ⟨rfl, HBA.out⟩
end Go.Proofs.Ytjbdofjheeljkaa
