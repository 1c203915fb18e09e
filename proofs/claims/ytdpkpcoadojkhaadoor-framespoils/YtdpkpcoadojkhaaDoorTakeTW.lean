/-
  What num.TakeInt and num.TakeText do: for every text, and every bound.
-/
import Derived.Test.YtdpkpcoadojkhaaDoorTakeW
import Derived.BigQuiet
namespace Go.Proofs.YtdpkpcoadojkhaaDoor
open Go.RowKit

theorem take_none (s : ByteArray) (w : World) (hs : s.size ≤ maxLen) (h : Num.take s.data.toList = none) :
    Calls Tryd.prog 26 #[.string s] w fun e w' => e = .returned (.tuple #[.int .u64 0, .string ⟨#[]⟩, .int .i64 2]) ∧ Below w.heap.size w w' := by
  have := take_any s w hs
  rwa [takeV, h] at this
theorem take_some (s : ByteArray) (w : World) (hs : s.size ≤ maxLen) {n : Nat} {r : List UInt8} (h : Num.take s.data.toList = some (n, r)) :
    Calls Tryd.prog 26 #[.string s] w fun e w' => e = .returned (.tuple #[.int .u64 (n : Int), .string (Num.bs r), .int .i64 0]) ∧ Below w.heap.size w w' := by
  have := take_any s w hs
  rwa [takeV, h] at this

def takeIntV (l : List UInt8) : Value :=
  match Num.take l with
  | none => .tuple #[.int .i64 0, .string ⟨#[]⟩, .int .i64 2]
  | some (n, r) => .tuple #[.int .i64 (Num.zag n), .string (Num.bs r), .int .i64 0]

theorem takeIntV_some {l r : List UInt8} {n : Nat} {N : Int} (h : Num.take l = some (n, r)) (hn : N = Num.zag n) : Ending.returned (.tuple #[.int .i64 N, .string (Num.bs r), .int .i64 0]) = .returned (takeIntV l) := by rw [takeIntV, h, hn]
theorem takeIntV_none {l : List UInt8} (h : Num.take l = none) : Ending.returned (.tuple #[.int .i64 0, .string ⟨#[]⟩, .int .i64 2]) = .returned (takeIntV l) := by rw [takeIntV, h]

def mostOf (most : Int) : Int := if most < 0 then 0 else most
def takeTextV (l : List UInt8) (most : Int) : Value :=
  match Num.take l with
  | none => .tuple #[.string ⟨#[]⟩, .string ⟨#[]⟩, .int .i64 2]
  | some (n, r) => if mostOf most < (n : Int) then .tuple #[.string ⟨#[]⟩, .string ⟨#[]⟩, .int .i64 7] else if r.length < n then .tuple #[.string ⟨#[]⟩, .string ⟨#[]⟩, .int .i64 2]
      else .tuple #[.string (Num.bs (r.take n)), .string (Num.bs (r.drop n)), .int .i64 0]

theorem take_len {l r : List UInt8} {n : Nat} (h : Num.take l = some (n, r)) : r.length ≤ l.length := by
  rw [(Num.of_take h).1]; simp

theorem takeTextV_none {l : List UInt8} {most : Int} (h : Num.take l = none) : Ending.returned (.tuple #[.string ⟨#[]⟩, .string ⟨#[]⟩, .int .i64 2]) = .returned (takeTextV l most) := by rw [takeTextV, h]
theorem takeTextV_long {l r : List UInt8} {n : Nat} {most : Int} (h : Num.take l = some (n, r)) (c : mostOf most < (n : Int)) : Ending.returned (.tuple #[.string ⟨#[]⟩, .string ⟨#[]⟩, .int .i64 7]) = .returned (takeTextV l most) := by
  rw [takeTextV, h]; simp only []; rw [if_pos c]
theorem takeTextV_short {l r : List UInt8} {n : Nat} {most : Int} (h : Num.take l = some (n, r)) (c : ¬ mostOf most < (n : Int)) (d : r.length < n) : Ending.returned (.tuple #[.string ⟨#[]⟩, .string ⟨#[]⟩, .int .i64 2]) = .returned (takeTextV l most) := by
  rw [takeTextV, h]; simp only []; rw [if_neg c, if_pos d]
theorem takeTextV_some {l r : List UInt8} {n : Nat} {most : Int} {x y : ByteArray} (h : Num.take l = some (n, r)) (c : ¬ mostOf most < (n : Int)) (d : ¬ r.length < n) (hx : x = Num.bs (r.take n)) (hy : y = Num.bs (r.drop n)) :
    Ending.returned (.tuple #[.string x, .string y, .int .i64 0]) = .returned (takeTextV l most) := by
  rw [takeTextV, h, hx, hy]; simp only []; rw [if_neg c, if_neg d]

theorem bs_front (r : List UInt8) (n : Nat) : (Num.bs r).extract 0 n = Num.bs (r.take n) := by
  apply ByteArray.ext
  apply Array.ext'
  simp [Num.bs]
theorem bs_back (r : List UInt8) (n : Nat) : (Num.bs r).extract n r.length = Num.bs (r.drop n) := by
  have h := extract_bs (Num.bs r) n
  rw [Num.bs_size] at h
  exact h

end Go.Proofs.YtdpkpcoadojkhaaDoor
