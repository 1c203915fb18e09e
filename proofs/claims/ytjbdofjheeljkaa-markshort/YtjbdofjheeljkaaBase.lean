/-
  Small helpers of our own that every walk uses: worlds one behind the other, what is hidden from the walk, bytes as values.
-/
import Derived.Test.YtjbdofjheeljkaaRows
import Derived.Test.YtjbdofjheeljkaaMath
import Derived.WalkKit
import Derived.WalkSpells
import Derived.WalkLawsBesides
namespace Go.Proofs.Ytjbdofjheeljkaa
open Go.RowKit

theorem hide {p : Prop} (h : p) : Hid p := h
theorem unhide {p : Prop} (h : Hid p) : p := h

theorem ret_true {b : Bool} (h : b = true) : Ending.returned (.bool b) = .returned (.bool true) := by rw [h]

theorem extract_bs (s : ByteArray) (k : Nat) : s.extract k s.size = Num.bs (s.data.toList.drop k) := by
  apply ByteArray.ext
  apply Array.ext'
  simp [Num.bs]
  exact List.take_of_length_le (by simp)

/-- Two calls, one behind the other. -/
theorem bl {a b c : World} (h : Below a.heap.size a b) (k : Below b.heap.size b c) : Below a.heap.size a c := h.trans (k.mono h.size)

def bytesV (l : List UInt8) : List Value := l.map (fun b => Value.int .u8 (b.toNat : Int))

theorem ret_bs {a b : List UInt8} (h : a = b) : Ending.returned (.string (Num.bs a)) = .returned (.string (Num.bs b)) := by rw [h]

/-- 'string(b)' of bytes that the call owns. -/
theorem conv_own {P : Program} {w : World} {base src dst e : Nat} {v : Value} {n : Nat} {vs : List Value} (l : List UInt8) (hs : P.underlying src = some (.slice e)) (he : P.underlying e = some (.int .u8)) (hd : P.underlying dst = some .string)
    (hown : w.ownsRow base e 1 v n vs) (hn : n = l.length) (hvs : vs = bytesV l) (hl : l ≠ []) : (convert src dst v).run P w = .ok (.string (Num.bs l)) w := by
  subst hn hvs
  rcases hown.2 with ⟨rfl, h0⟩ | ⟨g, cap, cur, rfl, hg, hh, hnc, hcp, hcs, htake⟩
  · exact absurd (List.length_eq_zero_iff.1 h0) hl
  · refine run_convert_bytes_back (P := P) w src dst e ⟨g, 0, none⟩ cap l hs he hd fun j hj => ?_
    rw [Addr.add_lit, Nat.zero_add, hown.cellAt j (by omega)]
    simp [bytesV, hj]

end Go.Proofs.Ytjbdofjheeljkaa
