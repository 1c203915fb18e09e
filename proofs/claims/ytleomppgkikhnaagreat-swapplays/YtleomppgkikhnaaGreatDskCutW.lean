/-
  A file that is cut.
-/
import Derived.Test.YtleomppgkikhnaaGreatDskFileW
import Derived.Test.YtleomppgkikhnaaGreatGrowK
namespace Go.Proofs.YtleomppgkikhnaaGreat
open Go.RowKit
open Dsk (Nm Hold Fl Ct By)

theorem uu8 : Tryz.prog.underlying 5 = some (.int .u8) := by kernel_rfl
theorem conv_none (w : World) (a : Option Addr) (c : Nat) : (convert 69 9 (.slice a 0 c)).run Tryz.prog w = .ok (.string ByteArray.empty) w := by
  cases a with
  | none =>
    rw [run_convert_bytes_string w _ _ 5 none 0 c ubytes uu8 ustr]
    simp [Conv.bytesToString]
  | some a => exact run_convert_bytes_back (P := Tryz.prog) w 69 9 5 a c [] ubytes uu8 ustr (fun j hj => by simp at hj)
/-- 'string(text[n:])'. -/
theorem conv_from {w : World} {g : Nat} {cur : Array Value} {t : By} (h : w.heap[g]? = some (.cells cur 5 (0, 0))) (ht : cur.toList.take t.length = bytesV t) (n c : Nat) :
    (convert 69 9 (.slice (some ⟨g, n, none⟩) (t.length - n) c)).run Tryz.prog w = .ok (.string (Num.bs (t.drop n))) w := by
  have := run_convert_bytes_back (P := Tryz.prog) w 69 9 5 ⟨g, n, none⟩ c (t.drop n) ubytes uu8 ustr (fun j hj => by
    rw [List.length_drop] at hj
    have e : (⟨g, n, none⟩ : Addr).add j = ⟨g, n + j, none⟩ := Addr.add_lit ..
    rw [e, List.getElem_drop]
    refine cell_of h (n + j) ?_
    have h1 : (cur.toList.take t.length)[n + j]? = some (.int .u8 ((t[n + j]'(by omega)).toNat : Int)) := by rw [ht]; simp [bytesV, show n + j < t.length by omega]
    rw [List.getElem?_take_of_lt (by omega)] at h1
    simpa using h1)
  rw [List.length_drop] at this
  exact this

theorem ubytesE : Tryz.prog.underlying 69 = some (.slice (Tryz.prog.elem 69)) := by kernel_rfl
theorem elem_bytes : Tryz.prog.elem 69 = 5 := by kernel_rfl
theorem size_u8 (w : World) : (sizeOf 5).run Tryz.prog w = .ok 1 w := by
  obtain ⟨i, hi, _, hs, _⟩ := u8_info
  simp [sizeOf, typeInfo, hi, hs]
/-- 'text[n:]', 'text[:n]'. -/
theorem slice_from (a : Option Addr) (l c n : Nat) (h : n ≤ l) (w : World) : (Instr.slice 69 (.slice a l c) (some (.int .i64 (n : Int))) none none).run Tryz.prog w = .ok (.slice (if c = n then a else a.map (·.add n)) (l - n) (c - n)) w := by
  rw [run_slice_l (P := Tryz.prog) w 69 a l c ubytesE .i64 (n : Int) (by omega) (by omega), elem_bytes, size_u8]
  simp [Result.andThen, sliced]
theorem slice_upto (a : Option Addr) (l c n : Nat) (h : n ≤ c) (w : World) : (Instr.slice 69 (.slice a l c) none (some (.int .i64 (n : Int))) none).run Tryz.prog w = .ok (.slice a n c) w := by
  rw [run_slice_h (P := Tryz.prog) w 69 a l c ubytesE .i64 (n : Int) (by omega) (by omega), elem_bytes, size_u8]
  simp only [Result.andThen, sliced, Int.toNat_natCast, Nat.sub_zero, Result.ok.injEq, Value.slice.injEq, and_true]
  split
  · rfl
  · cases a with
    | none => rfl
    | some a => cases a; simp [Addr.add]
/-- The first n of bytes in a row. -/
theorem TextAt.take {w : World} {a : Option Addr} {l c : Nat} {t : By} (h : TextAt w (.slice a l c) t) {n : Nat} (hn : n ≤ t.length) : TextAt w (.slice a n c) (t.take n) ∧ rowB (.slice a n c) = rowB (.slice a l c) := by
  rcases h with ⟨rfl, a', e, hsp⟩ | ⟨g, cap, cur, e, h1, h2, h3, h4, h5⟩
  · simp only [Value.slice.injEq] at e
    obtain ⟨rfl, rfl, rfl⟩ := e
    have hn0 : n = 0 := by simpa using hn
    subst hn0
    exact ⟨.inl ⟨rfl, _, rfl, hsp⟩, rfl⟩
  · simp only [Value.slice.injEq] at e
    obtain ⟨rfl, rfl, rfl⟩ := e
    have e1 : (t.take n).length = n := by rw [List.length_take]; omega
    refine ⟨.inr ⟨g, cap, cur, by rw [e1], h1, by omega, h3, h4, ?_⟩, rfl⟩
    rw [e1]
    have := congrArg (List.take n) h5
    rw [List.take_take, show min n t.length = n by omega] at this
    rw [this]
    simp [bytesV, List.map_take]
theorem TextAt.conv {w : World} {a : Option Addr} {l c : Nat} {t : By} (h : TextAt w (.slice a l c) t) {n : Nat} (hn : n ≤ t.length) (W : World) (hW : ∀ b, rowB (.slice a l c) = some b → W.heap[b]? = w.heap[b]?) :
    (convert 69 9 (.slice (if c = n then a else a.map (·.add n)) (l - n) (c - n))).run Tryz.prog W = .ok (.string (Num.bs (t.drop n))) W := by
  rcases h with ⟨rfl, a', e, hsp⟩ | ⟨g, cap, cur, e, h1, h2, h3, h4, h5⟩
  · simp only [Value.slice.injEq] at e
    obtain ⟨rfl, rfl, rfl⟩ := e
    rw [Nat.zero_sub, conv_none]
    simp [Num.bs]
    rfl
  · simp only [Value.slice.injEq] at e
    obtain ⟨rfl, rfl, rfl⟩ := e
    by_cases hc : cap + 1 = n
    · rw [if_pos hc, show t.length - n = 0 by omega, conv_none, List.drop_of_length_le (by omega)]
      simp [Num.bs]
      rfl
    · rw [if_neg hc]
      simp only [Option.map_some]
      rw [show (⟨g, 0, none⟩ : Addr).add n = ⟨g, n, none⟩ by rw [Addr.add_lit, Nat.zero_add]]
      exact conv_from ((hW g rfl).trans h1) h5 n _
theorem cut_info : ∃ i, Tryz.prog.info? 115 = some i ∧ i.zero = some (.agg #[.int .i64 0, .string ByteArray.empty]) ∧ i.size = 2 ∧ i.bytes = 24 := by
  have h : (Tryz.prog.info? 115).map (fun i => (i.zero, i.size, i.bytes)) = some (some (.agg #[.int .i64 0, .string ByteArray.empty]), 2, 24) := by kernel_rfl
  obtain ⟨i, hi, e⟩ := Option.map_eq_some_iff.1 h
  simp only [Prod.mk.injEq] at e
  exact ⟨i, hi, e.1, e.2.1, e.2.2⟩
theorem ucuts : Tryz.prog.underlying 72 = some (.slice 115) := by kernel_rfl
theorem cutV_snoc (l : List Ct) (c : Ct) : cutV (l ++ [c]) = cutV l ++ [.int .i64 (c.1 : Int), .string (Num.bs c.2)] := by simp [cutV]
/-- Two cells in a new block. -/
theorem two_new (w : World) (x y : Value) (t : TypeId) : ∀ j u, [x, y][j]? = some u → (w.alloc (.cells #[x, y] t)).cell? ((⟨w.heap.size, 0, none⟩ : Addr).add j) = some u := by
  intro j u h
  rw [Addr.add_lit, Nat.zero_add]
  match j, h with
  | 0, h => simp at h ⊢; exact h
  | 1, h => simp at h ⊢; exact h
theorem CutsAt.app {w : World} {v : Value} {l : List Ct} (h : CutsAt w v l) (g : Nat) (t : By) (hl : l.length ≤ 1000000000000) (ty : TypeId) :
    ∃ v' w', (Builtin.append_ #[72, 72] ty #[v, .slice (some ⟨w.heap.size, 0, none⟩) 1 1]).run Tryz.prog (w.alloc (.cells #[.int .i64 (g : Int), .string (Num.bs t)] 115)) = .ok v' w' ∧
      CutsAt w' v' (l ++ [(g, t)]) ∧ (w.alloc (.cells #[.int .i64 (g : Int), .string (Num.bs t)] 115)).grownBy w' v.ownBlock ∧ (∀ x, v'.ownBlock = some x → v.ownBlock = some x ∨ w.heap.size ≤ x) ∧ ∃ a n c, v' = .slice a n c := by
  obtain ⟨i, hi, hz, hs, hby⟩ := cut_info
  obtain ⟨v', w', hr, ho, hg, hb⟩ := app_own (w.alloc (.cells #[.int .i64 (g : Int), .string (Num.bs t)] 115)) 0 72 ty 115 i _ 2 24 ucuts hi hz hs hby rfl (by decide) v l.length (cutV l) (h.alloc _) ⟨w.heap.size, 0, none⟩ 1 1
    [.int .i64 (g : Int), .string (Num.bs t)] rfl (two_new _ _ _ _) (fun u hu => by simp at hu; rcases hu with rfl | rfl <;> rfl) (by unfold maxLen; omega) (by omega) (Nat.zero_le _)
  refine ⟨v', w', hr, ?_, hg, fun x e => ?_, ?_⟩
  · unfold CutsAt
    rw [cutV_snoc, List.length_append]
    exact ho
  · rcases hb with hb | hb
    · exact .inl (hb ▸ e)
    · rw [hb] at e
      simp only [World.size_alloc, Option.some.injEq] at e
      exact .inr (by omega)
  · rcases ho.2 with ⟨e, _⟩ | ⟨g, cap, cur, e, _⟩
    · exact ⟨_, _, _, e⟩
    · exact ⟨_, _, _, e⟩

end Go.Proofs.YtleomppgkikhnaaGreat
