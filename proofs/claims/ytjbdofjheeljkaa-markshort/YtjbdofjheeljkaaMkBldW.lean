/-
  strings.Builder at this program: a text is written behind what it holds (WriteString); what it holds (String: ShelfB).
-/
import Derived.Test.YtjbdofjheeljkaaShelfB
import Derived.Test.YtjbdofjheeljkaaPutW
import Derived.Test.YtjbdofjheeljkaaLdgDoc
namespace Go.Proofs.Ytjbdofjheeljkaa
open Go.RowKit Go.Shelf

theorem bld_size : (Try.prog.info? 127).map (fun i => i.size) = some 2 := by kernel_rfl
theorem bld_lies : liesAt Try.prog Try.prog.depth 127 (2 / Try.prog.cellsOf 127) 0 127 1 = true := by kernel_rfl
set_option maxHeartbeats 1000000 in
set_option maxRecDepth 100000 in
/-- Its own address lies there. -/
theorem bcheck_used (b : Nat) (w : World) (h0 : w.cell? ⟨b, 0, none⟩ = some (.pointer (some ⟨b, 0, none⟩))) :
    Calls Try.prog 95 #[.pointer (some ⟨b, 0, none⟩)] w fun e w' => e = .returned (.tuple #[]) ∧ w' = w := by
  obtain ⟨j, hj, _⟩ := Option.map_eq_some_iff.1 bld_size
  go_enter Try.func95, Try.ntmps95
  go_wp2
  rw [Lib.run_neq_ptr_same w _ Try.underlying125 hj]
  go_wp2
  go_end0
  exact ⟨rfl, rfl⟩
set_option maxHeartbeats 1000000 in
set_option maxRecDepth 100000 in
/-- No address lies there yet. -/
theorem bcheck_fresh (b : Nat) (w : World) (h0 : w.cell? ⟨b, 0, none⟩ = some (.pointer none)) (hsh : w.shape? b = some (127, 2)) (hfz : w.frozen? ⟨b, 0, none⟩ = false) :
    Calls Try.prog 95 #[.pointer (some ⟨b, 0, none⟩)] w fun e w' => e = .returned (.tuple #[]) ∧ w' = w.setCell ⟨b, 0, none⟩ (.pointer (some ⟨b, 0, none⟩)) := by
  obtain ⟨j, hj, hjs⟩ := Option.map_eq_some_iff.1 bld_size
  have hto := Lib.run_to_unsafe (P := Try.prog) (w := w) (src := 125) (dst := 148) ⟨b, 0, none⟩ Try.underlying125 Try.underlying148 hj (by rw [hjs]; decide) hsh (Nat.zero_lt_succ 1)
  have HFR := hide (Lib.run_from_unsafe (P := Try.prog) (w := w) (src := 148) (dst := 125) ⟨b, 0, none⟩ Try.underlying148 Try.underlying125 hj hsh bld_lies)
  go_enter Try.func95, Try.ntmps95
  go_wp2
  rw [run_callFunc_extern Try.func101 (by kernel_rfl) (by kernel_rfl) (by kernel_rfl) (e := Extern.AbiNoEscape.same) (by kernel_rfl), Lib.run_noEscape]
  simp only [Result.andThen]
  rw [Oper.upon_value]
  go_wp2
  rw [HFR.out]
  simp only [Result.andThen]
  rw [Oper.upon_value]
  go_wp2
  go_end0
  exact ⟨rfl, rfl⟩
theorem bcheck_any (B b : Nat) (bs : List Value) (w : World) (h : Lib.IsBuilder 127 5 B b bs w) :
    Calls Try.prog 95 #[.pointer (some ⟨b, 0, none⟩)] w fun e w' => e = .returned (.tuple #[]) ∧ Lib.BuilderAt 127 5 B b (.pointer (some ⟨b, 0, none⟩)) bs w' ∧ Below B w w' := by
  rcases h with h | h
  · exact (bcheck_fresh b w h.cell0 h.shape h.frozen0).mono (fun e w' he => ⟨he.1, by rw [he.2]; exact h.used _, by rw [he.2]; exact (Below.refl B w).setCell (p := ⟨b, 0, none⟩) h.1 _⟩)
  · exact (bcheck_used b w h.cell0).mono (fun e w' he => ⟨he.1, by rw [he.2]; exact h, by rw [he.2]; exact Below.refl B w⟩)
set_option maxHeartbeats 2000000 in
set_option maxRecDepth 100000 in
theorem bwrite_any (B b : Nat) (bs : List Value) (s : ByteArray) (w : World) (h : Lib.IsBuilder 127 5 B b bs w) (hlen : bs.length + s.size ≤ 140737488355328) (hBw : B ≤ w.heap.size) :
    Calls Try.prog 84 #[.pointer (some ⟨b, 0, none⟩), .string s] w fun e w' => e = .returned (.tuple #[.int .i64 s.size, .nilIface]) ∧ Lib.IsBuilder 127 5 B b (bs ++ Lib.strCells s) w' ∧ Below B w w' := by
  obtain ⟨i0, hi, hz0, hz1, hz2⟩ := info_parts info_u8
  go_enter Try.func84, Try.ntmps84
  go_wp2_with fail
  refine (bcheck_any B b bs w h).mono ?_
  rintro e w1 ⟨rfl, h1, hb1⟩
  have hlt := h1.lt
  obtain ⟨hB, v, hbk, hown, hne⟩ := h1
  have hsz := hb1.size
  have c0 := lcell_of hbk 0 rfl
  have c1 := lcell_of hbk 1 rfl
  go_wp2_with (at_builtin; refine Lib.wpList_append_own_string _ rfl _ _ 97 9 rfl B 5 i0 Try.underlying97 Try.underlying9 hi hz0 hz1 hz2 _ _ _ rfl hown s rfl ?c3 ?c4 ?c5 ?_)
  case c3 => unfold maxLen; omega
  case c4 => omega
  case c5 => omega
  intro v' w2 hown' hgrow _
  have hb2 : w2.heap[b]? = some (.cells #[.pointer (some ⟨b, 0, none⟩), v] 127 (0, 0)) := (hgrow.block b hlt (fun e => hne e.symm)).trans hbk
  have d1 := lcell_of hb2 1 rfl
  have fd := lfrozen_of hb2
  have hput := Lib.BuilderAt.put (p := .pointer (some ⟨b, 0, none⟩)) hB hb2 (bs' := bs ++ Lib.strCells s) (by simpa [Lib.strCells_length] using hown') (by decide)
  have hbel := (hb1.grown hgrow (by omega) (fun k hk => (hown.lt k hk).1)).setCell (p := ⟨b, 1, none⟩) hB v'
  obtain ⟨ao, n', cap, rfl⟩ : ∃ ao n' cap, v' = .slice ao n' cap := by
    rcases hown'.2 with ⟨hv, _⟩ | ⟨g, cap, cur, hv, _⟩
    · exact ⟨_, _, _, hv⟩
    · exact ⟨_, _, _, hv⟩
  clear hbk hown hown' hgrow hb1 hb2
  go_wp2
  go_ret2
  exact ⟨rfl, .inr hput, hbel⟩
theorem bstr_any (B b : Nat) (l : List UInt8) (w : World) (h : Lib.IsBuilder 127 5 B b (Lib.byteCells l) w) (hBw : B ≤ w.heap.size) :
    Calls Try.prog 86 #[.pointer (some ⟨b, 0, none⟩)] w fun e w' => e = .returned (.string (Num.bs l)) ∧ Below B w w' := Try.Builder_String_any B b l w h hBw
theorem bld_keep {B b : Nat} {bs : List Value} {w w' : World} (h : Lib.IsBuilder 127 5 B b bs w) (hb : Below w.heap.size w w') : Lib.IsBuilder 127 5 B b bs w' := by
  have key : ∀ p, Lib.BuilderAt 127 5 B b p bs w → Lib.BuilderAt 127 5 B b p bs w' := fun p h => by
    have hlt := h.lt
    obtain ⟨hB, v, hbk, hown, hne⟩ := h
    exact ⟨hB, v, (hb.block b hlt).trans hbk, lown_keep hown (fun g e => hb.block g (lown_lt hown e).1), hne⟩
  rcases h with h | h
  · exact .inl (key _ h)
  · exact .inr (key _ h)
end Go.Proofs.Ytjbdofjheeljkaa
