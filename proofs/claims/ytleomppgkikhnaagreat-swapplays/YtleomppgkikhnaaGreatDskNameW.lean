/-
  isName; a holding that is put.
-/
import Derived.Test.YtleomppgkikhnaaGreatDskRowW
namespace Go.Proofs.YtleomppgkikhnaaGreat
open Go.RowKit
open Dsk (Nm Hold Fl Ct By)

def okB (b : UInt8) : Prop := 33 ≤ b.toNat ∧ b.toNat ≤ 126
theorem byte_at (s : ByteArray) {k : Nat} (hk : k < s.size) : s.data.toList[k]'(by simpa using hk) = s[k] := rfl
theorem isName_no {s : ByteArray} {k : Nat} (hk : k < s.size) (h : ¬ okB s[k]) : Dsk.isName s = false := by
  unfold Dsk.isName
  refine decide_eq_false (fun x => h (x.1 _ ?_))
  rw [← byte_at s hk]
  exact List.getElem_mem _
theorem isName_long {s : ByteArray} (h : s.size = 0 ∨ 24 < s.size) : Dsk.isName s = false := by
  unfold Dsk.isName
  exact decide_eq_false (fun x => by omega)
theorem isName_yes {s : ByteArray} (h1 : 1 ≤ s.size) (h2 : s.size ≤ 24) (h : ∀ b ∈ s.data.toList.take s.size, okB b) : Dsk.isName s = true := by
  unfold Dsk.isName
  refine decide_eq_true ⟨fun b hb => h b ?_, h1, h2⟩
  rw [List.take_of_length_le (by simp)]
  exact hb
theorem okB_next {s : ByteArray} {k : Nat} (hk : k < s.size) (h : ∀ b ∈ s.data.toList.take k, okB b) (h1 : 33 ≤ (s[k]).toNat) (h2 : (s[k]).toNat ≤ 126) : ∀ b ∈ s.data.toList.take (k + 1), okB b := by
  rw [List.take_succ_eq_append_getElem (by simpa using hk), byte_at s hk]
  intro b hb
  rcases List.mem_append.1 hb with hb | hb
  · exact h b hb
  · simp at hb; subst hb; exact ⟨h1, h2⟩
theorem ret_bool {a b : Bool} (h : a = b) : Ending.returned (.bool a) = .returned (.bool b) := by rw [h]

set_option maxRecDepth 100000 in
set_option maxHeartbeats 1600000 in
theorem isName_any (s : ByteArray) (w : World) (hs : s.size ≤ 9223372036854775807) :
    Calls Tryz.prog 57 #[.string s] w fun e w' => e = .returned (.bool (Dsk.isName s)) ∧ w' = w := by
  by_cases h0 : s.size = 0
  · have HE := hide (isName_long (.inl h0))
    have h0' : ((s.size : Int) == 0) = true := by simp [h0]
    go_enter Tryz.func57, Tryz.ntmps57
    go_wp2
    go_ret
    exact ⟨ret_bool HE.out.symm, rfl⟩
  have h0' : ((s.size : Int) == 0) = false := beq_eq_false_iff_ne.2 (by omega)
  by_cases h24 : 24 < s.size
  · have HE := hide (isName_long (.inr h24))
    go_enter Tryz.func57, Tryz.ntmps57
    go_wp2
    go_ret
    exact ⟨ret_bool HE.out.symm, rfl⟩
  go_enter Tryz.func57, Tryz.ntmps57
  go_wp2
  go_loopw [14] (fun i wr => ∃ k : Nat, k ≤ s.size ∧ i = .int .i64 (k : Int) ∧ Hid (∀ b ∈ s.data.toList.take k, okB b) ∧ wr = w)
    (fun i _ => s.size - (intOf i).toNat)
  case atStart => exact ⟨0, Nat.zero_le _, rfl, hide (by simp), rfl⟩
  case round =>
    obtain ⟨k, hk, rfl, HO, rfl⟩ := hrel
    by_cases hlt : k < s.size
    · have hb : (s[k]).toNat < 256 := (s[k]).toNat_lt
      by_cases h1 : (s[k]).toNat < 33
      · have HE := hide (isName_no hlt (fun x => by have := x.1; omega))
        go_wp2
        go_ret
        exact ⟨ret_bool HE.out.symm, rfl⟩
      by_cases h2 : 126 < (s[k]).toNat
      · have HE := hide (isName_no hlt (fun x => by have := x.2; omega))
        go_wp2
        go_ret
        exact ⟨ret_bool HE.out.symm, rfl⟩
      have HN := hide (okB_next hlt HO.out (by omega) (by omega))
      go_wp2
      go_roundw
      case rel => exact ⟨k + 1, by omega, by go_num, HN, trivial⟩
      case measure => simp [intOf]; omega
    · have e : k = s.size := by omega
      have HE := hide (isName_yes (s := s) (by omega) (by omega) (by rw [← e]; exact HO.out))
      clear e
      go_wp2
      go_ret
      exact ⟨ret_bool HE.out.symm, rfl⟩

set_option maxRecDepth 100000 in
set_option maxHeartbeats 1600000 in
theorem rname_any (s : ByteArray) (w : World) (hs : s.size ≤ 9223372036854775807) :
    Calls Tryz.prog 60 #[.string s] w fun e w' => e = .returned (.bool (Dsk.isName s)) ∧ Below w.heap.size w w' := by
  go_enter Tryz.func60, Tryz.ntmps60
  go_wp2
  go_loopw [3] (fun i wr => ∃ k : Nat, k ≤ s.size ∧ i = .int .i64 (k : Int) ∧ Hid (∀ b ∈ s.data.toList.take k, okB b) ∧ wr = w)
    (fun i _ => s.size - (intOf i).toNat)
  case atStart => exact ⟨0, Nat.zero_le _, rfl, hide (by simp), rfl⟩
  case round =>
    obtain ⟨k, hk, rfl, HO, rfl⟩ := hrel
    by_cases hlt : k < s.size
    · have hb : (s[k]).toNat < 256 := (s[k]).toNat_lt
      by_cases h1 : (s[k]).toNat < 33
      · have HE := hide (isName_no hlt (fun x => by have := x.1; omega))
        go_wp2
        go_ret
        exact ⟨ret_bool HE.out.symm, Below.refl _ _⟩
      by_cases h2 : 126 < (s[k]).toNat
      · have HE := hide (isName_no hlt (fun x => by have := x.2; omega))
        go_wp2
        go_ret
        exact ⟨ret_bool HE.out.symm, Below.refl _ _⟩
      have HN := hide (okB_next hlt HO.out (by omega) (by omega))
      go_wp2
      go_roundw
      case rel => exact ⟨k + 1, by omega, by go_num, HN, trivial⟩
      case measure => simp [intOf]; omega
    · have e : k = s.size := by omega
      by_cases h0 : s.size < 1
      · have HE := hide (isName_long (s := s) (.inl (by omega)))
        clear e
        go_wp2
        go_ret
        exact ⟨ret_bool HE.out.symm, Below.refl _ _⟩
      by_cases h24 : 24 < s.size
      · have HE := hide (isName_long (.inr h24))
        clear e
        go_wp2
        go_ret
        exact ⟨ret_bool ((decide_eq_false (by omega)).trans HE.out.symm), Below.refl _ _⟩
      have HE := hide (isName_yes (s := s) (by omega) (by omega) (by rw [← e]; exact HO.out))
      clear e
      go_wp2
      go_ret
      exact ⟨ret_bool ((decide_eq_true (by omega)).trans HE.out.symm), Below.refl _ _⟩


/-- Only block b, and new ones, have changed. -/
def one (b : Nat) : Nat → Prop := fun k => k = b
set_option maxHeartbeats 1600000 in
theorem put_none {w : World} {b c : Nat} {f : Nm} (h : MapIs w b c f) (n : ByteArray) (hn : n.size ≤ maxLen) :
    Calls Tryz.prog 76 #[.agg #[.string n, .pointer none], .map (some b)] w fun e w' => e = .returned (.tuple #[]) ∧ MapIs w' b c (Dsk.putN (n, none) f) ∧ Only (one b) w w' := by
  have h1 : MapIs (w.alloc (.cells #[.string n, .pointer none] 68)) b c f := h.keep (Below.heap_alloc _ _ _ h.lt)
  obtain ⟨w', hr, hm, hg, hs⟩ := h1.drop hn 0
  have HO : Hid (Only (one b) w w') := hide ((Only.of_below ((Below.refl _ w).alloc (Nat.le_refl _) _)).trans' (Only.grown hg (fun g e => by cases e; rfl)))
  clear hg hs
  go_enter Tryz.func76, Tryz.ntmps76
  go_wp2
  refine bodyPost_ret (v := .tuple #[]) (results_none rfl _ _ _) rfl ?_
  exact ⟨rfl, hm, HO.out⟩
set_option maxHeartbeats 1600000 in
theorem put_some {w : World} {b c : Nat} {f : Nm} (h : MapIs w b c f) (n : ByteArray) (hn : n.size ≤ maxLen) (hc : c < maxLen) (x : Nat) :
    Calls Tryz.prog 76 #[.agg #[.string n, .pointer (some ⟨x, 0, none⟩)], .map (some b)] w fun e w' => e = .returned (.tuple #[]) ∧ MapIs w' b (c + 1) (Dsk.putN (n, some x) f) ∧ Only (one b) w w' := by
  have h1 : MapIs (w.alloc (.cells #[.string n, .pointer (some ⟨x, 0, none⟩)] 68)) b c f := h.keep (Below.heap_alloc _ _ _ h.lt)
  obtain ⟨w', hr, hm, hg, hs⟩ := h1.store hn hc x
  have HO : Hid (Only (one b) w w') := hide ((Only.of_below ((Below.refl _ w).alloc (Nat.le_refl _) _)).trans' (Only.grown hg (fun g e => by cases e; rfl)))
  clear hg hs
  go_enter Tryz.func76, Tryz.ntmps76
  go_wp2
  go_end0
  exact ⟨rfl, hm, HO.out⟩

end Go.Proofs.YtleomppgkikhnaaGreat
