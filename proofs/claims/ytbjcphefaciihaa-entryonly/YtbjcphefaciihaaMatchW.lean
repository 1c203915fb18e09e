/-
  Matchers in memory; label.Match.
-/
import Derived.Test.YtbjcphefaciihaaPairsW
import Derived.Test.YtbjcphefaciihaaCalm
namespace Go.Proofs.Ytbjcphefaciihaa
open Go.RowKit
open Lab (Pr)

abbrev Mt := ByteArray × ByteArray × Bool
/-- The matchers lie behind the address 'a', three cells each. -/
def MatsAt (w : World) (a : Option Addr) (ms : List Mt) : Prop :=
  ∀ i, i < ms.length → ∃ b off, a = some ⟨b, off, none⟩ ∧ b < w.heap.size ∧ ∀ j (h : j < ms.length), w.cell? ⟨b, off + j * 3, none⟩ = some (.string (ms[j]).1) ∧ w.cell? ⟨b, off + j * 3 + 1, none⟩ = some (.string (ms[j]).2.1) ∧ w.cell? ⟨b, off + j * 3 + 2, none⟩ = some (.bool (ms[j]).2.2)
theorem MatsAt.below {w w' : World} {a : Option Addr} {ms : List Mt} (h : MatsAt w a ms) (hb : Below w.heap.size w w') : MatsAt w' a ms := by
  intro i hi
  obtain ⟨b, off, ha, hbl, hc⟩ := h i hi
  have hsz := hb.size
  exact ⟨b, off, ha, by omega, fun j hj => ⟨(hb.cell (by exact hbl)).trans (hc j hj).1, (hb.cell (by exact hbl)).trans (hc j hj).2.1, (hb.cell (by exact hbl)).trans (hc j hj).2.2⟩⟩
theorem MatsAt.get {w wr : World} {a : Option Addr} {ms : List Mt} (h : MatsAt w a ms) (hnx : Below w.heap.size w wr) {k : Nat} (hk : k < ms.length) :
    ∃ b off zn zv q, a = some ⟨b, off, none⟩ ∧ b < w.heap.size ∧ ms[k] = (zn, zv, q) ∧ wr.cell? ⟨b, off + k * 3, none⟩ = some (.string zn) ∧ wr.cell? ⟨b, off + k * 3 + 1, none⟩ = some (.string zv) ∧ wr.cell? ⟨b, off + k * 3 + 2, none⟩ = some (.bool q) := by
  obtain ⟨b, off, ha, hbl, hc⟩ := h k hk
  exact ⟨b, off, _, _, _, ha, hbl, rfl, (hnx.cell (by exact hbl)).trans (hc k hk).1, (hnx.cell (by exact hbl)).trans (hc k hk).2.1, (hnx.cell (by exact hbl)).trans (hc k hk).2.2⟩
theorem MatsAt.nil (w : World) (a : Option Addr) : MatsAt w a [] := fun i h => by simp at h

/-- Does a matcher hold? Do all? -/
def holds1 (l : List Pr) (m : Mt) : Bool := ((Lab.value l m.1).toList == m.2.1.toList) != m.2.2
def mat (ms : List Mt) (l : List Pr) : Bool := ms.all (holds1 l)
theorem mat_next {ms : List Mt} {l : List Pr} {k : Nat} (hk : k < ms.length) (h : mat (ms.take k) l = true) (h1 : holds1 l ms[k] = true) : mat (ms.take (k + 1)) l = true := by
  unfold mat at h ⊢
  rw [List.take_succ_eq_append_getElem hk, List.all_append, h]
  simp [h1]
theorem mat_bad {ms : List Mt} {l : List Pr} {k : Nat} (hk : k < ms.length) (h1 : holds1 l ms[k] = false) : false = mat ms l := by
  symm
  unfold mat
  rw [List.all_eq_false]
  exact ⟨_, List.getElem_mem hk, by rw [h1]; simp⟩
theorem mat_end {ms : List Mt} {l : List Pr} {k : Nat} (hk : ¬ k < ms.length) (h : mat (ms.take k) l = true) : true = mat ms l := by rwa [List.take_of_length_le (by omega), eq_comm] at h

set_option maxRecDepth 100000 in
set_option maxHeartbeats 1600000 in
theorem match_any (ma : Option Addr) (mcap : Nat) (ms : List Mt) (a : Option Addr) (cap : Nat) (l : List Pr) (w : World) (hm : MatsAt w ma ms) (hp : PairsAt w a l) (hml : ms.length ≤ 9223372036854775807) (hl : l.length ≤ 9223372036854775807) :
    Calls Try.prog 45 #[.slice ma ms.length mcap, .slice a l.length cap] w fun e w' => e = .returned (.bool (mat ms l)) ∧ Below w.heap.size w w' := by
  have HM := hide hm
  have HV := hide (fun wx n (hb : Below w.heap.size w wx) => value_any a cap l n wx (hp.below hb) hl)
  clear hm hp
  go_enter Try.func45, Try.ntmps45
  go_wp2
  go_loopw [10] (fun i wr => ∃ k : Nat, k ≤ ms.length ∧ i = .int .i64 (k : Int) ∧ mat (ms.take k) l = true ∧ Below w.heap.size w wr)
    (fun i _ => ms.length - (intOf i).toNat)
  case atStart => exact ⟨0, Nat.zero_le _, rfl, rfl, Below.refl _ _⟩
  case round =>
    obtain ⟨k, hk, rfl, hno, hnx⟩ := hrel
    have HN := hide hno
    clear hno
    have hsz := hnx.size
    by_cases hlt : k < ms.length
    · obtain ⟨b, off, zn, zv, q, rfl, hbl, hz, hc1, hc2, hc3⟩ := (unhide HM).get hnx hlt
      have HZ := hide hz
      clear hz
      have hal := hnx.alloc hsz (Obj.cells #[.string zn, .string zv, .bool q] 43)
      obtain ⟨s, hs⟩ : ∃ s, ((Lab.value l zn).toList == zv.toList) = s := ⟨_, rfl⟩
      have HH : Hid (holds1 l ms[k] = (s != q)) := by rw [HZ.out]; unfold holds1; rw [hs]; exact rfl
      go_wp2_with fail
      obtain ⟨wa, hwa⟩ : ∃ wa, wa = wr.alloc (Obj.cells #[.string zn, .string zv, .bool q] 43) := ⟨_, rfl⟩
      have e1 : wa.cell? ⟨wr.heap.size, 0, none⟩ = some (.string zn) := by rw [hwa]; simp
      have e2 : wa.cell? ⟨wr.heap.size, 1, none⟩ = some (.string zv) := by rw [hwa]; simp
      have e3 : wa.cell? ⟨wr.heap.size, 2, none⟩ = some (.bool q) := by rw [hwa]; simp
      rw [← hwa] at hal ⊢
      clear hwa
      have inh : Nonempty (Ext wa) := Ext.some wa
      have x1 : ∀ x : Ext wa, x.w.cell? _ = _ := fun x => x.cell e1
      have x2 : ∀ x : Ext wa, x.w.cell? _ = _ := fun x => x.cell e2
      refine wp_region_calm (by kernel_rfl) (by kernel_rfl) ?_
      repeat (go_big_quiet_step ((go_at_call 70; exact calm_of (HV.out _ _ (bl hal (Ext.below _))))))
      refine wpQuiet_nil ?_
      intro _ hw'
      obtain ⟨xq, rfl⟩ := hw'
      have hbx : Below w.heap.size w xq.w := bl hal xq.below
      have e4 := xq.cell e3
      clear x1 x2 e1 e2 e3 inh
      generalize xq.w = wc at *
      cases s <;> cases q
      · go_wp2
        go_ret
        exact ⟨ret_b (mat_bad hlt HH.out), hbx⟩
      · go_wp2
        go_roundw
        case rel => exact ⟨k + 1, by omega, by go_num, mat_next hlt HN.out HH.out, hbx⟩
        case measure => simp [intOf]; omega
      · go_wp2
        go_roundw
        case rel => exact ⟨k + 1, by omega, by go_num, mat_next hlt HN.out HH.out, hbx⟩
        case measure => simp [intOf]; omega
      · go_wp2
        go_ret
        exact ⟨ret_b (mat_bad hlt HH.out), hbx⟩
    · go_wp2
      go_ret
      exact ⟨ret_b (mat_end hlt HN.out), hnx⟩

end Go.Proofs.Ytbjcphefaciihaa
