/-
  The statements' own 'labelsOf': right labels, of numbers.
-/
import Derived.Test.YtbjcphefaciihaaLabOwnW
import Derived.Test.YtbjcphefaciihaaPickW
import Derived.Test.YtbjcphefaciihaaKinds
import Derived.Laws.Closers25
namespace Go.Proofs.Ytbjcphefaciihaa
open Go.RowKit
open Lab (Pr)

def nm8 (i : Nat) : ByteArray := [(⟨#[97]⟩ : ByteArray), ⟨#[98]⟩, ⟨#[106, 111, 98]⟩, ⟨#[122, 111, 110, 101]⟩, ⟨#[95, 120]⟩, ⟨#[99, 49]⟩, ⟨#[104, 111, 115, 116]⟩, ⟨#[110]⟩].getD i ⟨#[]⟩
def vw : ByteArray := ⟨#[118, 119, 120, 121, 122]⟩
def labN (z : Int) : ByteArray := nm8 (pk z 8)
def labV (z : Int) : ByteArray := vw.extract (pk (z.tdiv 8) 5) 5
def labStep (out : List Pr) (z : Int) : List Pr := if Lab.has out (labN z) = true then out else out ++ [(labN z, labV z)]
def labs (zs : List Int) : List Pr := (zs.take 8).foldl labStep []

theorem nm8_name : ∀ i, i < 8 → Lab.isName (nm8 i) = true := by
  intro i hi
  match i, hi with
  | 0, _ => decide +kernel
  | 1, _ => decide +kernel
  | 2, _ => decide +kernel
  | 3, _ => decide +kernel
  | 4, _ => decide +kernel
  | 5, _ => decide +kernel
  | 6, _ => decide +kernel
  | 7, _ => decide +kernel
theorem labN_name (z : Int) : Lab.isName (labN z) = true := nm8_name _ (pk_lt z (by omega))
theorem labV_size (z : Int) : (labV z).size ≤ 5 := by
  unfold labV
  rw [ByteArray.size_extract, show vw.size = 5 from rfl]; omega
/-- Right, as far as it has come. -/
def LabOk (out : List Pr) : Prop := (∀ p ∈ out, Lab.isName p.1 = true ∧ p.2.size ≤ 5) ∧ out.Pairwise (fun a b => a.1 ≠ b.1)
theorem labStep_ok {out : List Pr} (h : LabOk out) (z : Int) : LabOk (labStep out z) := by
  unfold labStep
  split
  · exact h
  · rename_i q
    have q' : Lab.has out (labN z) = false := by simpa using q
    refine ⟨fun p hp => ?_, List.pairwise_append.2 ⟨h.2, List.pairwise_singleton _ _, fun a ha b hb => ?_⟩⟩
    · rcases List.mem_append.1 hp with hp | hp
      · exact h.1 p hp
      · rw [List.mem_singleton.1 hp]; exact ⟨labN_name z, labV_size z⟩
    · rw [List.mem_singleton.1 hb]; exact Lab.has_no.1 q' a ha
theorem labStep_len (out : List Pr) (z : Int) : (labStep out z).length ≤ out.length + 1 := by unfold labStep; split <;> simp
theorem fold_ok : ∀ (zs : List Int) (out : List Pr), LabOk out → LabOk (zs.foldl labStep out) ∧ (zs.foldl labStep out).length ≤ out.length + zs.length
  | [], _, h => ⟨h, by simp⟩
  | z :: r, out, h => by
    have := fold_ok r (labStep out z) (labStep_ok h z)
    have h2 := labStep_len out z
    simp only [List.foldl_cons, List.length_cons]
    exact ⟨this.1, by omega⟩
theorem labs_ok (zs : List Int) : LabOk (labs zs) := (fold_ok _ _ ⟨fun p h => by simp at h, List.Pairwise.nil⟩).1
theorem labs_len (zs : List Int) : (labs zs).length ≤ 8 := by
  have := (fold_ok (zs.take 8) [] ⟨fun p h => by simp at h, List.Pairwise.nil⟩).2
  simp at this
  unfold labs; omega
theorem labs_right (zs : List Int) : Lab.Right (labs zs) := ⟨labs_len zs, fun p hp => ⟨((labs_ok zs).1 p hp).1, by have := ((labs_ok zs).1 p hp).2; omega⟩, (labs_ok zs).2⟩
theorem fold_names : ∀ (zs : List Int) (out : List Pr), (∀ p ∈ out, ∃ i, i < 8 ∧ p.1 = nm8 i) → ∀ p ∈ zs.foldl labStep out, ∃ i, i < 8 ∧ p.1 = nm8 i
  | [], _, h => h
  | z :: r, out, h => by
    refine fold_names r (labStep out z) (fun p hp => ?_)
    unfold labStep at hp
    split at hp
    · exact h p hp
    · rcases List.mem_append.1 hp with hp | hp
      · exact h p hp
      · rw [List.mem_singleton.1 hp]; exact ⟨pk z 8, pk_lt z (by omega), rfl⟩
theorem labs_names (zs : List Int) : ∀ p ∈ labs zs, ∃ i, i < 8 ∧ p.1 = nm8 i := fold_names _ _ (fun p h => by simp at h)
theorem fold_next {zs : List Int} {k : Nat} (hk : k < zs.length) : (zs.take (k + 1)).foldl labStep [] = labStep ((zs.take k).foldl labStep []) zs[k] := by
  rw [List.take_succ_eq_append_getElem hk, List.foldl_append]; rfl

theorem tdiv_bd {z : Int} (h0 : -9223372036854775808 ≤ z) (h1 : z ≤ 9223372036854775807) : -9223372036854775808 ≤ z.tdiv 8 ∧ z.tdiv 8 ≤ 9223372036854775807 := by
  obtain ⟨t1, t2⟩ := tdiv_between z 8 (by omega)
  by_cases h : 0 ≤ z
  · have := t1 h; omega
  · have := t2 (by omega); omega
theorem own_mono {w : World} {B B' : Nat} {v : Value} {ps : List Pr} (h : OwnP w B v ps) (hB : B' ≤ B) : OwnP w B' v ps := by
  refine ⟨h.1, ?_⟩
  rcases h.2 with h0 | ⟨g, cap, cur, hv, hg, hr⟩
  · exact .inl h0
  · exact .inr ⟨g, cap, cur, hv, Nat.le_trans hB hg, hr⟩
/-- Numbers that lie in memory. -/
def IntsAt (w : World) (a : Option Addr) (zs : List Int) : Prop :=
  ∀ i, i < zs.length → ∃ b off, a = some ⟨b, off, none⟩ ∧ b < w.heap.size ∧ ∀ j (h : j < zs.length), w.cell? ⟨b, off + j, none⟩ = some (.int .i64 zs[j])
theorem IntsAt.below {w w' : World} {a : Option Addr} {zs : List Int} (h : IntsAt w a zs) (hb : Below w.heap.size w w') : IntsAt w' a zs := by
  intro i hi
  obtain ⟨b, off, ha, hbl, hc⟩ := h i hi
  have hsz := hb.size
  exact ⟨b, off, ha, by omega, fun j hj => (hb.cell (by exact hbl)).trans (hc j hj)⟩
theorem IntsAt.get {w wr : World} {a : Option Addr} {zs : List Int} (h : IntsAt w a zs) (hnx : Below w.heap.size w wr) {k : Nat} (hk : k < zs.length) :
    ∃ b off z, a = some ⟨b, off, none⟩ ∧ b < w.heap.size ∧ zs[k] = z ∧ wr.cell? ⟨b, off + k, none⟩ = some (.int .i64 z) := by
  obtain ⟨b, off, ha, hbl, hc⟩ := h k hk
  exact ⟨b, off, _, ha, hbl, rfl, (hnx.cell (by exact hbl)).trans (hc k hk)⟩

theorem isRow_ints {w : World} {a : Option Addr} {len cap : Nat} {z : List Int} (h : IsRow .i64 w a len cap z) :
    ∃ zs : List Int, len = zs.length ∧ zs.length ≤ maxLen ∧ IntsAt w a zs ∧ ∀ z ∈ zs, -9223372036854775808 ≤ z ∧ z ≤ 9223372036854775807 := by
  obtain ⟨hl, hm, hv, hb⟩ := view_row h
  refine ⟨z.take len, by simp; omega, by simp; omega, fun i hi => ?_, fun x hx => ?_⟩
  · obtain ⟨b, off, ha, hbl, hc⟩ := hv i (by simp at hi; omega)
    refine ⟨b, off, ha, hbl, fun j hj => ?_⟩
    have hj' : j < len ∧ j < z.length := by simp at hj; omega
    have := hc j hj'.1
    simpa [List.getD, hj'.2] using this
  · exact bounds_i64 (hb x (List.mem_of_mem_take hx))

def nmCells : Array Value := #[.string ⟨#[97]⟩, .string ⟨#[98]⟩, .string ⟨#[106, 111, 98]⟩, .string ⟨#[122, 111, 110, 101]⟩, .string ⟨#[95, 120]⟩, .string ⟨#[99, 49]⟩, .string ⟨#[104, 111, 115, 116]⟩, .string ⟨#[110]⟩]
theorem nm_cell {w wr : World} {t : TypeId} (hb : Below (w.alloc (.cells nmCells t)).heap.size (w.alloc (.cells nmCells t)) wr) {i : Nat} (hi : i < 8) : wr.cell? ⟨w.heap.size, i, none⟩ = some (.string (nm8 i)) := by
  rw [hb.cell (p := ⟨w.heap.size, i, none⟩) (by simp), World.cell?_alloc_at _ _ _ _ rfl]
  match i, hi with
  | 0, _ => rfl
  | 1, _ => rfl
  | 2, _ => rfl
  | 3, _ => rfl
  | 4, _ => rfl
  | 5, _ => rfl
  | 6, _ => rfl
  | 7, _ => rfl

set_option maxRecDepth 100000 in
set_option maxHeartbeats 1600000 in
theorem labelsOf_any (a : Option Addr) (cap : Nat) (zs : List Int) (w : World) (hp : IntsAt w a zs) (hz : ∀ z ∈ zs, -9223372036854775808 ≤ z ∧ z ≤ 9223372036854775807) :
    Calls Try.prog 48 #[.slice a zs.length cap] w fun e w' => ∃ v, e = .returned v ∧ OwnP w' w.heap.size v (labs zs) ∧ Below w.heap.size w w' := by
  obtain ⟨i0, hi, hz0, hz1, hz2⟩ := info_parts info_pair
  have HP := hide hp
  have HZ := hide hz
  clear hp hz
  go_enter Try.func48, Try.ntmps48
  go_wp2
  have HN := hide (fun (wr : World) hb (i : Nat) (hi : i < 8) => nm_cell (w := w) (wr := wr) (t := 9) hb hi)
  unfold nmCells at HN
  generalize hwA : w.alloc (Obj.cells _ 9) = wA at *
  have hA : Below w.heap.size w wA := by rw [← hwA]; exact (Below.refl _ _).alloc (Nat.le_refl _) _
  have hAs : w.heap.size ≤ wA.heap.size := hA.size
  have HP2 := hide (HP.out.below hA)
  clear hwA HP
  go_loopw [4, 5] (fun v i wr => ∃ k : Nat, k ≤ zs.length ∧ k ≤ 8 ∧ i = .int .i64 (k : Int) ∧ OwnP wr wA.heap.size v ((zs.take k).foldl labStep []) ∧ Below wA.heap.size wA wr)
    (fun _ i _ => 8 - (intOf i).toNat)
  case atStart => exact ⟨0, Nat.zero_le _, Nat.zero_le _, rfl, OwnP.nil _ _, Below.refl _ _⟩
  case round =>
    obtain ⟨k, hk, hk8, rfl, hown, hnx⟩ := hrel
    by_cases hlt : k < zs.length
    · by_cases hlt8 : k < 8
      · obtain ⟨b, off, z, rfl, hbl, hz, hc⟩ := HP2.out.get hnx hlt
        obtain ⟨hza, hzb⟩ := HZ.out zs[k] (List.getElem_mem hlt)
        rw [hz] at hza hzb
        obtain ⟨out, hout⟩ : ∃ out, out = (zs.take k).foldl labStep [] := ⟨_, rfl⟩
        rw [← hout] at hown
        have hol : out.length ≤ k := by
          have := (fold_ok (zs.take k) [] ⟨fun p h => by simp at h, List.Pairwise.nil⟩).2
          rw [← hout] at this; simp at this; omega
        obtain ⟨oa, ocap, rfl, hocap, hop, _⟩ := hown.view
        have hpk := pk_lt z (show 0 < 8 by omega)
        have hnm := HN.out wr hnx (pk z 8) hpk
        have HO := hide hout
        have HZ2 := hide hz
        have HW := hide hown
        have HOP := hide hop
        have hpki : ((pk z 8 : Nat) : Int) < 8 := by omega
        clear hout hz hown hop
        go_wp2_with fail
        refine (pick_any z 8 _ hza hzb (by omega) (by omega)).mono ?_
        rintro e w1 ⟨rfl, rfl⟩
        go_wp2
        generalize hnn : nm8 (pk z 8) = n at *
        have HNN := hide hnn
        clear hnn
        go_loopw [7, 8] (fun t i wi => ∃ j : Nat, j ≤ out.length ∧ i = .int .i64 (j : Int) ∧ t = .bool (Lab.has (out.take j) n) ∧ wi = w1)
          (fun _ i _ => out.length - (intOf i).toNat)
        case atStart => exact ⟨0, Nat.zero_le _, rfl, by simp [Lab.has], rfl⟩
        case round =>
          obtain ⟨j, hj, rfl, rfl, rfl⟩ := hrel
          by_cases hjl : j < out.length
          · obtain ⟨ob, ooff, yn, yv, rfl, hobl, hy, hoc1, hoc2⟩ := HOP.out.get (Below.refl _ _) hjl
            have HY := hide hy
            clear hy
            have HX : Hid (Lab.has (out.take (j + 1)) n = (Lab.has (out.take j) n || (yn.toList == n.toList))) := by
              refine hide ?_
              rw [List.take_succ_eq_append_getElem hjl, Lab.has_app, HY.out, Lab.eqB]
              simp [Lab.has]
            cases hh : Lab.has (out.take j) n with
            | true =>
              rw [hh] at HX
              go_wp2
              go_roundw
              case rel => exact ⟨j + 1, by omega, by go_num, by rw [HX.out]; rfl, trivial⟩
              case measure => simp [intOf]; omega
            | false =>
              rw [hh] at HX
              go_wp2
              go_roundw
              case rel => exact ⟨j + 1, by omega, by go_num, by rw [HX.out]; rfl, trivial⟩
              case measure => simp [intOf]; omega
          · have hful : out.take j = out := List.take_of_length_le (by omega)
            cases hh : Lab.has (out.take j) n with
            | true =>
              have hh' : Lab.has out n = true := by rw [← hful]; exact hh
              have HF : Hid ((zs.take (k + 1)).foldl labStep [] = out) := by
                refine hide ?_
                rw [fold_next hlt, HZ2.out, ← HO.out]; unfold labStep labN; rw [HNN.out, if_pos hh']
              clear hful hh'
              go_wp2
              go_roundw
              case rel => exact ⟨k + 1, by omega, by omega, by go_num, by rw [HF.out]; exact HW.out, hnx⟩
              case measure => simp [intOf]; omega
            | false =>
              have hh' : Lab.has out n = false := by rw [← hful]; exact hh
              have HF : Hid ((zs.take (k + 1)).foldl labStep [] = out ++ [(n, labV z)]) := by
                refine hide ?_
                rw [fold_next hlt, HZ2.out, ← HO.out]; unfold labStep labN; rw [HNN.out, if_neg (by rw [hh']; simp)]
              clear hful hh'
              obtain ⟨hq0, hq1⟩ := tdiv_bd hza hzb
              have hp5 := pk_lt (z.tdiv 8) (show 0 < 5 by omega)
              have hp5i : ((pk (z.tdiv 8) 5 : Nat) : Int) ≤ 5 := by omega
              have l5 : (labV z).size ≤ 5 := labV_size z
              have HL : Hid (vw.extract (pk (z.tdiv 8) 5) 5 = labV z) := rfl
              have hown := HW.out
              have hsz := hnx.size
              unfold OwnP at hown
              go_wp2_with fail
              refine (pick_any (z.tdiv 8) 5 _ hq0 hq1 (by omega) (by omega)).mono ?_
              rintro e w2 ⟨rfl, rfl⟩
              go_wp2_with (at_builtin; refine wpList_append_own _ rfl _ _ 22 rfl wA.heap.size 53 i0 _ 2 32 Try.underlying22 hi hz0 hz1 hz2 rfl (by decide) _ _ _ rfl (hown.alloc _) ⟨w2.heap.size, 0, none⟩ 1 1 [.string n, .string (labV z)] rfl rfl ?c1 ?c2 ?c3 ?c4 ?c5 ?_)
              case c1 => exact cells_two_new _ _ _ _
              case c2 => intro u hu; simp at hu; rcases hu with rfl | rfl <;> rfl
              case c3 => unfold maxLen; omega
              case c4 => omega
              case c5 => simp; omega
              intro v' w3 hown' hgrow _
              have R := own_step hsz (hown.alloc _) hnx hown' hgrow
              clear hown hown' hgrow
              go_wp2
              go_roundw
              case rel => exact ⟨k + 1, by omega, by omega, by go_num, by rw [HF.out]; exact R.1, R.2⟩
              case measure => simp [intOf]; omega
      · have HE : Hid ((zs.take k).foldl labStep [] = labs zs) := by
          refine hide ?_
          unfold labs; rw [show k = 8 by omega]
        rw [HE.out] at hown
        go_wp2
        go_ret
        exact ⟨_, rfl, own_mono hown (by omega), bl hA hnx⟩
    · have HE : Hid ((zs.take k).foldl labStep [] = labs zs) := by
        refine hide ?_
        unfold labs; rw [List.take_of_length_le (by omega), List.take_of_length_le (by omega)]
      rw [HE.out] at hown
      go_wp2
      go_ret
      exact ⟨_, rfl, own_mono hown (by omega), bl hA hnx⟩

end Go.Proofs.Ytbjcphefaciihaa
