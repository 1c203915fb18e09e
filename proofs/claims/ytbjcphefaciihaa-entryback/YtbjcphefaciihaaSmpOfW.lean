/-
  The statements' own 'samplesOf' (right samples, of numbers) and 'shown' (what the chapter shows).
-/
import Derived.Test.YtbjcphefaciihaaSmpPutW
import Derived.Test.YtbjcphefaciihaaPickW
import Derived.Test.YtbjcphefaciihaaKinds
namespace Go.Proofs.Ytbjcphefaciihaa
open Go.RowKit
open Smp (Sm)

def nxtAt (now z : Int) : Int := now + 1 + (pk z 100 : Int)
def mk : Int → List Int → List Sm
  | _, [] => []
  | now, z :: r => (nxtAt now z, z) :: mk (nxtAt now z) r
def nw (now : Int) (zs : List Int) : Int := zs.foldl nxtAt now
def smps (t : Int) (zs : List Int) : List Sm := (t % 1099511627776, t % 1099511627776 - 5) :: mk (t % 1099511627776) (zs.take 19)

theorem mk_app : ∀ (a b : List Int) (now : Int), mk now (a ++ b) = mk now a ++ mk (nw now a) b
  | [], _, _ => rfl
  | z :: r, b, now => by simp only [List.cons_append, mk, nw, List.foldl_cons]; rw [mk_app r b (nxtAt now z)]; rfl
theorem mk_len : ∀ (zs : List Int) (now : Int), (mk now zs).length = zs.length
  | [], _ => rfl
  | z :: r, now => by simp [mk, mk_len r]
theorem mk_next {zs : List Int} {k : Nat} (now : Int) (hk : k < zs.length) : mk now (zs.take (k + 1)) = mk now (zs.take k) ++ [(nxtAt (nw now (zs.take k)) zs[k], zs[k])] := by
  rw [List.take_succ_eq_append_getElem hk, mk_app]; rfl
theorem nw_next {zs : List Int} {k : Nat} (now : Int) (hk : k < zs.length) : nw now (zs.take (k + 1)) = nxtAt (nw now (zs.take k)) zs[k] := by
  rw [List.take_succ_eq_append_getElem hk, nw, List.foldl_append]; rfl
theorem nxtAt_bd (now z : Int) : now + 1 ≤ nxtAt now z ∧ nxtAt now z ≤ now + 100 := by
  unfold nxtAt
  have := pk_lt z (n := 100) (by omega)
  omega
theorem nw_bd : ∀ (zs : List Int) (now : Int), now ≤ nw now zs ∧ nw now zs ≤ now + zs.length * 100
  | [], now => ⟨Int.le_refl _, by simp [nw]⟩
  | z :: r, now => by
    have h := nw_bd r (nxtAt now z)
    have h2 := nxtAt_bd now z
    have e : nw now (z :: r) = nw (nxtAt now z) r := rfl
    rw [e]
    simp only [List.length_cons]
    omega
theorem mk_rise : ∀ (zs : List Int) (now v : Int), Smp.riseB ((now, v) :: mk now zs) = true
  | [], _, _ => rfl
  | z :: r, now, v => by
    have := nxtAt_bd now z
    simp only [mk, Smp.riseB, Bool.and_eq_true, decide_eq_true_eq]
    exact ⟨by omega, mk_rise r _ _⟩
theorem mk_ok : ∀ (zs : List Int) (now : Int), 0 ≤ now → now + zs.length * 100 < 18446744073709551616 → (∀ z ∈ zs, -9223372036854775808 ≤ z ∧ z ≤ 9223372036854775807) → ∀ x ∈ mk now zs, Smp.Ok x
  | [], _, _, _, _, x, h => by simp [mk] at h
  | z :: r, now, h0, h1, hz, x, hx => by
    have h2 := nxtAt_bd now z
    simp only [List.length_cons] at h1
    simp only [mk, List.mem_cons] at hx
    rcases hx with rfl | hx
    · have := hz z (List.mem_cons_self ..)
      exact ⟨by show 0 ≤ nxtAt now z; omega, by show nxtAt now z < _; omega, this.1, this.2⟩
    · exact mk_ok r (nxtAt now z) (by omega) (by omega) (fun y hy => hz y (List.mem_cons_of_mem _ hy)) x hx
theorem mod_bd (t : Int) : 0 ≤ t % 1099511627776 ∧ t % 1099511627776 < 1099511627776 := by omega
theorem smps_len (t : Int) (zs : List Int) : 1 ≤ (smps t zs).length ∧ (smps t zs).length ≤ 20 := by
  unfold smps
  simp only [List.length_cons, mk_len, List.length_take]; omega
theorem smps_rise (t : Int) (zs : List Int) : Smp.riseB (smps t zs) = true := mk_rise _ _ _
theorem smps_check (t : Int) (zs : List Int) : Smp.check (smps t zs) = 0 := Smp.check_ok (by have := smps_len t zs; omega) (smps_rise t zs)
theorem smps_ok (t : Int) {zs : List Int} (hz : ∀ z ∈ zs, -9223372036854775808 ≤ z ∧ z ≤ 9223372036854775807) : ∀ x ∈ smps t zs, Smp.Ok x := by
  have := mod_bd t
  intro x hx
  unfold smps at hx
  rcases List.mem_cons.1 hx with rfl | hx
  · exact ⟨this.1, by show t % 1099511627776 < _; omega, by show _ ≤ t % 1099511627776 - 5; omega, by show t % 1099511627776 - 5 ≤ _; omega⟩
  · exact mk_ok _ _ this.1 (by have : (zs.take 19).length ≤ 19 := by simp; omega
                               omega) (fun z h => hz z (List.mem_of_mem_take h)) x hx

theorem isRow_nums {kd : IntKind} {w : World} {a : Option Addr} {len cap : Nat} {z : List Int} (h : IsRow kd w a len cap z) :
    ∃ zs : List Int, len = zs.length ∧ zs.length ≤ maxLen ∧ NumsAt kd w a zs ∧ ∀ x ∈ zs, (Lit.int kd x).wf = true := by
  obtain ⟨hl, hm, hv, hb⟩ := view_row h
  refine ⟨z.take len, by simp; omega, by simp; omega, fun i hi => ?_, fun x hx => hb x (List.mem_of_mem_take hx)⟩
  obtain ⟨b, off, ha, hbl, hc⟩ := hv i (by simp at hi; omega)
  refine ⟨b, off, ha, hbl, fun j hj => ?_⟩
  have hj' : j < len ∧ j < z.length := by simp at hj; omega
  have := hc j hj'.1
  simpa [List.getD, hj'.2] using this

set_option maxRecDepth 100000 in
set_option maxHeartbeats 1600000 in
theorem samplesOf_any (t : Int) (a : Option Addr) (cap : Nat) (zs : List Int) (w : World) (ht : 0 ≤ t ∧ t < 18446744073709551616) (hp : NumsAt .i64 w a zs) (hl : zs.length ≤ maxLen) (hz : ∀ z ∈ zs, -9223372036854775808 ≤ z ∧ z ≤ 9223372036854775807) :
    Calls Try.prog 49 #[.int .u64 t, .slice a zs.length cap] w fun e w' => ∃ v, e = .returned v ∧ OwnS w' w.heap.size v (smps t zs) ∧ Below w.heap.size w w' := by
  obtain ⟨i0, hi, hz0, hz1, hz2⟩ := info_parts info_smp
  have HP := hide hp
  have HZ := hide hz
  have hl' : zs.length ≤ 9223372036854775807 := hl
  clear hp hz
  obtain ⟨n0, hn0⟩ : ∃ n0, t % 1099511627776 = n0 := ⟨_, rfl⟩
  have hb0 : 0 ≤ n0 ∧ n0 < 1099511627776 := by rw [← hn0]; exact mod_bd t
  have htm : t.tmod 1099511627776 = n0 := by rw [← hn0]; exact Int.tmod_eq_emod_of_nonneg ht.1
  have HS : Hid (smps t zs = (n0, n0 - 5) :: mk n0 (zs.take 19)) := by unfold smps; rw [hn0]; exact rfl
  have hown0 := OwnS.one (w := w) (B := w.heap.size) n0 (n0 - 5) (Nat.le_refl _)
  have hb1 := (Below.refl w.heap.size w).alloc (Nat.le_refl _) (Obj.cells #[.int .u64 n0, .int .i64 (n0 - 5)] 67)
  clear hn0
  go_enter Try.func49, Try.ntmps49
  go_wp2
  go_loopw [7, 5, 6] (fun i nowSlot v wr => ∃ (k : Nat) (now : Int) (o : List Sm), k ≤ zs.length ∧ k ≤ 19 ∧ i = .int .i64 (k : Int) ∧ nowSlot = .int .u64 now ∧ Hid (now = nw n0 (zs.take k)) ∧ Hid (o = mk n0 (zs.take k)) ∧ OwnS wr w.heap.size v ((n0, n0 - 5) :: o) ∧ Below w.heap.size w wr)
    (fun i _ _ _ => 19 - (intOf i).toNat)
  case atStart => exact ⟨0, n0, [], Nat.zero_le _, Nat.zero_le _, rfl, rfl, rfl, rfl, hown0, hb1⟩
  case round =>
    obtain ⟨k, now, o, hk, hk19, rfl, rfl, HNW, HO, hown, hnx⟩ := hrel
    clear hown0 hb1
    have hsz := hnx.size
    by_cases hlt : k < zs.length
    · by_cases hlt2 : k < 19
      · obtain ⟨b, off, z, rfl, hbl, hz, hc⟩ := HP.out.get hnx hlt
        obtain ⟨z1, z2⟩ := HZ.out zs[k] (List.getElem_mem hlt)
        rw [hz] at z1 z2
        have hki : (k : Int) < (zs.length : Int) := by omega
        have hnb := nw_bd (zs.take k) n0
        rw [← HNW.out, List.length_take, Nat.min_eq_left (by omega)] at hnb
        obtain ⟨pz, hpz⟩ : ∃ pz, pk z 100 = pz := ⟨_, rfl⟩
        have hpl : pz < 100 := by rw [← hpz]; exact pk_lt z (by omega)
        have HC := hide (fun wx => pick_any z 100 wx z1 z2 (by omega) (by omega))
        rw [hpz] at HC
        have HN1 : Hid (now + 1 + (pz : Int) = nw n0 (zs.take (k + 1))) := by rw [nw_next n0 hlt, ← HNW.out, hz, nxtAt, hpz]; exact rfl
        have HN2 : Hid (o ++ [(now + 1 + (pz : Int), z)] = mk n0 (zs.take (k + 1))) := by rw [mk_next n0 hlt, ← HNW.out, ← HO.out, hz, nxtAt, hpz]; exact rfl
        have HOL : Hid (((n0, n0 - 5) :: o).length = k + 1) := by rw [List.length_cons, HO.out, mk_len, List.length_take, Nat.min_eq_left (by omega)]; exact rfl
        clear hz hpz
        go_wp2_with fail
        refine (HC.out _).mono ?_
        rintro e w1 ⟨rfl, hw1⟩
        rw [hw1]
        clear hw1
        have hown3 := hown
        unfold OwnS at hown3
        rw [HOL.out] at hown3
        clear hown
        go_wp2_with (at_builtin; refine wpList_append_own _ rfl _ _ 23 rfl w.heap.size 67 i0 _ 2 16 Try.underlying23 hi hz0 hz1 hz2 rfl (by decide) _ _ _ rfl (hown3.alloc _) ⟨wr.heap.size, 0, none⟩ 1 1 [.int .u64 (now + 1 + (pz : Int)), .int .i64 z] rfl rfl ?c1 ?c2 ?c3 ?c4 ?c5 ?_)
        case c1 => exact scells_two_new _ _ _ _
        case c2 => intro x hx; simp at hx; rcases hx with rfl | rfl <;> rfl
        case c3 => unfold maxLen; omega
        case c4 => omega
        case c5 => simp; omega
        intro v' w7 hown' hgrow _
        have R := owns_step HOL.out.symm hsz (hown3.alloc _) hnx hown' hgrow
        clear hown3 hown' hgrow
        go_wp2
        go_roundw
        case rel => exact ⟨k + 1, _, _, by omega, by omega, by go_num, rfl, HN1, HN2, by simpa using R.1, R.2⟩
        case measure => simp [intOf]; omega
      · obtain rfl : k = 19 := by omega
        rw [HO.out, ← HS.out] at hown
        have hki : (19 : Int) < (zs.length : Int) := by omega
        go_wp2
        go_ret
        exact ⟨_, rfl, hown, hnx⟩
    · have e : zs.take k = zs.take 19 := by rw [List.take_of_length_le (by omega), List.take_of_length_le (by omega)]
      rw [HO.out, e, ← HS.out] at hown
      clear e
      go_wp2
      go_ret
      exact ⟨_, rfl, hown, hnx⟩


end Go.Proofs.Ytbjcphefaciihaa
