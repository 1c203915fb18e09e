/-
  The document's List: again and again the least name above the last one.
-/
import Derived.Test.YtleomppgkikhnaaGreatRefDisk
namespace Go.Proofs.YtleomppgkikhnaaGreat
open Go.RowKit
open Dsk (By Dk)

theorem strs_app {w : World} {base : Nat} {v : Value} {l : List ByteArray} (h : StrsOwn w base v l) (x : ByteArray) (hl : l.length ≤ 1000000000000) (hb : base ≤ w.heap.size) (ty : TypeId) :
    ∃ v' w', (Builtin.append_ #[44, 44] ty #[v, .slice (some ⟨w.heap.size, 0, none⟩) 1 1]).run Tryz.prog (w.alloc (.cells #[.string x] 9)) = .ok v' w' ∧
      StrsOwn w' base v' (l ++ [x]) ∧ Below base w w' := by
  obtain ⟨ti, hi, hz, hs, hby⟩ := str_info
  obtain ⟨v', w', hr, ho, hg, _⟩ := app_own (w.alloc (.cells #[.string x] 9)) base 44 ty 9 ti _ 1 16 ustrs hi hz hs hby rfl (by decide) v l.length (l.map Value.string) (World.ownsRow.alloc h _) ⟨w.heap.size, 0, none⟩ 1 1
    [.string x] rfl (one_new _ _ _) (fun u hu => by simp at hu; subst hu; rfl) (by unfold maxLen; omega) (by omega) (by simp; omega)
  refine ⟨v', w', hr, ?_, grown_below hb hg (fun g e => (World.ownsRow.lt h g e).1)⟩
  unfold StrsOwn
  rw [List.map_append, List.length_append]
  exact ho

/-- The name ahead of the m-th. -/
def lastL (c : List ByteArray) (m : Nat) : ByteArray := if h : 0 < m ∧ m ≤ c.length then c[m - 1]'(by omega) else ⟨#[]⟩
theorem lastL_zero (c : List ByteArray) : lastL c 0 = ⟨#[]⟩ := by simp [lastL]
theorem lastL_succ {c : List ByteArray} {m : Nat} (h : m < c.length) : lastL c (m + 1) = c[m] := by
  unfold lastL
  rw [dif_pos ⟨by omega, by omega⟩]
  rfl
theorem lastL_lt {c : List ByteArray} (hs : Dsk.Up c) (hn : ∀ p ∈ c, p.size ≠ 0) {m j : Nat} (hj : j < c.length) (hm : m ≤ c.length) : Lab.lt (lastL c m) c[j] = decide (m ≤ j) := by
  cases m with
  | zero => rw [lastL_zero, Lab.empty_lt (hn _ (List.getElem_mem hj))]; simp
  | succ m =>
    rw [lastL_succ (by omega)]
    have hp := List.pairwise_iff_getElem.1 hs
    by_cases h : m + 1 ≤ j
    · rw [decide_eq_true h]; exact hp m j (by omega) hj (by omega)
    · rw [decide_eq_false h]
      by_cases e : m = j
      · subst e; exact Lab.lt_irrefl _
      · exact Lab.lt_asymm (hp j m hj (by omega) (by omega))
theorem gtr_iff' (a b : ByteArray) : (!Op.bytesLess a.toList b.toList && !(a.toList == b.toList)) = Lab.lt b a := by
  rw [Lab.eqB]
  show (!Lab.lt a b && !decide (a = b)) = Lab.lt b a
  by_cases e : a = b
  · subst e; simp [Lab.lt_irrefl]
  · rw [decide_eq_false e]
    rcases Lab.lt_total e with h | h
    · rw [h, Lab.lt_asymm h]; rfl
    · rw [h, Lab.lt_asymm h]; rfl
/-- The best of some names: none yet, or x. -/
def BestN (l : List ByteArray) (la x : ByteArray) : Prop := (x = ⟨#[]⟩ ∧ ∀ p ∈ l, Lab.lt la p = false) ∨ (x.size ≠ 0 ∧ x ∈ l ∧ Lab.lt la x = true ∧ ∀ p ∈ l, Lab.lt la p = true → Lab.lt p x = false)
theorem bestN_start (la : ByteArray) : BestN [] la ⟨#[]⟩ := .inl ⟨rfl, fun p hp => by simp at hp⟩
theorem bestN_no {l : List ByteArray} {la x y : ByteArray} (h : BestN l la x) (hl : Lab.lt la y = false) : BestN (l ++ [y]) la x := by
  rcases h with ⟨rfl, h⟩ | ⟨h0, h1, h2, h3⟩
  · refine .inl ⟨rfl, fun p hp => ?_⟩
    rcases List.mem_append.1 hp with hp | hp
    · exact h p hp
    · simp at hp; subst hp; exact hl
  · refine .inr ⟨h0, List.mem_append_left _ h1, h2, fun p hp hpl => ?_⟩
    rcases List.mem_append.1 hp with hp | hp
    · exact h3 p hp hpl
    · simp at hp; subst hp; rw [hl] at hpl; cases hpl
theorem bestN_first {l : List ByteArray} {la y : ByteArray} (h : BestN l la ⟨#[]⟩) (hy : y.size ≠ 0) (hl : Lab.lt la y = true) : BestN (l ++ [y]) la y := by
  rcases h with ⟨_, h⟩ | ⟨h0, _⟩
  · refine .inr ⟨hy, by simp, hl, fun p hp hpl => ?_⟩
    rcases List.mem_append.1 hp with hp | hp
    · rw [h p hp] at hpl; cases hpl
    · simp at hp; subst hp; exact Lab.lt_irrefl _
  · exact absurd rfl h0
theorem bestN_less {l : List ByteArray} {la x y : ByteArray} (h : BestN l la x) (hx : x.size ≠ 0) (hy : y.size ≠ 0) (hl : Lab.lt la y = true) (hb : Lab.lt y x = true) : BestN (l ++ [y]) la y := by
  rcases h with ⟨rfl, _⟩ | ⟨_, _, _, h3⟩
  · exact absurd rfl hx
  · refine .inr ⟨hy, by simp, hl, fun p hp hpl => ?_⟩
    rcases List.mem_append.1 hp with hp | hp
    · exact Lab.not_lt_trans (Lab.lt_asymm hb) (h3 p hp hpl)
    · simp at hp; subst hp; exact Lab.lt_irrefl _
theorem bestN_keep {l : List ByteArray} {la x y : ByteArray} (h : BestN l la x) (hx : x.size ≠ 0) (hb : Lab.lt y x = false) : BestN (l ++ [y]) la x := by
  rcases h with ⟨rfl, _⟩ | ⟨_, h1, h2, h3⟩
  · exact absurd rfl hx
  · refine .inr ⟨hx, List.mem_append_left _ h1, h2, fun p hp hpl => ?_⟩
    rcases List.mem_append.1 hp with hp | hp
    · exact h3 p hp hpl
    · simp at hp; subst hp; exact hb
theorem bestN_end {l c : List ByteArray} (hper : c.Perm l) (hs : Dsk.Up c) (hn : ∀ p ∈ c, p.size ≠ 0) {m : Nat} {x : ByteArray} (hm : m < c.length) (h : BestN l (lastL c m) x) : x = c[m] := by
  rcases h with ⟨_, h⟩ | ⟨_, h1, h2, h3⟩
  · exfalso
    have h3 := h c[m] (hper.mem_iff.1 (List.getElem_mem hm))
    rw [lastL_lt hs hn hm (by omega), decide_eq_true (Nat.le_refl _)] at h3
    cases h3
  · obtain ⟨j, hj, rfl⟩ := List.mem_iff_getElem.1 (hper.mem_iff.2 h1)
    rw [lastL_lt hs hn hj (by omega)] at h2
    have hmj : m ≤ j := of_decide_eq_true h2
    have h4 := h3 c[m] (hper.mem_iff.1 (List.getElem_mem hm)) (by rw [lastL_lt hs hn hm (by omega)]; exact decide_eq_true (Nat.le_refl _))
    by_cases e : m = j
    · subst e; rfl
    · have := List.pairwise_iff_getElem.1 hs m j hm hj (by omega)
      rw [h4] at this; cases this
theorem size_zero {x : ByteArray} (h : x.size = 0) : x = ⟨#[]⟩ := by
  obtain ⟨⟨l⟩⟩ := x
  cases l with
  | nil => rfl
  | cons a r => simp [ByteArray.size] at h
def lenV : Value → Nat
  | .slice _ n _ => n
  | _ => 0
set_option maxRecDepth 100000 in
set_option maxHeartbeats 800000 in
theorem rlist_dk {S : Nat → Prop} {w : World} {p : Nat} {D : Dk} {c : Nat} (H : IsRef S w p D c) (hc : c ≤ 10000000) :
    Calls Tryz.prog 30 #[.pointer (some ⟨p, 0, none⟩)] w fun e w' => ∃ v, e = .returned v ∧ StrsOwn w' w.heap.size v (Dsk.list D) ∧ Below w.heap.size w w' := by
  obtain ⟨ok, bud, lim, fl, fv, dv, fs, ds, H⟩ := H
  have hdl := bud.dirs
  have hrl := bud.rows _ (Dsk.dir_mem ok.some)
  have hne : ∀ x ∈ Dsk.dir D, x.1.size ≠ 0 := fun x hx => by
    have := (ok.row.1 x hx).1
    unfold Dsk.isName at this
    have := (of_decide_eq_true this).2.1
    omega
  have hper : (Dsk.list D).Perm (Dsk.names (Dsk.dir D)) := Dsk.sortN_perm _
  have hup : Dsk.Up (Dsk.list D) := Dsk.sortN_up (Dsk.names_ne ok.row.2.1)
  have hnL : ∀ x ∈ Dsk.list D, x.size ≠ 0 := fun x hx => by
    obtain ⟨f, hf⟩ := Dsk.mem_list.1 hx
    exact hne _ hf
  have hlen : (Dsk.list D).length = (Dsk.dir D).length := by rw [hper.length_eq]; unfold Dsk.names; rw [List.length_map]
  obtain ⟨L, hL⟩ : ∃ L, Dsk.list D = L := ⟨_, rfl⟩
  obtain ⟨r, hr⟩ : ∃ r, Dsk.dir D = r := ⟨_, rfl⟩
  rw [hL] at hper hup hnL hlen ⊢
  rw [hr] at hrl hne hper hlen
  have HRE := hide hr
  have HH := hide H
  have HOK := hide ok
  have HNE := hide hne
  have HPE := hide hper
  have HUP := hide hup
  have HNL := hide hnL
  have HLE := hide hlen
  clear H bud hL hr hne hper hup hnL hlen
  go_enter Tryz.func30, Tryz.ntmps30
  go_wp2_with fail
  refine (rdir_at HH.out HOK.out (by omega)).mono ?_
  rintro e w1 ⟨v, rfl, hv, _, hb1⟩
  obtain ⟨a, cv, rfl⟩ := own_slice hv.1
  rw [HRE.out] at hv ⊢
  have HV := hide hv
  clear hv
  go_wp2
  go_loopw [3, 5] (fun v2 v4 wr => ∃ m : Nat, m ≤ r.length ∧ Hid (StrsOwn wr w.heap.size v2 (L.take m)) ∧ v4 = .string (lastL L m) ∧ Hid (Below w.heap.size w wr)) (fun v2 _ _ => r.length - lenV v2)
  case atStart => exact ⟨0, Nat.zero_le _, hide (World.ownsRow_nil _ _ _ _), by rw [lastL_zero], hide hb1⟩
  case round =>
    obtain ⟨m, hm, HO, rfl, HB⟩ := hrel
    obtain ⟨oa, oc, hoe⟩ := own_slice HO.out
    have hol : (L.take m).length = m := by rw [List.length_take, HLE.out]; omega
    rw [hol] at hoe
    subst hoe
    have HOL := hide hol
    clear hol
    by_cases hlt : m < r.length
    · have hmc : m < L.length := by have := HLE.out; omega
      obtain ⟨la, hla⟩ : ∃ la, lastL L m = la := ⟨_, rfl⟩
      rw [hla]
      have HLA := hide hla
      obtain ⟨wo, hwo⟩ : ∃ wo, wo = wr := ⟨_, rfl⟩
      subst hwo
      clear hla
      go_wp2
      go_loopw [6, 7] (fun v5 v6 wi => ∃ (j : Nat) (x : ByteArray), j ≤ r.length ∧ v6 = .int .i64 (j : Int) ∧ v5 = .string x ∧ Hid (BestN (Dsk.names (r.take j)) la x) ∧ Hid (Below wo.heap.size wo wi)) (fun _ v6 _ => r.length - (intOf v6).toNat)
      case atStart => exact ⟨0, ⟨#[]⟩, Nat.zero_le _, rfl, rfl, hide (bestN_start _), hide (Below.refl _ _)⟩
      case round =>
        obtain ⟨j, x, hj, rfl, rfl, HBS, HI⟩ := hrel
        by_cases hjl : j < r.length
        · obtain ⟨g, c', e, hg, hcell, _, _⟩ := own_view HV.out.1 (by omega)
          simp only [Value.slice.injEq] at e
          obtain ⟨rfl, _, rfl⟩ := e
          obtain ⟨n1, n2⟩ := nmdV_at hjl
          have v1 := (HI.out.cell (p := ⟨g, j * 2, none⟩) (by show g < _; have := HB.out.size; omega)).trans ((HB.out.cell (p := ⟨g, j * 2, none⟩) hg).trans (hcell _ _ n1))
          have hyne := HNE.out _ (List.getElem_mem hjl)
          have htk : Dsk.names (r.take (j + 1)) = Dsk.names (r.take j) ++ [r[j].1] := by unfold Dsk.names; rw [List.take_succ_eq_append_getElem hjl, List.map_append]; rfl
          obtain ⟨y, hy⟩ : ∃ y, r[j].1 = y := ⟨_, rfl⟩
          rw [hy] at v1 hyne htk
          have HTK := hide htk
          have hgt := gtr_iff' y la
          clear hcell n1 n2 hy htk
          cases hlow : Lab.lt la y with
          | false =>
            rw [hlow] at hgt
            have HB' := hide (bestN_no HBS.out hlow)
            go_wp2
            go_roundw
            case rel => exact ⟨j + 1, _, by omega, by go_num, rfl, by rw [HTK.out]; exact HB', HI⟩
            case measure => simp [intOf]; omega
          | true =>
            rw [hlow] at hgt
            by_cases hx0 : x.size = 0
            · obtain rfl := size_zero hx0
              have HB' := hide (bestN_first HBS.out hyne hlow)
              go_wp2
              go_roundw
              case rel => exact ⟨j + 1, _, by omega, by go_num, rfl, by rw [HTK.out]; exact HB', HI⟩
              case measure => simp [intOf]; omega
            · have hxe : ¬ x.toList = [] := fun e => hx0 (by
                have e2 : x = ⟨#[]⟩ := Lab.bytes_ext (e.trans (by simp [ByteArray.toList_eq]))
                rw [e2]; rfl)
              have hxf : x.toList.isEmpty = false := by cases hxl : x.toList with | nil => exact absurd hxl hxe | cons _ _ => rfl
              cases hless : Lab.lt y x with
              | true =>
                have HB' := hide (bestN_less HBS.out hx0 hyne hlow hless)
                have hbl3 : Op.bytesLess y.toList x.toList = true := hless
                go_wp2
                go_roundw
                case rel => exact ⟨j + 1, _, by omega, by go_num, rfl, by rw [HTK.out]; exact HB', HI⟩
                case measure => simp [intOf]; omega
              | false =>
                have HB' := hide (bestN_keep HBS.out hx0 hless)
                have hbl3 : Op.bytesLess y.toList x.toList = false := hless
                go_wp2
                go_roundw
                case rel => exact ⟨j + 1, _, by omega, by go_num, rfl, by rw [HTK.out]; exact HB', HI⟩
                case measure => simp [intOf]; omega
        · have hbe := HBS.out
          rw [List.take_of_length_le (by omega), ← HLA.out] at hbe
          have hxl := bestN_end HPE.out HUP.out HNL.out hmc hbe
          have htk : L.take (m + 1) = L.take m ++ [x] := by rw [List.take_succ_eq_append_getElem hmc, hxl]
          have hls : lastL L (m + 1) = x := by rw [lastL_succ hmc, hxl]
          have HTK := hide htk
          have HLS := hide hls
          have ho := HO.out.keep (w' := wr) (fun g _ hg => HI.out.block g hg)
          obtain ⟨lv', w3, hr3, ho3, hb3⟩ := strs_app ho x (by rw [HOL.out]; omega) (by have := HB.out.size; have := HI.out.size; omega) 44
          rw [← HTK.out] at ho3
          obtain ⟨oa3, oc3, hv3⟩ := own_slice ho3
          have hl3 : (L.take (m + 1)).length = m + 1 := by rw [List.length_take]; omega
          rw [hl3] at hv3
          subst hv3
          have HRR := hide hr3
          have HO3 := hide ho3
          have HB3 := hide ((bl HB.out HI.out).trans hb3)
          clear hbe hxl htk hls ho hr3 ho3 hb3 hl3
          go_wp2_with (at_builtin; refine wpList_app_run rfl _ _ _ _ rfl rfl rfl HRR.out ?_)
          go_roundw
          case rel => exact ⟨m + 1, by omega, HO3, by rw [HLS.out], HB3⟩
          case measure => simp [lenV]; omega
    · have hful : L.take m = L := List.take_of_length_le (by have := HLE.out; omega)
      have ho := HO.out
      rw [hful] at ho
      have HOF := hide ho
      clear hful ho
      go_wp2
      go_ret
      exact ⟨_, rfl, HOF.out, HB.out⟩

end Go.Proofs.YtleomppgkikhnaaGreat
