/-
  putNumbers, steps.
-/
import Derived.Test.YtjbdofjheeljkaaMkBldW
import Derived.Test.YtjbdofjheeljkaaPlain
import Derived.Test.YtjbdofjheeljkaaLdgW
namespace Go.Proofs.Ytjbdofjheeljkaa
open Go.RowKit

theorem bld_more {B b : Nat} {x y : List UInt8} {w : World} (h : Lib.IsBuilder 127 5 B b (Lib.byteCells x ++ Lib.strCells (Num.bs y)) w) : Lib.IsBuilder 127 5 B b (Lib.byteCells (x ++ y)) w := by
  rw [Lib.byteCells_append]; exact h
set_option maxRecDepth 100000 in
set_option maxHeartbeats 800000 in
theorem putNums_any {X : Nat → Prop} {w : World} {a : Option Addr} {n c : Nat} {l : List Nat} (h : U64In X w a l) (hn : n = l.length) (hs : ∀ x ∈ l, x < 18446744073709551616) (hl : l.length ≤ 1000000) :
    Calls Try.prog 65 #[.slice a n c] w fun e w' => e = .returned (.string (Num.bs (Mrk.nums l))) ∧ Below w.heap.size w w' := by
  have HU := hide h
  have HN := hide hn
  have HS := hide hs
  have hfr := Lib.fresh_isBuilder 127 5 w
  have HFR := hide hfr
  have hn6 : n ≤ 1000000 := by omega
  clear h hn hs hfr
  go_enter Try.func65, Try.ntmps65
  go_wp2
  go_loopw [8] (fun v8 wr => ∃ k : Nat, v8 = .int .i64 (k : Int) ∧ k ≤ n ∧ Hid (Lib.IsBuilder 127 5 w.heap.size w.heap.size (Lib.byteCells (Mrk.nums (l.take k))) wr) ∧ Hid (Below w.heap.size w wr)) (fun v8 _ => n - (intOf v8).toNat)
  case atStart => exact ⟨0, rfl, Nat.zero_le _, hide HFR.out, hide ((Below.refl _ w).alloc (Nat.le_refl _) _)⟩
  case round =>
    obtain ⟨k, rfl, hk, HI, HB⟩ := hrel
    by_cases hkn : k < n
    · have hkl : k < l.length := by have := HN.out; omega
      obtain ⟨b, off, x, rfl, hb, hx, hc⟩ := HU.out.get HB.out hkl
      have hxs := HS.out x (by rw [← hx]; exact List.getElem_mem hkl)
      have HX := hide hx
      have hlen : (Mrk.nums (l.take k)).length ≤ 10000000 := by
        have h1 := Mrk.nums_le (l.take k) (fun y hy => HS.out y (List.mem_of_mem_take hy))
        rw [List.length_take] at h1
        omega
      have HLN := hide hlen
      clear hx hlen
      go_wp2_with fail
      refine (put_any x wr hxs).mono ?_
      rintro e w1 ⟨rfl, hb1⟩
      have HI1 := hide (bld_keep HI.out hb1)
      have HB1 := hide (HB.out.trans (hb1.mono HB.out.size))
      clear hb1 hc
      go_wp2_with fail
      refine (bwrite_any w.heap.size w.heap.size _ (Num.bs (Num.put x)) w1 HI1.out (by rw [Lib.byteCells_length, Num.bs_size]; have := Num.put_len10 hxs; have := HLN.out; omega) HB1.out.size).mono ?_
      rintro e w2 ⟨rfl, hi2, hb2⟩
      have HI2 := hide (bld_more hi2)
      have HB2 := hide (HB1.out.trans hb2)
      have HT := hide (Mrk.nums_take hkl)
      rw [HX.out] at HT
      clear hi2 hb2
      go_wp2
      go_roundw
      case rel => exact ⟨k + 1, by go_num, by omega, hide (by rw [HT.out]; exact HI2.out), HB2⟩
      case measure => simp [intOf]; omega
    · have hke : k = l.length := by have := HN.out; omega
      have hi3 := HI.out
      rw [hke, List.take_length] at hi3
      have HI3 := hide hi3
      have hkz : k = n := by omega
      clear hke hi3
      subst hkz
      go_wp2_with fail
      refine (bstr_any w.heap.size w.heap.size _ wr HI3.out HB.out.size).mono ?_
      rintro e w1 ⟨rfl, hb1⟩
      have HB1 := hide (HB.out.trans hb1)
      clear hb1
      go_wp2
      go_ret
      exact ⟨rfl, HB1.out⟩
set_option maxRecDepth 100000 in
set_option maxHeartbeats 800000 in
theorem steps_any {X : Nat → Prop} {w : World} {v : Value} {l : List Nat} (f : Nat) (hf : f < 18446744073709551616) (h : SlIn X w v l) (hs : ∀ x ∈ l, x < 18446744073709551616) (hl : l.length ≤ 1000000) :
    Calls Try.prog 88 #[.int .u64 (f : Int), v] w fun e w' => ∃ v', e = .returned v' ∧ SlIn (fun b => w.heap.size ≤ b) w' v' (Mrk.steps f l) ∧ Below w.heap.size w w' := by
  obtain ⟨a, c, rfl, hc, hz, hu⟩ := h
  obtain ⟨n, hn⟩ : ∃ n, l.length = n := ⟨_, rfl⟩
  obtain ⟨w2, hm, hsz, hb2, hg2⟩ := make_u64 w l.length (by omega)
  have hz0 : ∀ j (hj : j < l.length), True := fun _ _ => trivial
  rw [hn] at hm hg2 hl ⊢
  have HN := hide hn
  have HU := hide hu
  have HS := hide hs
  have HB2 := hide hb2
  have HG2 := hide hg2
  clear hu hs hb2 hg2 hn hz0 hz hc hsz
  go_enter Try.func88, Try.ntmps88
  go_wp2
  go_loopw [0, 13] (fun v0 v13 wr => ∃ k : Nat, v13 = .int .i64 (k : Int) ∧ k ≤ n ∧ v0 = .int .u64 ((Mrk.ahead f l k : Nat) : Int) ∧ Hid (wr.heap[w.heap.size]? = some (.cells (uV ((Mrk.steps f l).take k ++ List.replicate (n - k) 0)).toArray 23 (0, 0))) ∧ Hid (Below w.heap.size w wr)) (fun _ v13 _ => n - (intOf v13).toNat)
  case atStart => exact ⟨0, rfl, Nat.zero_le _, rfl, hide (by simpa using HG2.out), HB2⟩
  case round =>
    obtain ⟨k, rfl, hk, rfl, HG, HB⟩ := hrel
    by_cases hkn : k < n
    · have hkl : k < l.length := by have := HN.out; omega
      obtain ⟨b, off, x, rfl, hb, hx, hcx⟩ := HU.out.get HB.out hkl
      have hxs := HS.out x (by rw [← hx]; exact List.getElem_mem hkl)
      have hah : Mrk.ahead f l k < 18446744073709551616 := by
        unfold Mrk.ahead
        split
        · exact hf
        · have h1 : k - 1 < l.length := by omega
          rw [List.getD_eq_getElem?_getD, List.getElem?_eq_getElem h1]
          exact HS.out _ (List.getElem_mem h1)
      have hnx : Mrk.ahead f l (k + 1) = x := by
        unfold Mrk.ahead
        rw [if_neg (by omega), Nat.add_sub_cancel, List.getD_eq_getElem?_getD, List.getElem?_eq_getElem hkl]
        exact hx
      have hst := Mrk.steps_at f l k hkl
      rw [hx] at hst
      have HNX := hide hnx
      have HST := hide hst
      obtain ⟨p, hp⟩ : ∃ p, Mrk.ahead f l k = p := ⟨_, rfl⟩
      rw [hp] at hah HST ⊢
      obtain ⟨d, hd⟩ : ∃ d, Mrk.dif x p = d := ⟨_, rfl⟩
      have hwr : IntKind.u64.wrap ((x : Int) - (p : Int)) = (d : Int) := by rw [IntKind.wrap_u64, Mrk.dif_is, hd]
      rw [hd] at HST
      have hgl : w.heap.size < wr.heap.size := (Array.getElem?_eq_some_iff.1 HG.out).1
      have gk : wr.cell? ⟨w.heap.size, k, none⟩ = some (.int .u64 0) := by
        refine lcell_of HG.out k ?_
        have h2 : ((Mrk.steps f l).take k).length = k := by rw [List.length_take, Mrk.steps_len, HN.out]; omega
        have h3 : n - k = (n - (k + 1)) + 1 := by omega
        rw [List.getElem?_toArray, uV, List.getElem?_map, List.getElem?_append_right (by omega), h2, Nat.sub_self, h3, List.replicate_succ]
        rfl
      have gf := lfrozen_of HG.out
      have hset : (wr.setCell ⟨w.heap.size, k, none⟩ (.int .u64 (d : Int))).heap[w.heap.size]? = some (.cells (uV ((Mrk.steps f l).take (k + 1) ++ List.replicate (n - (k + 1)) 0)).toArray 23 (0, 0)) := by
        have h1 := Mrk.take_fill (s := Mrk.steps f l) (n := n) (k := k) (x := d) (by rw [Mrk.steps_len, HN.out]) hkn (by rw [List.getElem?_eq_getElem (by rw [Mrk.steps_len]; exact hkl), HST.out])
        rw [← h1]
        simp [World.setCell, HG.out, Array.getElem?_modify, uV, List.map_set]
      have hbs := HB.out.setCell (p := ⟨w.heap.size, k, none⟩) (Nat.le_refl _) (.int .u64 (d : Int))
      have HSET := hide hset
      have HBS := hide hbs
      clear hset hbs hst hnx hd hp hx
      go_wp2
      go_roundw
      case rel => exact ⟨k + 1, by go_num, by omega, by rw [HNX.out], HSET, HBS⟩
      case measure => simp [intOf]; omega
    · have hkz : k = n := by omega
      subst hkz
      go_wp2
      go_ret
      refine ⟨_, rfl, ?_, HB.out⟩
      have hg := HG.out
      have e1 : (Mrk.steps f l).length = k := by rw [Mrk.steps_len, HN.out]
      rw [List.take_of_length_le (by omega), Nat.sub_self, List.replicate_zero, List.append_nil] at hg
      have := SlIn.row (l := Mrk.steps f l) (c := k) (r := []) (X := fun b => w.heap.size ≤ b) (by rw [List.append_nil]; exact hg) (Nat.le_refl _) (by omega)
      rw [e1] at this
      exact this
end Go.Proofs.Ytjbdofjheeljkaa
