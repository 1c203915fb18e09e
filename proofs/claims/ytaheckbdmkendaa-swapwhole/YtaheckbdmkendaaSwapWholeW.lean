/-
  Texts that are written, one in the place of the other, till the power goes.
-/
import Derived.Test.YtaheckbdmkendaaSwpShownW
import Derived.Test.YtaheckbdmkendaaSwpCleanW
import Derived.Test.YtaheckbdmkendaaDskKinds
import Derived.Test.YtaheckbdmkendaaDskNameOfW
namespace Go.Proofs.Ytaheckbdmkendaa
open Go.RowKit
open Dsk (By Dk)

def sFirst : ByteArray := ⟨#[102, 105, 114, 115, 116]⟩
def sAgain : ByteArray := ⟨#[97, 103, 97, 105, 110]⟩
theorem one_stop {D : Dk} {room : Nat} {b : By} {k : Nat} (h : Dsk.One D room b k) (x : Int) : Dsk.One (Dsk.setStop x D) room b k := by
  obtain ⟨fs, f, h, h1, h2⟩ := h.wt
  exact ⟨fs, f, ⟨h.room, h.files, h.dirs, h.fail⟩, h1, h2⟩
/-- One more writing: it is written, or the power is gone. -/
theorem whole_next {D : Dk} {b : By} (h : Dsk.One D 1000000 b 0) (hb : b.length ≤ 100) (x : By) (hx : x.length ≤ 100) :
    ((Dsk.write Dsk.ck x D).2 = 0 ∧ Dsk.One (Dsk.write Dsk.ck x D).1 1000000 x 0) ∨ ((Dsk.write Dsk.ck x D).2 = 11 ∧ Dsk.Left2 (Dsk.write Dsk.ck x D).1 1000000 (fun y => y = b ∨ y = x)) := by
  rcases h.write x with ⟨a, c, _⟩ | ⟨a, _, c⟩ | ⟨a, _, _⟩
  · exact .inl ⟨a, c⟩
  · exact .inr ⟨a, c⟩
  · omega
/-- What is behind the power cut. -/
theorem whole_end {E : Dk} {P : By → Prop} (h : Dsk.Left2 E 1000000 P) (hP : ∀ b, P b → b.length ≤ 100) (ok : Dsk.Ok E) (k : Int) (ks : List Int) :
    ∃ b, P b ∧ Dsk.read Dsk.ck (Dsk.crash k ks E) = (b, 0) ∧ (Dsk.clean (Dsk.crash k ks E)).2 = 0 ∧ Dsk.read Dsk.ck (Dsk.clean (Dsk.crash k ks E)).1 = (b, 0) ∧ Dsk.list (Dsk.clean (Dsk.crash k ks E)).1 = [Dsk.ck] ∧ (Dsk.write Dsk.ck sAgain.data.toList (Dsk.clean (Dsk.crash k ks E)).1).2 = 0 := by
  obtain ⟨b, h1, h2, h3, h4, h5⟩ := Dsk.left2_crash h ok k ks
  refine ⟨b, h1, h2, h3, h4.now.read h5, h4.now.list, ?_⟩
  have hb := hP b h1
  have h5' : sAgain.data.toList.length = 5 := rfl
  rcases h4.write sAgain.data.toList with ⟨a, _⟩ | ⟨_, a, _⟩ | ⟨a, _, _⟩
  · exact a
  · exact absurd h5 a
  · omega

theorem txts_own {w : World} {base : Nat} {v : Value} {l : List ByteArray} (h : StrsOwn w base v l) (hl : 0 < l.length) : ∃ a c, v = .slice a l.length c ∧ TxtsAt w a l := by
  obtain ⟨g, c, rfl, hg, hc, _⟩ := own_row h hl
  exact ⟨some ⟨g, 0, none⟩, c, rfl, g, 0, fun _ => ⟨rfl, hg⟩, fun j hj => by rw [Nat.zero_add]; exact hc j _ (by rw [List.getElem?_map, List.getElem?_eq_getElem hj]; rfl)⟩
theorem txts_one (w : World) (x : ByteArray) (t : TypeId) : TxtsAt (w.alloc (.cells #[.string x] t)) (some ⟨w.heap.size, 0, none⟩) [x] :=
  ⟨w.heap.size, 0, fun _ => ⟨rfl, by simp⟩, fun j hj => by
    have : j = 0 := by simpa using hj
    subst this
    simp⟩

set_option maxRecDepth 100000 in
set_option maxHeartbeats 800000 in
theorem walkSwapWhole (a0 : Option Addr) (len cap0 : Nat) (zs : List ByteArray) (n : Int) (k : Int) (a : Option Addr) (cap : Nat) (ks : List Int) (w : World) (hl : IsStrs w a0 len cap0 zs) (hn : -9223372036854775808 ≤ n ∧ n ≤ 9223372036854775807) (hks : KeepAt w a ks) (hkl : ks.length ≤ 9223372036854775807) :
    Calls Try.prog 3 #[.slice a0 len cap0, .int .i64 n, .agg #[.int .i64 k, .slice a ks.length cap]] w fun e w' => e = .returned (.bool true) ∧ Below w.heap.size w w' := by
  obtain ⟨hl0, hm0, hv0, hs0⟩ := view_strs hl
  unfold maxLen at hm0
  have bK : ∀ o, Below w.heap.size w (w.alloc o) := fun o => (Below.refl _ w).alloc (Nat.le_refl _) o
  have HBK := hide bK
  have HV := hide hv0
  clear bK hl hv0 hs0
  by_cases hb0 : 20 < len
  · go_enter Try.func3, Try.ntmps3
    go_wp2_with fail
    refine (sshown_any _).mono ?_
    rintro e w1 ⟨rfl, hb1⟩
    go_wp2_with fail
    refine (new_dk 1000000 _ (by omega)).mono ?_
    rintro e w2 ⟨rfl, _, hb2⟩
    go_wp2
    go_ret
    exact ⟨rfl, bl (bl (HBK.out _) hb1) hb2⟩
  obtain ⟨p, hp⟩ : ∃ p, pk n 100 = p := ⟨_, rfl⟩
  have hp3 : p < 100 := by rw [← hp]; exact pk_lt n (by omega)
  obtain ⟨f1, f2, f3, _⟩ := Dsk.one_first 1000000 sFirst.data.toList (by decide)
  obtain ⟨D1, hD1⟩ : ∃ D1, (Dsk.write Dsk.ck sFirst.data.toList (Dsk.fresh 1000000)).1 = D1 := ⟨_, rfl⟩
  have f2 : Dsk.One (Dsk.write Dsk.ck sFirst.data.toList (Dsk.fresh 1000000)).1 1000000 sFirst.data.toList 0 := f2
  rw [hD1] at f2
  have HF1 := hide f1
  have HF2 := hide (one_stop f2 (p : Int))
  have HD1 := hide hD1
  have HP := hide hp
  have HKS := hide hks
  clear f1 f2 f3 hD1 hp hks
  go_enter Try.func3, Try.ntmps3
  go_wp2_with fail
  have y0 : (w.alloc (.cells #[.int .i64 k, .slice a ks.length cap] 25)).cell? ⟨w.heap.size, 0, none⟩ = some (.int .i64 k) := by simp
  have y1 : (w.alloc (.cells #[.int .i64 k, .slice a ks.length cap] 25)).cell? ⟨w.heap.size, 1, none⟩ = some (.slice a ks.length cap) := by simp
  have b0 := HBK.out (.cells #[.int .i64 k, .slice a ks.length cap] 25)
  have s0 : w.heap.size < (w.alloc (.cells #[.int .i64 k, .slice a ks.length cap] 25)).heap.size := by simp
  obtain ⟨w0, hw0⟩ : ∃ w0, w.alloc (.cells #[.int .i64 k, .slice a ks.length cap] 25) = w0 := ⟨_, rfl⟩
  rw [hw0] at y0 y1 b0 s0 ⊢
  clear hw0
  refine (sshown_any _).mono ?_
  rintro e w1 ⟨rfl, hb1⟩
  go_wp2_with fail
  refine (new_dk 1000000 _ (by omega)).mono ?_
  rintro e w2 ⟨rfl, hd2, hb2⟩
  obtain ⟨q, hq⟩ : ∃ q, w1.heap.size + 1 = q := ⟨_, rfl⟩
  rw [hq] at hd2 ⊢
  have HD2 := hide hd2
  have HB2 : Hid (Own w0 (more noneS w1 w2) w2) := hide ⟨bl hb1 hb2, noneS_in hb1.size⟩
  clear hd2 hq hb1 hb2
  go_wp2_with fail
  refine (write_dk HD2.out Dsk.ck sFirst (by decide) (by decide)).mono ?_
  rintro e w3 ⟨rfl, hg3⟩
  rw [show (Dsk.write Dsk.ck sFirst.data.toList (Dsk.fresh 1000000)).2 = 0 from HF1.out]
  rw [HD1.out] at hg3
  have HD3 := hide hg3.dk
  have HB3 := hide (HB2.out.next hg3.only)
  clear hg3
  go_wp2_with fail
  refine (pick_any n 100 _ hn.1 hn.2 (by omega) (by omega)).mono ?_
  rintro e w4 ⟨rfl, hw⟩
  rw [hw, HP.out]
  clear hw
  go_wp2_with fail
  refine (stop_dk HD3.out (p : Int) (by omega)).mono ?_
  rintro e w5 ⟨rfl, hd5, ho5⟩
  have HD5 := hide hd5
  have HB5 := hide (HB3.out.only ho5)
  clear hd5 ho5
  go_wp2
  go_loopw [9, 10, 11] (fun v9 v10 v11 wr => ∃ (j : Nat) (o : ByteArray) (D : Dk) (c : Nat) (S : Nat → Prop), j ≤ len ∧ v11 = .int .i64 (j : Int) ∧ v9 = .string o ∧ v10 = .string o ∧ Hid (IsDk S wr q D c) ∧ Hid (Dsk.One D 1000000 o.data.toList 0) ∧ Hid (Own w0 S wr) ∧ o.size ≤ 100 ∧ c ≤ 13 + 108 * j) (fun _ _ v11 _ => len - (intOf v11).toNat)
  case atStart => exact ⟨0, sFirst, _, _, _, Nat.zero_le _, rfl, rfl, rfl, HD5, HF2, HB5, by decide, by decide⟩
  case round =>
    obtain ⟨j, o, E, c, S, hj, rfl, rfl, rfl, HDE, HOE, HBE, hos, hc⟩ := hrel
    by_cases hlt : j < len
    · obtain ⟨b, off, rfl, hblt, hcell⟩ := HV.out j hlt
      have v1 := ((bl b0 HBE.out.below).cell (p := ⟨b, off + j, none⟩) hblt).trans (hcell j hlt)
      obtain ⟨x, hx⟩ : ∃ x, zs.getD j ByteArray.empty = x := ⟨_, rfl⟩
      rw [hx] at v1
      clear hx hcell
      by_cases hbig : 100 < x.size
      · go_wp2
        go_ret
        exact ⟨rfl, bl b0 HBE.out.below⟩
      · have hxl : x.data.toList.length = x.size := by simp
        have hol : o.data.toList.length = o.size := by simp
        have hwn := whole_next HOE.out (by omega) x.data.toList (by omega)
        have HWN := hide hwn
        clear hwn hxl hol
        go_wp2_with fail
        refine (write_dk HDE.out Dsk.ck x (by decide) (by omega)).mono ?_
        rintro e w6 ⟨rfl, hg6⟩
        obtain ⟨F, e6, hF⟩ : ∃ F e6, Dsk.write Dsk.ck x.data.toList E = (F, e6) := ⟨(Dsk.write Dsk.ck x.data.toList E).1, (Dsk.write Dsk.ck x.data.toList E).2, rfl⟩
        have hwn := HWN.out
        rw [hF] at hwn hg6 ⊢
        have HDF : Hid (IsDk _ w6 q F _) := hide hg6.dk
        have HBF := hide (HBE.out.next hg6.only)
        have v1 := ((bl b0 HBF.out.below).cell (p := ⟨b, off + j, none⟩) hblt).trans (((bl b0 HBE.out.below).cell (p := ⟨b, off + j, none⟩) hblt).symm.trans v1)
        clear hg6 hF HWN
        rcases hwn with ⟨e0, h1⟩ | ⟨e0, h1⟩
        · have e0 : e6 = 0 := e0
          subst e0
          have H1 := hide h1
          clear h1
          go_wp2
          go_roundw
          case rel => exact ⟨j + 1, x, F, _, _, by omega, by go_num, rfl, rfl, HDF, H1, HBF, by omega, by omega⟩
          case measure => simp [intOf]; omega
        · have e0 : e6 = 11 := e0
          subst e0
          have HL : Hid (Dsk.Left2 F 1000000 (fun y => y = o.data.toList ∨ y = x.data.toList)) := hide h1
          clear h1
          have hol : o.data.toList.length ≤ 100 := by simpa using hos
          have hxl : x.data.toList.length ≤ 100 := by simpa using hbig
          obtain ⟨bb, tP, t1, t2, t3, t4, t5⟩ := whole_end (E := F) HL.out (fun y hy => by rcases hy with rfl | rfl <;> simpa) HDF.out.ok k ks
          obtain ⟨z, hz⟩ : ∃ z, Num.bs bb = z := ⟨_, rfl⟩
          have hzP : z = o ∨ z = x := by
            rcases tP with e | e
            · exact .inl (by rw [← hz, e]; exact Num.bs_of _)
            · exact .inr (by rw [← hz, e]; exact Num.bs_of _)
          have T1 := hide t1
          have T2 := hide t2
          have T3 := hide t3
          have T4 := hide t4
          have T5 := hide t5
          have HZ := hide hz
          have z0 := (HBF.out.below.cell (p := ⟨w.heap.size, 0, none⟩) s0).trans y0
          have z1 := (HBF.out.below.cell (p := ⟨w.heap.size, 1, none⟩) s0).trans y1
          clear t1 t2 t3 t4 t5 hz tP
          go_wp2_with fail
          refine (crash_dk HDF.out (by omega) k a cap ks (HKS.out.below (bl b0 HBF.out.below)) hkl).mono ?_
          rintro e w7 ⟨cq, rfl, hd7, hb7⟩
          have HD7 := hide hd7
          have OC7 := hide (Own.new hb7)
          clear hd7 hb7 z0 z1
          go_wp2_with fail
          refine (read_dk HD7.out Dsk.ck (by decide)).mono ?_
          rintro e w8 ⟨rfl, hw⟩
          rw [hw, T1.out, HZ.out]
          clear hw
          by_cases hzo : z = o
          · have c1 : (z.toList == o.toList) = true := by rw [Lab.eqB]; exact decide_eq_true hzo
            have HZO := hide hzo
            clear hzo hzP
            go_wp2_with fail
            refine (clean_dk HD7.out (by omega)).mono ?_
            rintro e w9 ⟨rfl, hg9⟩
            rw [T2.out]
            have HD9 := hide hg9.dk
            have HB9 := hide (OC7.out.next hg9.only)
            clear hg9
            go_wp2_with fail
            refine (read_dk HD9.out Dsk.ck (by decide)).mono ?_
            rintro e w10 ⟨rfl, hw⟩
            rw [hw, T3.out, HZ.out]
            clear hw
            go_wp2_with fail
            refine (list_dk HD9.out (by omega)).mono ?_
            rintro e w11 ⟨v, rfl, ho, hb11⟩
            rw [T4.out] at ho
            obtain ⟨va, vc, rfl, htx⟩ := txts_own ho (by decide)
            have HTX := hide htx
            have HD11 := hide (HD9.out.below hb11)
            have HB11 := hide (HB9.out.then hb11)
            clear ho hb11 htx
            go_wp2_with fail
            have b12 : Below w11.heap.size w11 (w11.alloc (.cells #[.string Dsk.ck] 9)) := (Below.refl _ w11).alloc (Nat.le_refl _) _
            refine (same_any vc 1 (la := [Dsk.ck]) (lb := [Dsk.ck]) (HTX.out.below b12) (txts_one w11 Dsk.ck 9) (by decide) (by decide)).mono ?_
            rintro e w13 ⟨rfl, hb13⟩
            rw [show decide ([Dsk.ck] = [Dsk.ck]) = true from decide_eq_true rfl]
            have HD13 := hide ((HD11.out.below b12).below hb13)
            have HB13 := hide ((HB11.out.then b12).then hb13)
            clear b12 hb13
            go_wp2_with fail
            refine (write_dk HD13.out Dsk.ck sAgain (by decide) (by show _ + (5 + 8) ≤ _; omega)).mono ?_
            rintro e w14 ⟨rfl, hg14⟩
            rw [T5.out]
            have HB14 := hide (HB13.out.next hg14.only)
            clear hg14
            go_wp2
            go_ret
            exact ⟨rfl, bl b0 (bl HBF.out.below HB14.out.below)⟩
          · have hzx : z = x := hzP.resolve_left hzo
            have c1 : (z.toList == o.toList) = false := by rw [Lab.eqB]; exact decide_eq_false hzo
            have c2 : (z.toList == x.toList) = true := by rw [Lab.eqB]; exact decide_eq_true hzx
            have HZX := hide hzx
            clear hzo hzx hzP
            go_wp2_with fail
            refine (clean_dk HD7.out (by omega)).mono ?_
            rintro e w9 ⟨rfl, hg9⟩
            rw [T2.out]
            have HD9 := hide hg9.dk
            have HB9 := hide (OC7.out.next hg9.only)
            clear hg9
            go_wp2_with fail
            refine (read_dk HD9.out Dsk.ck (by decide)).mono ?_
            rintro e w10 ⟨rfl, hw⟩
            rw [hw, T3.out, HZ.out]
            clear hw
            go_wp2_with fail
            refine (list_dk HD9.out (by omega)).mono ?_
            rintro e w11 ⟨v, rfl, ho, hb11⟩
            rw [T4.out] at ho
            obtain ⟨va, vc, rfl, htx⟩ := txts_own ho (by decide)
            have HTX := hide htx
            have HD11 := hide (HD9.out.below hb11)
            have HB11 := hide (HB9.out.then hb11)
            clear ho hb11 htx
            go_wp2_with fail
            have b12 : Below w11.heap.size w11 (w11.alloc (.cells #[.string Dsk.ck] 9)) := (Below.refl _ w11).alloc (Nat.le_refl _) _
            refine (same_any vc 1 (la := [Dsk.ck]) (lb := [Dsk.ck]) (HTX.out.below b12) (txts_one w11 Dsk.ck 9) (by decide) (by decide)).mono ?_
            rintro e w13 ⟨rfl, hb13⟩
            rw [show decide ([Dsk.ck] = [Dsk.ck]) = true from decide_eq_true rfl]
            have HD13 := hide ((HD11.out.below b12).below hb13)
            have HB13 := hide ((HB11.out.then b12).then hb13)
            clear b12 hb13
            go_wp2_with fail
            refine (write_dk HD13.out Dsk.ck sAgain (by decide) (by show _ + (5 + 8) ≤ _; omega)).mono ?_
            rintro e w14 ⟨rfl, hg14⟩
            rw [T5.out]
            have HB14 := hide (HB13.out.next hg14.only)
            clear hg14
            go_wp2
            go_ret
            exact ⟨rfl, bl b0 (bl HBF.out.below HB14.out.below)⟩
    · obtain rfl : j = len := by omega
      have HL : Hid (Dsk.Left2 E 1000000 (fun y => y = o.data.toList ∨ y = o.data.toList)) := hide (HOE.out.left2.mono (fun _ e => .inl e))
      have hol : o.data.toList.length ≤ 100 := by simpa using hos
      obtain ⟨bb, tP, t1, t2, t3, t4, t5⟩ := whole_end (E := E) HL.out (fun y hy => by rcases hy with rfl | rfl <;> simpa) HDE.out.ok k ks
      obtain ⟨z, hz⟩ : ∃ z, Num.bs bb = z := ⟨_, rfl⟩
      have hzP : z = o ∨ z = o := by
        rcases tP with e | e
        · exact .inl (by rw [← hz, e]; exact Num.bs_of _)
        · exact .inr (by rw [← hz, e]; exact Num.bs_of _)
      have T1 := hide t1
      have T2 := hide t2
      have T3 := hide t3
      have T4 := hide t4
      have T5 := hide t5
      have HZ := hide hz
      have z0 := (HBE.out.below.cell (p := ⟨w.heap.size, 0, none⟩) s0).trans y0
      have z1 := (HBE.out.below.cell (p := ⟨w.heap.size, 1, none⟩) s0).trans y1
      clear t1 t2 t3 t4 t5 hz tP
      go_wp2_with fail
      refine (crash_dk HDE.out (by omega) k a cap ks (HKS.out.below (bl b0 HBE.out.below)) hkl).mono ?_
      rintro e w7 ⟨cq, rfl, hd7, hb7⟩
      have HD7 := hide hd7
      have OC7 := hide (Own.new hb7)
      clear hd7 hb7 z0 z1
      go_wp2_with fail
      refine (read_dk HD7.out Dsk.ck (by decide)).mono ?_
      rintro e w8 ⟨rfl, hw⟩
      rw [hw, T1.out, HZ.out]
      clear hw
      by_cases hzo : z = o
      · have c1 : (z.toList == o.toList) = true := by rw [Lab.eqB]; exact decide_eq_true hzo
        have HZO := hide hzo
        clear hzo hzP
        go_wp2_with fail
        refine (clean_dk HD7.out (by omega)).mono ?_
        rintro e w9 ⟨rfl, hg9⟩
        rw [T2.out]
        have HD9 := hide hg9.dk
        have HB9 := hide (OC7.out.next hg9.only)
        clear hg9
        go_wp2_with fail
        refine (read_dk HD9.out Dsk.ck (by decide)).mono ?_
        rintro e w10 ⟨rfl, hw⟩
        rw [hw, T3.out, HZ.out]
        clear hw
        go_wp2_with fail
        refine (list_dk HD9.out (by omega)).mono ?_
        rintro e w11 ⟨v, rfl, ho, hb11⟩
        rw [T4.out] at ho
        obtain ⟨va, vc, rfl, htx⟩ := txts_own ho (by decide)
        have HTX := hide htx
        have HD11 := hide (HD9.out.below hb11)
        have HB11 := hide (HB9.out.then hb11)
        clear ho hb11 htx
        go_wp2_with fail
        have b12 : Below w11.heap.size w11 (w11.alloc (.cells #[.string Dsk.ck] 9)) := (Below.refl _ w11).alloc (Nat.le_refl _) _
        refine (same_any vc 1 (la := [Dsk.ck]) (lb := [Dsk.ck]) (HTX.out.below b12) (txts_one w11 Dsk.ck 9) (by decide) (by decide)).mono ?_
        rintro e w13 ⟨rfl, hb13⟩
        rw [show decide ([Dsk.ck] = [Dsk.ck]) = true from decide_eq_true rfl]
        have HD13 := hide ((HD11.out.below b12).below hb13)
        have HB13 := hide ((HB11.out.then b12).then hb13)
        clear b12 hb13
        go_wp2_with fail
        refine (write_dk HD13.out Dsk.ck sAgain (by decide) (by show _ + (5 + 8) ≤ _; omega)).mono ?_
        rintro e w14 ⟨rfl, hg14⟩
        rw [T5.out]
        have HB14 := hide (HB13.out.next hg14.only)
        clear hg14
        go_wp2
        go_ret
        exact ⟨rfl, bl b0 (bl HBE.out.below HB14.out.below)⟩
      · exact absurd (hzP.elim id id) hzo

end Go.Proofs.Ytaheckbdmkendaa
