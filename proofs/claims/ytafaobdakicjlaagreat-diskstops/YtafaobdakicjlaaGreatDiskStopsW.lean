/-
  When the power went behind so many operations.
-/
import Derived.Test.YtafaobdakicjlaaGreatDskDoesW
import Derived.Test.YtafaobdakicjlaaGreatDskTwoW
namespace Go.Proofs.YtafaobdakicjlaaGreat
open Go.RowKit
open Dsk (By Dk)

structure QD (w0 : World) (pa pr pb pq : Nat) (S T U V : Nat → Prop) (w : World) (A B : Dk) (c : Nat) : Prop where
  x : DR w0 pa pr S T w A A c
  y : DR w0 pb pq U V w B B c
  ap : ∀ b, Uni S T b → Uni U V b → False
section
variable {w0 : World} {pa pr pb pq : Nat} {S T U V S' T' : Nat → Prop} {w w' : World} {A B A' B' : Dk} {c c' : Nat}
theorem DR.lt (h : DR w0 pa pr S T w A B c) : ∀ b, Uni S T b → b < w.heap.size := fun b hb => by
  rcases hb with hb | hb
  · exact h.d.lt b hb
  · exact h.r.lt b hb
theorem DR.keep (h : DR w0 pb pq U V w A B c) (ho : Only (Uni S T) w w') (k : ∀ b, Uni S T b → Uni U V b → False) (hb : Below w0.heap.size w0 w') : DR w0 pb pq U V w' A B c :=
  ⟨h.d.other ho (fun b hb z => k b z (.inl hb)), h.r.other ho (fun b hb z => k b z (.inr hb)), h.ap, ⟨hb, h.od.all⟩, h.ot⟩
theorem QD.stepX (h : QD w0 pa pr pb pq S T U V w A B c) (dr : DR w0 pa pr S' T' w' A' A' c') (ho : Only (Uni S T) w w') (ns : New S w S') (nt : New T w T') (hc : c ≤ c') : QD w0 pa pr pb pq S' T' U V w' A' B c' :=
  ⟨dr, (h.y.keep ho h.ap dr.od.below).mono hc, fun b ha hb => by
    have hl := h.y.lt b hb
    rcases ha with ha | ha
    · rcases ns b ha with z | z
      · exact h.ap b (.inl z) hb
      · omega
    · rcases nt b ha with z | z
      · exact h.ap b (.inr z) hb
      · omega⟩
theorem QD.stepY (h : QD w0 pa pr pb pq S T U V w A B c) (dr : DR w0 pb pq S' T' w' B' B' c') (ho : Only (Uni U V) w w') (ns : New U w S') (nt : New V w T') (hc : c ≤ c') : QD w0 pa pr pb pq S T S' T' w' A B' c' :=
  ⟨(h.x.keep ho (fun b a z => h.ap b z a) dr.od.below).mono hc, dr, fun b ha hb => by
    have hl := h.x.lt b ha
    rcases hb with hb | hb
    · rcases ns b hb with z | z
      · exact h.ap b ha (.inl z)
      · omega
    · rcases nt b hb with z | z
      · exact h.ap b ha (.inr z)
      · omega⟩
theorem QD.then (h : QD w0 pa pr pb pq S T U V w A B c) (hb : Below w.heap.size w w') : QD w0 pa pr pb pq S T U V w' A B c := ⟨h.x.then hb, h.y.then hb, h.ap⟩
theorem QD.mono (h : QD w0 pa pr pb pq S T U V w A B c) (hc : c ≤ c') : QD w0 pa pr pb pq S T U V w A B c' := ⟨h.x.mono hc, h.y.mono hc, h.ap⟩
end
theorem doA_act {x : Ac} (h : pk x.op 15 ≤ 12) : ∃ f, Dsk.Blind f ∧ ∀ d, doA x d = Dsk.act d f := Dsk.does_act h _ _ _ _
theorem stop_next {k : Nat} {A B : Dk} (h : Dsk.StopRel k A B) {x : Ac} (hx : pk x.op 15 ≤ 12) : (A.ops < k → Dsk.StopRel k (doA x A).1 (doA x B).1) ∧ (¬ A.ops < k → (doA x A).1 = A) := by
  obtain ⟨f, hf, e⟩ := doA_act hx
  refine ⟨fun hk => ?_, fun hk => ?_⟩
  · rw [e, e]; exact h.step hf hk
  · rw [e, h.dead f hk]
def nNew : ByteArray := ⟨#[110, 101, 119]⟩
def nB : ByteArray := ⟨#[98]⟩
theorem list_len9 (d : Dk) : (Dsk.list d).length = (Dsk.dir d).length := by
  unfold Dsk.list
  rw [(Dsk.sortN_perm _).length_eq]
  unfold Dsk.names
  rw [List.length_map]
/-- Texts that lie in no block of S. -/
def TxK (S : Nat → Prop) (w : World) (a : Option Addr) (l : List ByteArray) : Prop := ∃ g o, (0 < l.length → a = some ⟨g, o, none⟩ ∧ g < w.heap.size ∧ ¬ S g) ∧ ∀ j (hj : j < l.length), w.cell? ⟨g, o + j, none⟩ = some (.string l[j])
theorem TxK.txts {S : Nat → Prop} {w : World} {a : Option Addr} {l : List ByteArray} (h : TxK S w a l) : TxtsAt w a l := by
  obtain ⟨g, o, h1, h2⟩ := h
  exact ⟨g, o, fun k => ⟨(h1 k).1, (h1 k).2.1⟩, h2⟩
theorem TxK.only {S : Nat → Prop} {w w' : World} {a : Option Addr} {l : List ByteArray} (h : TxK S w a l) (ho : Only S w w') : TxK (more S w w') w' a l := by
  obtain ⟨g, o, h1, h2⟩ := h
  refine ⟨g, o, fun k => ⟨(h1 k).1, Nat.lt_of_lt_of_le (h1 k).2.1 ho.size, fun z => ?_⟩, fun j hj => (ho.cell (a := ⟨g, o + j, none⟩) (h1 (by omega)).2.1 (h1 (by omega)).2.2).trans (h2 j hj)⟩
  rcases z with z | z
  · exact (h1 k).2.2 z
  · have := (h1 k).2.1; omega
theorem txk_of {S : Nat → Prop} {w w' : World} {v : Value} {l : List ByteArray} (h : StrsOwn w' w.heap.size v l) (hS : ∀ b, S b → b < w.heap.size) : ∃ a c, v = .slice a l.length c ∧ TxK S w' a l := by
  by_cases h0 : 0 < l.length
  · obtain ⟨g, c, rfl, hg, hc⟩ := own_row' h h0
    have hgb := (h.lt g rfl).1
    exact ⟨some ⟨g, 0, none⟩, c, rfl, g, 0, fun _ => ⟨rfl, hg, fun z => by have := hS g z; omega⟩, fun j hj => by rw [Nat.zero_add]; exact hc j _ (by rw [List.getElem?_map, List.getElem?_eq_getElem hj]; rfl)⟩
  · obtain ⟨a, c, e⟩ := own_slice h
    exact ⟨a, c, e, 0, 0, fun k => absurd k h0, fun j hj => by omega⟩
theorem acSum_pre' (l : List Ac) (j : Nat) : acSum (l.take j) ≤ acSum l := by
  conv => rhs; rw [← List.take_append_drop j l]
  unfold acSum
  rw [List.map_append, List.sum_append]
  omega
set_option maxRecDepth 100000 in
set_option maxHeartbeats 800000 in
theorem walkDiskStops (room : Int) (a0 : Option Addr) (cap0 : Nat) (l : List Ac) (n : Int) (w : World) (hr : -9223372036854775808 ≤ room ∧ room ≤ 9223372036854775807) (ha : ActsAt w a0 l) (hl : l.length ≤ 9223372036854775807) (hok : ∀ p ∈ l, AcOk p) (hn : -9223372036854775808 ≤ n ∧ n ≤ 9223372036854775807) :
    Calls Tryz.prog 6 #[.int .i64 room, .slice a0 l.length cap0, .int .i64 n] w fun e w' => e = .returned (.bool true) ∧ Below w.heap.size w w' := by
  obtain ⟨k, hk⟩ : ∃ k, pk n 60 = k := ⟨_, rfl⟩
  have hk60 : k < 60 := by rw [← hk]; exact pk_lt n (by omega)
  have HK := hide hk
  have HA := hide ha
  have HOK := hide hok
  clear hk ha hok
  go_enter Tryz.func6, Tryz.ntmps6
  go_wp2_with fail
  refine (dshown_any _).mono ?_
  rintro e w1 ⟨rfl, hb1⟩
  go_wp2_with fail
  refine (light_any cap0 (HA.out.below hb1) hl HOK.out).mono ?_
  rintro e w2 ⟨b, rfl, hli, hb2⟩
  have HLI := hide hli
  have HB2 := hide (bl hb1 hb2)
  clear hli hb1 hb2
  go_wp2_with fail
  refine (new_dk room _ hr.2).mono ?_
  rintro e w3 ⟨rfl, hd3, hb3⟩
  obtain ⟨pa, hpa⟩ : ∃ q, w2.heap.size + 1 = q := ⟨_, rfl⟩
  rw [hpa] at hd3 ⊢
  have HD3 := hide hd3
  have HB3 := hide hb3
  clear hd3 hb3 hpa
  go_wp2_with fail
  refine (new_dk room _ hr.2).mono ?_
  rintro e w4 ⟨rfl, hd4, hb4⟩
  obtain ⟨pb, hpb⟩ : ∃ q, w3.heap.size + 1 = q := ⟨_, rfl⟩
  rw [hpb] at hd4 ⊢
  have HD4 := hide hd4
  have HB4 := hide hb4
  clear hd4 hb4 hpb
  go_wp2_with fail
  refine (rnew_dk room _ hr.2).mono ?_
  rintro e w5 ⟨pr, rfl, hd5, hb5⟩
  have HD5 := hide hd5
  have HB5 := hide hb5
  clear hd5 hb5
  go_wp2_with fail
  refine (rnew_dk room _ hr.2).mono ?_
  rintro e w6 ⟨pq, rfl, hd6, hb6⟩
  have z2 := HB3.out.size
  have z3 := HB4.out.size
  have z4 := HB5.out.size
  have z5 := hb6.size
  have hqd : QD w2 pa pr pb pq (more noneS w2 w3) (more noneS w4 w5) (more noneS w3 w4) (more noneS w5 w6) w6 (Dsk.fresh room) (Dsk.fresh room) 0 := by
    have h23 : ∀ b, more noneS w2 w3 b → w2.heap.size ≤ b ∧ b < w3.heap.size := fun b h => ⟨more_ge h, more_lt _ h⟩
    have h34 : ∀ b, more noneS w3 w4 b → w3.heap.size ≤ b ∧ b < w4.heap.size := fun b h => ⟨more_ge h, more_lt _ h⟩
    have h45 : ∀ b, more noneS w4 w5 b → w4.heap.size ≤ b ∧ b < w5.heap.size := fun b h => ⟨more_ge h, more_lt _ h⟩
    have h56 : ∀ b, more noneS w5 w6 b → w5.heap.size ≤ b ∧ b < w6.heap.size := fun b h => ⟨more_ge h, more_lt _ h⟩
    have hbe : Below w2.heap.size w2 w6 := bl (bl (bl HB3.out HB4.out) HB5.out) hb6
    refine ⟨⟨((HD3.out.below HB4.out).below HB5.out).below hb6, HD5.out.below hb6, fun b h1 h2 => ?_, ⟨hbe, fun b h => (h23 b h).1⟩, fun b h => ?_⟩, ⟨(HD4.out.below HB5.out).below hb6, hd6, fun b h1 h2 => ?_, ⟨hbe, fun b h => ?_⟩, fun b h => ?_⟩, fun b h1 h2 => ?_⟩
    · have := h23 b h1; have := h45 b h2; omega
    · have := h45 b h; omega
    · have := h34 b h1; have := h56 b h2; omega
    · have := h34 b h; omega
    · have := h56 b h; omega
    · rcases h1 with h1 | h1 <;> rcases h2 with h2 | h2
      · have := h23 b h1; have := h34 b h2; omega
      · have := h23 b h1; have := h56 b h2; omega
      · have := h45 b h1; have := h34 b h2; omega
      · have := h45 b h1; have := h56 b h2; omega
  have HQ6 := hide hqd
  clear hd6 hb6 hqd HD3 HD4 HD5 HB3 HB4 HB5 z2 z3 z4 z5
  cases b with
  | false =>
    go_wp2
    go_ret
    exact ⟨rfl, bl HB2.out HQ6.out.x.od.below⟩
  | true =>
    obtain ⟨l1, l2⟩ := HLI.out rfl
    go_wp2_with fail
    refine (pick_any n 60 _ hn.1 hn.2 (by omega) (by omega)).mono ?_
    rintro e w7 ⟨rfl, hw⟩
    rw [hw, HK.out]
    clear hw
    go_wp2_with fail
    refine (stop_dk HQ6.out.x.d (k : Int) (by omega)).mono ?_
    rintro e w7 ⟨rfl, hd7, ho7⟩
    have HX7 := hide (HQ6.out.x.setD hd7 ho7)
    have HO7 := hide ho7
    clear hd7 ho7
    go_wp2_with fail
    refine (rstop_dk HX7.out.r (k : Int) (by omega)).mono ?_
    rintro e w8 ⟨rfl, hd8, ho8⟩
    have HQ8 := hide (HQ6.out.stepX (HX7.out.setR hd8 ho8) (only2 (Below.refl _ _) HO7.out ho8) new_same new_same (Nat.le_refl _))
    have HS8 := hide (Dsk.stop_start room k)
    clear hd8 ho8
    go_wp2
    go_loopw [14] (fun v14 wr => ∃ (j : Nat) (A B : Dk) (c : Nat) (S T U V : Nat → Prop), j ≤ l.length ∧ v14 = .int .i64 (j : Int) ∧ Hid (QD w2 pa pr pb pq S T U V wr A B c) ∧ Hid (Dsk.StopRel k A B) ∧ c ≤ 2 * (j + acSum (l.take j))) (fun v14 _ => l.length - (intOf v14).toNat)
    case atStart => exact ⟨0, _, _, _, _, _, _, _, Nat.zero_le _, rfl, HQ8, HS8, Nat.zero_le _⟩
    case round =>
      obtain ⟨j, A, B, c, S, T, U, V, hj, rfl, HQ, HS, hc⟩ := hrel
      have hsum0 : acSum (l.take j) ≤ 1000 := Nat.le_trans (acSum_pre' l j) l2
      by_cases hlt : j < l.length
      · obtain ⟨g, o, rfl, hg, hcell⟩ := HA.out j hlt
        have hcy := hcell j hlt
        have e0 := acSum_take hlt
        have hx := HOK.out _ (List.getElem_mem hlt)
        obtain ⟨⟨op, nm, to, N, raw, tx⟩, hy⟩ : ∃ y, l[j] = y := ⟨_, rfl⟩
        rw [hy] at hcy e0 hx
        have hsum : acSum (l.take (j + 1)) ≤ 1000 := Nat.le_trans (acSum_pre' l (j + 1)) l2
        have ACS := hide e0
        have htx : tx.size ≤ 1000 := by simp only at e0; omega
        have hop := hx.op
        unfold in64 at hop
        simp only at hop
        obtain ⟨kk, hkk⟩ : ∃ kk, pk op 15 = kk := ⟨_, rfl⟩
        have HKK := hide hkk
        have hcW := hcy.below (bl HB2.out HQ.out.x.od.below) hg
        obtain ⟨c0, c1, c2, c3, c4, c5⟩ := hcW
        clear e0 hy hcell hkk
        go_wp2_with fail
        refine (pick_any op 15 _ hop.1 hop.2 (by omega) (by omega)).mono ?_
        rintro e w5 ⟨rfl, hw⟩
        rw [hw, HKK.out]
        clear hw
        by_cases h12 : 12 < kk
        · go_wp2
          go_roundw
          case rel => exact ⟨j + 1, A, B, c, S, T, U, V, by omega, by go_num, HQ, HS, by have := ACS.out; first | omega | (simp only at this; omega)⟩
          case measure => simp [intOf]; omega
        · have hsn := stop_next HS.out (x := ⟨op, nm, to, N, raw, tx⟩) (by rw [HKK.out]; omega)
          have HSN := hide hsn
          have hbo := HS.out.ops
          have HBO := hide hbo
          clear hsn hbo
          go_wp2_with fail
          refine (ops_dk HQ.out.y.d).mono ?_
          rintro e w5 ⟨rfl, hw⟩
          rw [hw, HBO.out]
          clear hw
          by_cases hlk : A.ops < k
          · have HS9 := hide (HSN.out.1 hlk)
            go_wp2_with fail
            refine (does_any HQ.out.y ⟨op, nm, to, N, raw, tx⟩ hx (by simp only; omega)).mono ?_
            rintro e w6 ⟨S', T', rfl, dr, ho, ns, nt⟩
            have HQ6 := hide (HQ.out.stepY dr ho ns nt (by omega))
            clear dr ho ns nt c0 c1 c2 c3 c4 c5
            have hcW := hcy.below (bl HB2.out HQ6.out.x.od.below) hg
            obtain ⟨c0, c1, c2, c3, c4, c5⟩ := hcW
            go_wp2_with fail
            refine (does_any HQ6.out.x ⟨op, nm, to, N, raw, tx⟩ hx (by simp only; omega)).mono ?_
            rintro e w7 ⟨S', T', rfl, dr, ho, ns, nt⟩
            have HQ7 := hide (HQ6.out.stepX dr ho ns nt (by omega))
            clear dr ho ns nt c0 c1 c2 c3 c4 c5
            have hops := HS9.out.2.2
            go_wp2_with fail
            refine (ops_dk HQ7.out.x.d).mono ?_
            rintro e w9 ⟨rfl, hw⟩
            rw [hw]
            clear hw
            go_wp2
            go_roundw
            case rel => exact ⟨j + 1, _, _, _, _, _, _, _, by omega, by go_num, HQ7, HS9, by have := ACS.out; first | omega | (simp only at this; omega)⟩
            case measure => simp [intOf]; omega
          · have hse := HSN.out.2 hlk
            go_wp2_with fail
            refine (does_any HQ.out.x ⟨op, nm, to, N, raw, tx⟩ hx (by simp only; omega)).mono ?_
            rintro e w7 ⟨S', T', rfl, dr, ho, ns, nt⟩
            have HQ7 := hide (HQ.out.stepX dr ho ns nt (by omega))
            clear dr ho ns nt c0 c1 c2 c3 c4 c5
            have hq7 := HQ7.out
            rw [hse] at hq7
            have HQ77 := hide hq7
            have HS9 := HS
            clear hse hq7
            have hops := HS9.out.2.2
            go_wp2_with fail
            refine (ops_dk HQ77.out.x.d).mono ?_
            rintro e w9 ⟨rfl, hw⟩
            rw [hw]
            clear hw
            go_wp2
            go_roundw
            case rel => exact ⟨j + 1, _, _, _, _, _, _, _, by omega, by go_num, HQ77, HS9, by have := ACS.out; first | omega | (simp only at this; omega)⟩
            case measure => simp [intOf]; omega
      · obtain rfl : j = l.length := by omega
        rw [List.take_length] at hc
        have r1 : Dsk.list A = Dsk.list B := by rw [HS.out.1]; rfl
        have r2 : Dsk.used A = Dsk.used B := by rw [HS.out.1]; rfl
        have r3 : B.ops = A.ops := HS.out.ops
        have hla : (Dsk.list A).length ≤ 1000000000000 := by rw [list_len9]; have := HQ.out.x.d.bud.rows _ (Dsk.dir_mem HQ.out.x.d.ok.some); omega
        have hlb : (Dsk.list B).length ≤ 1000000000000 := by rw [← r1]; exact hla
        have hle := HS.out.2.1
        have hok := HS.out.2.2
        have R1 := hide r1
        have R2 := hide r2
        have R3 := hide r3
        clear r1 r2 r3
        go_wp2_with fail
        refine (list_dk HQ.out.x.d (by omega)).mono ?_
        rintro e w5 ⟨v, rfl, ho, hb⟩
        obtain ⟨va, vc, rfl, htx⟩ := txts_of ho
        have HT5 := hide htx
        have HQ5 := hide (HQ.out.then hb)
        clear ho hb htx
        go_wp2_with fail
        refine (list_dk HQ5.out.y.d (by omega)).mono ?_
        rintro e w6 ⟨v, rfl, ho, hb⟩
        obtain ⟨ua, uc, rfl, htx⟩ := txts_of ho
        have HT6 := hide htx
        have HT56 := hide (HT5.out.below hb)
        have HQ6' := hide (HQ5.out.then hb)
        clear ho hb htx
        go_wp2_with fail
        refine (same_any vc uc (la := Dsk.list A) (lb := Dsk.list B) HT56.out HT6.out hla hlb).mono ?_
        rintro e w7 ⟨rfl, hb⟩
        rw [decide_eq_true R1.out]
        have HQ7' := hide (HQ6'.out.then hb)
        clear hb hla hlb
        go_wp2_with fail
        refine (used_dk HQ7'.out.x.d).mono ?_
        rintro e w9 ⟨rfl, hw⟩
        rw [hw, R2.out]
        clear hw
        go_wp2_with fail
        refine (used_dk HQ7'.out.y.d).mono ?_
        rintro e w9 ⟨rfl, hw⟩
        rw [hw]
        clear hw
        go_wp2_with fail
        refine (ops_dk HQ7'.out.x.d).mono ?_
        rintro e w9 ⟨rfl, hw⟩
        rw [hw]
        clear hw
        go_wp2_with fail
        refine (ops_dk HQ7'.out.y.d).mono ?_
        rintro e w9 ⟨rfl, hw⟩
        rw [hw, R3.out]
        clear hw
        go_wp2_with fail
        refine (ops_dk HQ7'.out.x.d).mono ?_
        rintro e w9 ⟨rfl, hw⟩
        rw [hw]
        clear hw
        by_cases hlk : A.ops < k
        · go_wp2
          go_ret
          exact ⟨rfl, bl HB2.out HQ7'.out.x.od.below⟩
        · have hl0 : A.left = 0 := by omega
          have hak : A.ops = k := by omega
          have HL0 := hide hl0
          have HAK := hide hak
          have hrd : Dsk.read nA A = ([], 11) := by unfold Dsk.read; rw [if_pos hl0]
          have HRD := hide hrd
          clear hl0 hak hrd hle hok
          have HD0 := hide HQ7'.out.x.d
          have HB0 := hide HQ7'.out.x.od
          go_wp2_with fail
          refine (read_dk HD0.out nA (by decide)).mono ?_
          rintro e w9 ⟨rfl, hw⟩
          rw [hw, HRD.out]
          clear hw
          go_wp2_with fail
          refine (list_dk HD0.out (by omega)).mono ?_
          rintro e w10 ⟨v, rfl, ho, hb⟩
          have hll : (Dsk.list A).length ≤ 1000000000000 := by rw [list_len9]; have := HD0.out.bud.rows _ (Dsk.dir_mem HD0.out.ok.some); omega
          obtain ⟨ta, tc, rfl, htx⟩ := txk_of ho HD0.out.lt
          have HT1 := hide htx
          have HD1 := hide (HD0.out.below hb)
          have HB1 := hide (HB0.out.then hb)
          clear ho hb htx
          go_wp2_with fail
          refine (create_dk HD1.out nNew (by decide) (by omega)).mono ?_
          rintro e w20 ⟨rfl, hd, ho⟩
          rw [show Dsk.create nNew A = (A, 11) from act_dead HL0.out _] at hd ⊢
          have HD2 := hide (hd.mono (c' := c + 2) (by first | omega | (show _ + 1 + 1 ≤ _; omega)))
          have HB2' := hide (HB1.out.next ho)
          have HT2' := hide (HT1.out.only ho)
          clear hd ho
          go_wp2_with fail
          refine (append_dk HD2.out nA ⟨#[120]⟩ (by decide) (by show _ + 1 + 1 ≤ _; omega)).mono ?_
          rintro e w21 ⟨rfl, hd, ho⟩
          rw [show Dsk.append nA [120] A = (A, 11) from act_dead HL0.out _] at hd ⊢
          have HD3 := hide (hd.mono (c' := c + 4) (by first | omega | (show _ + 1 + 1 ≤ _; omega)))
          have HB3' := hide (HB2'.out.next ho)
          have HT3' := hide (HT2'.out.only ho)
          clear hd ho
          go_wp2_with fail
          refine (cut_dk HD3.out nA 0 (by decide) (by omega) (by omega)).mono ?_
          rintro e w22 ⟨rfl, hd, ho⟩
          rw [show Dsk.cut nA 0 A = (A, 11) from act_dead HL0.out _] at hd ⊢
          have HD4 := hide (hd.mono (c' := c + 6) (by first | omega | (show _ + 1 + 1 ≤ _; omega)))
          have HB4' := hide (HB3'.out.next ho)
          have HT4' := hide (HT3'.out.only ho)
          clear hd ho
          go_wp2_with fail
          refine (sync_dk HD4.out nA (by decide) (by omega)).mono ?_
          rintro e w23 ⟨rfl, hd, ho⟩
          rw [show Dsk.sync nA A = (A, 11) from act_dead HL0.out _] at hd ⊢
          have HD5 := hide (hd.mono (c' := c + 8) (by first | omega | (show _ + 1 + 1 ≤ _; omega)))
          have HB5' := hide (HB4'.out.next ho)
          have HT5' := hide (HT4'.out.only ho)
          clear hd ho
          go_wp2_with fail
          refine (rename_dk HD5.out nA nB (by decide) (by decide) (by omega)).mono ?_
          rintro e w24 ⟨rfl, hd, ho⟩
          rw [show Dsk.rename nA nB A = (A, 11) from act_dead HL0.out _] at hd ⊢
          have HD6 := hide (hd.mono (c' := c + 10) (by first | omega | (show _ + 1 + 1 ≤ _; omega)))
          have HB6' := hide (HB5'.out.next ho)
          have HT6' := hide (HT5'.out.only ho)
          clear hd ho
          go_wp2_with fail
          refine (remove_dk HD6.out nA (by decide) (by omega)).mono ?_
          rintro e w25 ⟨rfl, hd, ho⟩
          rw [show Dsk.remove nA A = (A, 11) from act_dead HL0.out _] at hd ⊢
          have HD7 := hide (hd.mono (c' := c + 12) (by first | omega | (show _ + 1 + 1 ≤ _; omega)))
          have HB7' := hide (HB6'.out.next ho)
          have HT7' := hide (HT6'.out.only ho)
          clear hd ho
          go_wp2_with fail
          refine (syncDir_dk HD7.out (by omega)).mono ?_
          rintro e w26 ⟨rfl, hd, ho⟩
          rw [show Dsk.syncDir A = (A, 11) from act_dead HL0.out _] at hd ⊢
          have HD8 := hide (hd.mono (c' := c + 14) (by first | omega | (show _ + 1 + 1 ≤ _; omega)))
          have HB8' := hide (HB7'.out.next ho)
          have HT8' := hide (HT7'.out.only ho)
          clear hd ho
          go_wp2_with fail
          refine (list_dk HD8.out (by omega)).mono ?_
          rintro e w30 ⟨v, rfl, ho, hb⟩
          obtain ⟨fa, fc, rfl, htx⟩ := txts_of ho
          have HTF := hide htx
          have HTG := hide (HT8'.out.txts.below hb)
          have HD9 := hide (HD8.out.below hb)
          have HB9' := hide (HB8'.out.then hb)
          clear ho hb htx
          go_wp2_with fail
          refine (same_any fc tc (la := Dsk.list A) (lb := Dsk.list A) HTF.out HTG.out hll hll).mono ?_
          rintro e w31 ⟨rfl, hb⟩
          rw [decide_eq_true rfl]
          have HD10 := hide (HD9.out.below hb)
          have HB10' := hide (HB9'.out.then hb)
          clear hb hll
          go_wp2_with fail
          refine (ops_dk HD10.out).mono ?_
          rintro e w32 ⟨rfl, hw⟩
          rw [hw, HAK.out]
          clear hw
          go_wp2
          go_ret
          exact ⟨by simp, bl HB2.out HB10'.out.below⟩

end Go.Proofs.YtafaobdakicjlaaGreat
