/-
  The document's Evict.
-/
import Derived.Test.YtjbdofjheeljkaaLdgRLeaveW
namespace Go.Proofs.Ytjbdofjheeljkaa
open Go.RowKit
open Ldg (De Le Rd Rl)

theorem evs_add : ∀ (l m : List Nat) (s t : Nat), Ldg.evs s t (l ++ m) = Ldg.evs s t l ++ Ldg.evs (s + l.length) t m
  | [], m, s, t => by simp [Ldg.evs]
  | y :: r, m, s, t => by
    have ih := evs_add r m (s + 1) t
    rw [List.length_cons, show s + (r.length + 1) = s + 1 + r.length by omega]
    simp only [List.cons_append, Ldg.evs]
    rw [ih]
/-- As far as it has come. -/
def evAt (s t i : Nat) (al : List Nat) : List Nat := Ldg.evs s t (al.take i) ++ al.drop i
theorem evAt_len (s t i : Nat) (al : List Nat) : (evAt s t i al).length = al.length := by
  unfold evAt
  rw [List.length_append, Ldg.evs_len, List.length_take, List.length_drop]; omega
theorem evAt_zero (s t : Nat) (al : List Nat) : evAt s t 0 al = al := by simp [evAt, Ldg.evs]
theorem evAt_all (s t : Nat) {i : Nat} {al : List Nat} (h : al.length ≤ i) : evAt s t i al = Ldg.evs s t al := by
  unfold evAt; rw [List.take_of_length_le h, List.drop_eq_nil_of_le h, List.append_nil]
theorem evAt_at (s t : Nat) {i : Nat} {al : List Nat} (h : i < al.length) : (evAt s t i al)[i]'(by rw [evAt_len]; exact h) = al[i] := by
  unfold evAt
  have hl : (Ldg.evs s t (al.take i)).length = i := by rw [Ldg.evs_len, List.length_take]; omega
  rw [List.getElem_append_right (by omega)]
  simp only [hl, Nat.sub_self]
  simp
theorem evAt_next (s t : Nat) {i x : Nat} {al : List Nat} (h : i < al.length) (hx : al[i] = x) : evAt s t (i + 1) al = if s + i < t ∧ x = 112 then (evAt s t i al).set i 101 else evAt s t i al := by
  have hl : (Ldg.evs s t (al.take i)).length = i := by rw [Ldg.evs_len, List.length_take]; omega
  have ht : (al.take i).length = i := by rw [List.length_take]; omega
  unfold evAt
  rw [List.take_succ_eq_append_getElem h, evs_add, ht, hx, List.drop_eq_getElem_cons h, hx]
  by_cases hc : s + i < t ∧ x = 112
  · rw [if_pos hc, List.set_append_right _ _ (by omega), hl, Nat.sub_self, List.set_cons_zero]
    simp [Ldg.evs, hc]
  · rw [if_neg hc]
    simp [Ldg.evs, hc]
set_option maxRecDepth 100000 in
set_option maxHeartbeats 3200000 in
theorem revict_any {w : World} {v : Value} {R : Rl} (h : RlAt w v R) (hf : R.Ok) (t : Nat) :
    Calls Try.prog 52 #[v, .int .u64 (t : Int)] w (RTwoE w (R.evict t)) := by
  have HRL := hide h
  obtain ⟨a, c, qs, rfl, hc, hd, hds⟩ := h
  have hmn := rmany_of hf hd
  have hnb := hf.nb
  have hall : ∀ d ∈ R.dests, d.all.length ≤ 10000000 := fun d hd => by have := (hf.each d hd).ends; omega
  obtain ⟨m, hm⟩ : ∃ m, qs.length = m := ⟨_, rfl⟩
  rw [hm] at hc hmn HRL ⊢
  have hlc := fun W (hW : Below w.heap.size w W) => rcopied_any (HRL.out.below hW) hf.many (fun d hd => by have := hall d hd; omega)
  have HLC := hide hlc
  have HALL := hide hall
  have HF := hide hf
  obtain ⟨wA, hwA⟩ : ∃ W, (w.alloc (.cells #[.int .u64 (R.first : Int), .int .u64 (R.next : Int), .slice a m c] 31)).alloc (.cells #[.int .u64 0, .int .u64 0, .slice none 0 0] 31) = W := ⟨_, rfl⟩
  have hbx := RBox2.made w (.int .u64 (R.first : Int)) (.int .u64 (R.next : Int)) a m c
  rw [hwA] at hbx
  have z0 := lcell_of hbx.b0 0 rfl
  have z1 := lcell_of hbx.b0 1 rfl
  have z2 := lcell_of hbx.b0 2 rfl
  have y0 := lcell_of hbx.b1 0 rfl
  have y1 := lcell_of hbx.b1 1 rfl
  have y2 := lcell_of hbx.b1 2 rfl
  have fy := lfrozen_of hbx.b1
  have HBX := hide hbx
  obtain ⟨T, hT⟩ : ∃ T, R.evict t = T := ⟨_, rfl⟩
  rw [hT]
  have HT := hide hT
  clear hlc hm hds hd hf hc hbx hall hT
  by_cases t1 : t < R.first
  · have hT := HT.out
    unfold Rl.evict at hT
    rw [if_pos (.inl t1)] at hT
    subst hT
    clear HT
    go_enter Try.func52, Try.ntmps52
    go_wp2_with fail
    refine bodyPost_ret (v := .tuple #[.agg #[.int .u64 0, .int .u64 0, .slice none 0 0], .int .i64 1]) (by simp [results, Try.results52, go_sem, y0, y1, y2]) rfl ?_
    exact RTwoE.err HBX.out 1 rfl
  · by_cases t2 : R.next < t
    · have hT := HT.out
      unfold Rl.evict at hT
      rw [if_pos (.inr t2)] at hT
      subst hT
      clear HT
      go_enter Try.func52, Try.ntmps52
      go_wp2_with fail
      refine bodyPost_ret (v := .tuple #[.agg #[.int .u64 0, .int .u64 0, .slice none 0 0], .int .i64 1]) (by simp [results, Try.results52, go_sem, y0, y1, y2]) rfl ?_
      exact RTwoE.err HBX.out 1 rfl
    · have hT := HT.out
      unfold Rl.evict at hT
      rw [if_neg (by omega)] at hT
      subst hT
      clear HT
      go_enter Try.func52, Try.ntmps52
      go_wp2_with fail
      refine (HLC.out _ HBX.out.bel).mono ?_
      rintro e w1 ⟨ea, n', ec, ps, rfl, hnp, hps, hown, hb1⟩
      have HX1 := hide (HBX.out.then hb1)
      have hx1 := HX1.out
      have s1 := hx1.size
      have sA := HBX.out.size
      obtain ⟨N, hN⟩ : ∃ N, w1.heap.size = N := ⟨_, rfl⟩
      obtain ⟨G, hG⟩ : ∃ G, wA.heap.size = G := ⟨_, rfl⟩
      rw [hG] at hown sA
      rw [hN] at s1
      have hGN : G ≤ N := by have := hb1.size; omega
      obtain ⟨wB, hwB⟩ : ∃ W, w1.alloc (.cells #[.int .u64 (R.first : Int), .int .u64 (R.next : Int), .slice ea n' ec] 31) = W := ⟨_, rfl⟩
      have o0 : wB.heap[N]? = some (.cells #[.int .u64 (R.first : Int), .int .u64 (R.next : Int), .slice ea n' ec] 31 (0, 0)) := by
        rw [← hwB, ← hN]; show (w1.heap.push _)[w1.heap.size]? = _; simp
      have kB : Below w1.heap.size w1 wB := by rw [← hwB]; exact (Below.refl _ _).alloc (Nat.le_refl _) _
      obtain ⟨wC, hwC⟩ : ∃ W, wB.setCell ⟨N, 0, none⟩ (.int .u64 (t : Int)) = W := ⟨_, rfl⟩
      have o1 : wC.heap[N]? = some (.cells #[.int .u64 (t : Int), .int .u64 (R.next : Int), .slice ea n' ec] 31 (0, 0)) := by
        rw [← hwC]; exact box_set o0 _
      have kC : Below w1.heap.size w1 wC := by rw [← hwC]; exact kB.setCell (p := ⟨N, 0, none⟩) (by show w1.heap.size ≤ N; omega) _
      have t1' := (hx1.then kC).b1
      have sC : wC.heap.size = N + 1 := by rw [← hwC, ← hwB]; simp [World.setCell, hN]
      have x0 := lcell_of o0 0 rfl
      have x1 := lcell_of o0 1 rfl
      have x2 := lcell_of o0 2 rfl
      have fx := lfrozen_of o0
      have HOWN := hide (hown.below kC)
      have HBC := hide (bl hx1.bel kC)
      have HO1 := hide o1
      have HT1 := hide t1'
      have HSC := hide sC
      have HPS := hide hps
      have hld : R.dests.length = n' := by
        have h2 := congrArg List.length hps
        rw [List.length_map] at h2
        omega
      have HLD := hide hld
      have hn4 : n' ≤ 4 := by have := HF.out.many; omega
      clear hx1 hown hps hnp hb1 o0 o1 t1' kB kC sC hG hld z0 z1 z2 y0 y1 y2 fy
      go_wp2_with fail
      clear x0 x1 x2 fx hwB hwC hwA
      go_loopw [7] (fun vi wr => ∃ (k : Nat) (rs : List RV), k ≤ n' ∧ vi = .int .i64 (k : Int) ∧ rs.map Prod.fst = Ldg.upTo (fun d : Rd => { d with all := Ldg.evs d.since t d.all }) k R.dests ∧ OwnR wr G (.slice ea n' ec) rs ∧ Below w.heap.size w wr ∧ N < wr.heap.size ∧
          wr.heap[N]? = some (.cells #[.int .u64 (t : Int), .int .u64 (R.next : Int), .slice ea n' ec] 31 (0, 0)) ∧ wr.heap[w.heap.size + 1]? = some (.cells #[.int .u64 0, .int .u64 0, .slice none 0 0] 31 (0, 0)))
        (fun vi _ => n' - (intOf vi).toNat)
      case atStart => exact ⟨0, ps, Nat.zero_le _, rfl, by rw [Ldg.upTo_zero]; exact HPS.out, HOWN.out, HBC.out, by have := HSC.out; omega, HO1.out, HT1.out⟩
      case round =>
        obtain ⟨k, rs, hk, rfl, hrs, hown, hnx, hNs, ho, ht⟩ := hrel
        have hlr : rs.length = n' := by
          have h1 := congrArg List.length hrs
          rw [List.length_map, Ldg.upTo_len] at h1
          have := HLD.out
          omega
        have c2 := lcell_of ho 2 rfl
        by_cases hlt : k < n'
        · have hkd : k < R.dests.length := by have := HLD.out; omega
          obtain ⟨⟨nm, s, al⟩, hd⟩ : ∃ d, R.dests[k] = d := ⟨_, rfl⟩
          have hok := HF.out.each _ (List.getElem_mem hkd)
          rw [hd] at hok
          have hen := hok.ends
          simp only at hen
          have hset0 : rs.map Prod.fst = (Ldg.upTo (fun d : Rd => { d with all := Ldg.evs d.since t d.all }) k R.dests).set k ⟨nm, s, evAt s t 0 al⟩ := by
            rw [hrs, evAt_zero]
            have h1 := Ldg.upTo_at (fun d : Rd => { d with all := Ldg.evs d.since t d.all }) hkd
            rw [hd] at h1
            rw [← h1, List.set_getElem_self]
          have HS0 := hide hset0
          have HO := hide hown
          have HNX := hide hnx
          have HOO := hide ho
          have HTT := hide ht
          have HNS := hide hNs
          have HDK := hide hd
          have HEN := hide hen
          have HKD := hide hkd
          have HLR := hide hlr
          obtain ⟨wo, hwo⟩ : ∃ wo, wo = wr := ⟨_, rfl⟩
          subst hwo
          obtain ⟨ln, hln⟩ : ∃ x, al.length = x := ⟨_, rfl⟩
          have HLN := hide hln
          clear hset0 hown hnx ho ht hNs hd hok hen hrs hlr hln
          go_wp2_with fail
          clear c2
          go_loopw [8] (fun vi wr => ∃ (i : Nat) (rs : List RV), i ≤ ln ∧ vi = .int .i64 (i : Int) ∧ rs.map Prod.fst = (Ldg.upTo (fun d : Rd => { d with all := Ldg.evs d.since t d.all }) k R.dests).set k ⟨nm, s, evAt s t i al⟩ ∧ OwnR wr G (.slice ea n' ec) rs ∧ Below w.heap.size w wr ∧ N < wr.heap.size ∧
              wr.heap[N]? = some (.cells #[.int .u64 (t : Int), .int .u64 (R.next : Int), .slice ea n' ec] 31 (0, 0)) ∧ wr.heap[w.heap.size + 1]? = some (.cells #[.int .u64 0, .int .u64 0, .slice none 0 0] 31 (0, 0)))
            (fun vi _ => ln - (intOf vi).toNat)
          case atStart => exact ⟨0, rs, Nat.zero_le _, rfl, HS0.out, HO.out, HNX.out, HNS.out, HOO.out, HTT.out⟩
          case round =>
            obtain ⟨i, qs2, hi, rfl, hqs, hown, hnx, hNs, ho, ht⟩ := hrel
            have hql : qs2.length = n' := by
              have h1 := congrArg List.length hqs
              rw [List.length_map, List.length_set, Ldg.upTo_len] at h1
              have := HLD.out
              omega
            have hkq : k < qs2.length := by omega
            obtain ⟨g, rfl, hnn, hBg, hgl⟩ := rown_some hown (by omega)
            clear hnn
            obtain ⟨nm', s', al', va, vc, hz, r0, r1, r2, fz⟩ := hown.get hkq
            have hmem : ((⟨nm', s', al'⟩, .slice va al'.length vc) : RV) ∈ qs2 := by rw [← hz]; exact List.getElem_mem hkq
            have hpd : (⟨nm', s', al'⟩ : Rd) = ⟨nm, s, evAt s t i al⟩ := by
              have h1 : (qs2.map Prod.fst)[k]'(by rw [List.length_map]; exact hkq) = qs2[k].1 := List.getElem_map _
              have h2 : qs2[k].1 = ⟨nm', s', al'⟩ := by rw [hz]
              rw [← h2, ← h1]
              simp only [hqs, List.getElem_set_self]
            simp only [Rd.mk.injEq] at hpd
            obtain ⟨rfl, rfl, rfl⟩ := hpd
            have hal' := evAt_len s' t i al
            have hln := HLN.out
            rw [hal', hln] at r2 hz
            have n2 := lcell_of ho 2 rfl
            have HQS := hide hqs
            have HO2 := hide hown
            have HNX2 := hide hnx
            have HOO2 := hide ho
            have HTT2 := hide ht
            have HNS2 := hide hNs
            have HZ := hide hz
            have HKQ := hide hkq
            by_cases hlti : i < ln
            · have hia : i < al.length := by omega
              have hab := hown.all _ hmem
              simp only at hab
              rw [hal', hln] at hab
              obtain ⟨b, rfl⟩ : ∃ b, va = some ⟨b, 0, none⟩ := by
                rcases hab.2 with ⟨h0, h1⟩ | ⟨gg, cap, cur, e, _⟩
                · omega
                · simp only [Value.slice.injEq] at e; exact ⟨gg, e.1⟩
              obtain ⟨x, hx⟩ : ∃ x, al[i] = x := ⟨_, rfl⟩
              have hil : i < (evAt s' t i al).length := by omega
              have cb : wr.cell? ⟨b, i, none⟩ = some (.int .u8 (x : Int)) := by
                rw [World.ownsRow.cellAt hab i (by omega)]
                have := evAt_at s' t hia
                rw [hx] at this
                simp [bV, hil, this]
              have fb : ∀ j, wr.frozen? ⟨b, j, none⟩ = false := fun j => hab.frozenAt _
              have hnext := evAt_next s' t hia hx
              have HNE := hide hnext
              obtain ⟨si, hsi⟩ : ∃ y, s' + i = y := ⟨_, rfl⟩
              have u1 : (s' : Int) + (i : Int) = (si : Int) := by omega
              have hsib : si ≤ 10000000 := by have := HEN.out; omega
              have u2 : IntKind.u64.wrap (i : Int) = (i : Int) := by rw [IntKind.wrap_u64]; omega
              have u3 : IntKind.u64.wrap (si : Int) = (si : Int) := by rw [IntKind.wrap_u64]; omega
              rw [hsi] at HNE
              have hbN : N ≠ b := fun e => by
                obtain ⟨cc, hcc⟩ := kind_of hab (g := b) rfl
                rw [← e, ho] at hcc
                simp only [Option.some.injEq, Obj.cells.injEq] at hcc
                exact absurd hcc.2.1 (by decide)
              have hbG : G ≤ b := (lown_lt hab (g := b) rfl).2
              clear hmem hqs hown hnx hNs ho ht hz hab hil hnext hal' hln hx hia hsi
              by_cases hc : si < t ∧ x = 112
              · obtain ⟨hc1, rfl⟩ := hc
                have hn3 := HNE.out
                rw [if_pos ⟨hc1, rfl⟩] at hn3
                have hse := HO2.out.setAll HKQ.out HZ.out i 101
                obtain ⟨wE, hwE⟩ : ∃ W, wr.setCell ⟨b, i, none⟩ (.int .u8 101) = W := ⟨_, rfl⟩
                have kE : Kept (fun x => x ≠ b) wr wE := by rw [← hwE]; exact Kept.setCell (Kept.refl _ _) (fun _ h e => h e) _
                have hse2 : OwnR wE G (.slice (some ⟨g, 0, none⟩) n' ec) (qs2.set k (⟨nm', s', (evAt s' t i al).set i 101⟩, .slice (some ⟨b, 0, none⟩) ln vc)) := by rw [← hwE]; exact hse
                have oE := (kE.block N hbN).trans HOO2.out
                have tE := (kE.block (w.heap.size + 1) (by omega)).trans HTT2.out
                have lE := HNX2.out.trans (kE.bel (B := w.heap.size) (fun x hx => by omega))
                have sE : N < wE.heap.size := Nat.lt_of_lt_of_le HNS2.out kE.size
                have mE : (qs2.set k (⟨nm', s', (evAt s' t i al).set i 101⟩, .slice (some ⟨b, 0, none⟩) ln vc)).map Prod.fst = (Ldg.upTo (fun d : Rd => { d with all := Ldg.evs d.since t d.all }) k R.dests).set k ⟨nm', s', evAt s' t (i + 1) al⟩ := by
                  rw [map_set2, HQS.out, List.set_set, hn3]
                have HSE := hide hse2
                have HOE := hide oE
                have HTE := hide tE
                have HLE := hide lE
                have HME := hide mE
                clear hse hse2 kE oE tE lE mE hn3
                go_wp2_with fail
                go_roundw
                case rel => exact ⟨i + 1, _, by omega, by go_num, HME.out, HSE.out, HLE.out, sE, HOE.out, HTE.out⟩
                case measure => simp [intOf]; omega
              · have hn3 := HNE.out
                rw [if_neg hc] at hn3
                have mE : qs2.map Prod.fst = (Ldg.upTo (fun d : Rd => { d with all := Ldg.evs d.since t d.all }) k R.dests).set k ⟨nm', s', evAt s' t (i + 1) al⟩ := by rw [hn3]; exact HQS.out
                have HME := hide mE
                clear mE hn3
                by_cases hc1 : si < t
                · have hx2 : ¬ x = 112 := fun e => hc ⟨hc1, e⟩
                  have hxe : ((x : Int) == 112) = false := beq_eq_false_iff_ne.2 (by omega)
                  go_wp2_with fail
                  go_roundw
                  case rel => exact ⟨i + 1, qs2, by omega, by go_num, HME.out, HO2.out, HNX2.out, HNS2.out, HOO2.out, HTT2.out⟩
                  case measure => simp [intOf]; omega
                · have hc2 : ¬ (si : Int) < (t : Int) := by omega
                  go_wp2_with fail
                  go_roundw
                  case rel => exact ⟨i + 1, qs2, by omega, by go_num, HME.out, HO2.out, HNX2.out, HNS2.out, HOO2.out, HTT2.out⟩
                  case measure => simp [intOf]; omega
            · have hin : i = ln := by omega
              subst hin
              have mE : qs2.map Prod.fst = Ldg.upTo (fun d : Rd => { d with all := Ldg.evs d.since t d.all }) (k + 1) R.dests := by
                rw [hqs, evAt_all _ _ (by omega)]
                have h1 := Ldg.upTo_next (fun d : Rd => { d with all := Ldg.evs d.since t d.all }) HKD.out
                rw [← h1, HDK.out]
              have HME := hide mE
              clear hmem hqs hown hnx hNs ho ht hz mE hal' hln
              go_wp2_with fail
              go_roundw
              case rel => exact ⟨k + 1, qs2, by omega, by go_num, HME.out, HO2.out, HNX2.out, HNS2.out, HOO2.out, HTT2.out⟩
              case measure => simp [intOf]; omega
        · have hkn : k = n' := by omega
          subst hkn
          have d0 := lcell_of ht 0 rfl
          have d1 := lcell_of ht 1 rfl
          have d2 := lcell_of ht 2 rfl
          have fd := lfrozen_of ht
          have c0 := lcell_of ho 0 rfl
          have c1 := lcell_of ho 1 rfl
          have HO := hide hown
          have HB := hide hnx
          have HTT := hide ht
          have hrs2 : rs.map Prod.fst = R.dests.map (fun d : Rd => { d with all := Ldg.evs d.since t d.all }) := by
            rw [hrs, Ldg.upTo_all _ _ (by have := HLD.out; omega)]
          have HRS := hide hrs2
          clear hrs hown hnx ho ht hrs2 hNs hlr
          go_wp2_with fail
          refine bodyPost_ret (v := .tuple #[.agg #[.int .u64 (t : Int), .int .u64 (R.next : Int), .slice ea k ec], .int .i64 0]) (by simp [results, Try.results52, go_sem, d0, d1, d2]) rfl ?_
          have hfin := rled_told (w := w) (first := t) (next := R.next) HO.out HTT.out HB.out (.int .u64 (t : Int)) (.int .u64 (R.next : Int)) rfl rfl rfl
          rw [HRS.out] at hfin
          exact ⟨_, rfl, hfin⟩
end Go.Proofs.Ytjbdofjheeljkaa
