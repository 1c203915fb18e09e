/-
  label.takePair, label.Take.
-/
import Derived.Test.YtbjcphefaciihaaLabTakeM
import Derived.Test.YtbjcphefaciihaaNameW
import Derived.Test.YtbjcphefaciihaaTakeCW
import Derived.Test.YtbjcphefaciihaaLabOwnW
import Derived.Test.YtbjcphefaciihaaCalm
namespace Go.Proofs.Ytbjcphefaciihaa
open Go.RowKit
open Lab (Pr)

theorem tt_ok (s : ByteArray) (most : Nat) (w : World) (hs : s.size ≤ maxLen) (hm : most ≤ 1000) {x y : List UInt8} (h : Lab.tt s.data.toList most = some (x, y)) :
    Calls Try.prog 74 #[.string s, .int .i64 (most : Int)] w fun e w' => e = .returned (.tuple #[.string (Num.bs x), .string (Num.bs y), .int .i64 0]) ∧ Below w.heap.size w w' := by
  unfold Lab.tt at h
  split at h
  · cases h
  · rename_i n r hn
    split at h
    · cases h
    · split at h
      · cases h
      · rename_i h1 h2
        simp only [Option.some.injEq, Prod.mk.injEq] at h
        obtain ⟨rfl, rfl⟩ := h
        exact takeText_some s most w hs (by omega) (by omega) hn (by unfold mostOf; rw [if_neg (by omega)]; omega) h2
theorem tt_no (s : ByteArray) (most : Nat) (w : World) (hs : s.size ≤ maxLen) (hm : most ≤ 1000) (h : Lab.tt s.data.toList most = none) :
    Calls Try.prog 74 #[.string s, .int .i64 (most : Int)] w fun e w' => ∃ c : Int, e = .returned (.tuple #[.string ⟨#[]⟩, .string ⟨#[]⟩, .int .i64 c]) ∧ (c != 0) = true ∧ Below w.heap.size w w' := by
  unfold Lab.tt at h
  split at h
  · rename_i hn
    have := takeText_any s most w hs (by omega) (by omega)
    rw [← takeTextV_none hn] at this
    exact this.mono fun e w' ⟨he, hb⟩ => ⟨2, he, rfl, hb⟩
  · rename_i n r hn
    split at h
    · rename_i h1
      exact (takeText_long s most w hs (by omega) (by omega) hn (by unfold mostOf; rw [if_neg (by omega)]; omega)).mono fun e w' ⟨he, hb⟩ => ⟨7, he, rfl, hb⟩
    · split at h
      · rename_i h1 h2
        exact (takeText_short s most w hs (by omega) (by omega) hn (by unfold mostOf; rw [if_neg (by omega)]; omega) h2).mono fun e w' ⟨he, hb⟩ => ⟨2, he, rfl, hb⟩
      · cases h

theorem tt_len {l x y : List UInt8} {most : Nat} (h : Lab.tt l most = some (x, y)) : y.length ≤ l.length ∧ x.length ≤ l.length := by
  have := (Lab.tt_of h).1
  have e : (Num.bs x).data.toList.length = x.length := rfl
  rw [this]; simp only [Lab.txt, List.length_append]; omega

/-- The two cells of a new block, later. -/
theorem two_later {w w1 : World} {x y : Value} {t : TypeId} (hb : Below (w.alloc (.cells #[x, y] t)).heap.size (w.alloc (.cells #[x, y] t)) w1) :
    w1.cell? ⟨w.heap.size, 0, none⟩ = some x ∧ w1.cell? ⟨w.heap.size, 1, none⟩ = some y ∧ w1.frozen? ⟨w.heap.size, 0, none⟩ = false ∧ w1.frozen? ⟨w.heap.size, 1, none⟩ = false := by
  refine ⟨?_, ?_, ?_, ?_⟩
  · rw [hb.cell (p := ⟨w.heap.size, 0, none⟩) (by simp)]; simp
  · rw [hb.cell (p := ⟨w.heap.size, 1, none⟩) (by simp)]; simp
  · rw [hb.frozen (p := ⟨w.heap.size, 0, none⟩) (by simp), World.frozen?_alloc_at _ _ _ _ rfl]
  · rw [hb.frozen (p := ⟨w.heap.size, 1, none⟩) (by simp), World.frozen?_alloc_at _ _ _ _ rfl]
theorem set_two {w : World} {b : Nat} {x y : Value} (hx : w.cell? ⟨b, 0, none⟩ = some x) (hy : w.cell? ⟨b, 1, none⟩ = some y) (u v : Value) :
    ((w.setCell ⟨b, 0, none⟩ u).setCell ⟨b, 1, none⟩ v).cell? ⟨b, 0, none⟩ = some u ∧ ((w.setCell ⟨b, 0, none⟩ u).setCell ⟨b, 1, none⟩ v).cell? ⟨b, 1, none⟩ = some v := by
  constructor
  · rw [World.cell?_setCell_other _ _ _ _ (fun c => by have := congrArg Addr.off c; simp at this), World.cell?_setCell_same _ _ _ hx]
  · have : (w.setCell ⟨b, 0, none⟩ u).cell? ⟨b, 1, none⟩ = some y := by
      rw [World.cell?_setCell_other _ _ _ _ (fun c => by have := congrArg Addr.off c; simp at this), hy]
    rw [World.cell?_setCell_same _ _ _ this]
theorem cell_alloc {w : World} {a : Addr} {v : Value} (h : w.cell? a = some v) (o : Obj) : (w.alloc o).cell? a = some v :=
  (((Below.refl _ _).alloc (Nat.le_refl _) o).cell (World.block_lt_of_cell? w a h)).trans h
theorem own_ne_new {w : World} {B : Nat} {v : Value} {ps : List Pr} (h : OwnP w B v ps) : some w.heap.size ≠ v.ownBlock := fun e => by
  have := (World.ownsRow.lt h _ e.symm).2
  omega
theorem bel_al {w w1 : World} {o : Obj} (hb : Below (w.alloc o).heap.size (w.alloc o) w1) : Below w.heap.size w w1 := bl ((Below.refl _ _).alloc (Nat.le_refl _) o) hb

def pairV (l : List UInt8) : Value :=
  match Lab.takeP l with
  | none => .tuple #[.agg #[.string ⟨#[]⟩, .string ⟨#[]⟩], .string ⟨#[]⟩, .int .i64 2]
  | some (p, r) => .tuple #[.agg #[.string p.1, .string p.2], .string (Num.bs r), .int .i64 0]

set_option maxRecDepth 100000 in
set_option maxHeartbeats 1600000 in
theorem takePair_any (s : ByteArray) (w : World) (hs : s.size ≤ maxLen) :
    Calls Try.prog 56 #[.string s] w fun e w' => e = .returned (pairV s.data.toList) ∧ Below w.heap.size w w' := by
  cases h1 : Lab.tt s.data.toList 20 with
  | none =>
    have hv : pairV s.data.toList = .tuple #[.agg #[.string ⟨#[]⟩, .string ⟨#[]⟩], .string ⟨#[]⟩, .int .i64 2] := by simp [pairV, Lab.takeP, h1]
    rw [hv]
    have HT := fun wx => hide (tt_no s 20 wx hs (by omega) h1)
    clear hv h1
    go_enter Try.func56, Try.ntmps56
    go_wp2_with fail
    refine (HT _).out.mono ?_
    rintro e w1 ⟨c, rfl, hc, hb1⟩
    obtain ⟨p1, p2, p3, p4⟩ := two_later hb1
    have hbz := bel_al hb1
    clear hb1
    go_wp2
    have r1 := (set_two p1 p2 (.string ⟨#[]⟩) (.string ⟨#[]⟩)).1
    have r2 := (set_two p1 p2 (.string ⟨#[]⟩) (.string ⟨#[]⟩)).2
    refine bodyPost_ret (v := .tuple #[.agg #[.string ⟨#[]⟩, .string ⟨#[]⟩], .string ⟨#[]⟩, .int .i64 2]) (by simp [results, Try.results56, go_sem, r1, r2]) rfl ?_
    exact ⟨rfl, (hbz.setCell (Nat.le_refl _) _).setCell (Nat.le_refl _) _⟩
  | some q =>
    obtain ⟨x, y⟩ := q
    have hxy := tt_len h1
    have hsl : s.data.toList.length = s.size := rfl
    have HT := fun wx => hide (tt_ok s 20 wx hs (by omega) h1)
    have hxs : (Num.bs x).size ≤ 9223372036854775807 := by rw [Num.bs_size]; unfold maxLen at hs; omega
    have hys : (Num.bs y).size ≤ maxLen := by rw [Num.bs_size]; omega
    cases hn : Lab.isName (Num.bs x) with
    | false =>
      have hv : pairV s.data.toList = .tuple #[.agg #[.string ⟨#[]⟩, .string ⟨#[]⟩], .string ⟨#[]⟩, .int .i64 2] := by simp [pairV, Lab.takeP, h1, hn]
      rw [hv]
      clear hv h1 hxy hsl
      go_enter Try.func56, Try.ntmps56
      go_wp2_with fail
      refine (HT _).out.mono ?_
      rintro e w1 ⟨rfl, hb1⟩
      obtain ⟨p1, p2, p3, p4⟩ := two_later hb1
      have hbz := bel_al hb1
      clear hb1
      go_wp2_with fail
      refine (name_any _ _ hxs).mono ?_
      rw [hn]
      rintro e w2 ⟨rfl, rfl⟩
      go_wp2
      have r1 := (set_two p1 p2 (.string ⟨#[]⟩) (.string ⟨#[]⟩)).1
      have r2 := (set_two p1 p2 (.string ⟨#[]⟩) (.string ⟨#[]⟩)).2
      refine bodyPost_ret (v := .tuple #[.agg #[.string ⟨#[]⟩, .string ⟨#[]⟩], .string ⟨#[]⟩, .int .i64 2]) (by simp [results, Try.results56, go_sem, r1, r2]) rfl ?_
      exact ⟨rfl, (hbz.setCell (Nat.le_refl _) _).setCell (Nat.le_refl _) _⟩
    | true =>
      cases h2 : Lab.tt y 40 with
      | none =>
        have hv : pairV s.data.toList = .tuple #[.agg #[.string ⟨#[]⟩, .string ⟨#[]⟩], .string ⟨#[]⟩, .int .i64 2] := by simp [pairV, Lab.takeP, h1, hn, h2]
        rw [hv]
        have HU := fun wx => hide (tt_no (Num.bs y) 40 wx hys (by omega) h2)
        clear hv h1 hxy hsl h2
        go_enter Try.func56, Try.ntmps56
        go_wp2_with fail
        refine (HT _).out.mono ?_
        rintro e w1 ⟨rfl, hb1⟩
        go_wp2_with fail
        refine (name_any _ _ hxs).mono ?_
        rw [hn]
        rintro e w2 ⟨rfl, rfl⟩
        go_wp2_with fail
        refine (HU _).out.mono ?_
        rintro e w3 ⟨c, rfl, hc, hb3⟩
        obtain ⟨p1, p2, p3, p4⟩ := two_later (bl hb1 hb3)
        have hbz := bel_al (bl hb1 hb3)
        clear hb1 hb3
        go_wp2
        have r1 := (set_two p1 p2 (.string ⟨#[]⟩) (.string ⟨#[]⟩)).1
        have r2 := (set_two p1 p2 (.string ⟨#[]⟩) (.string ⟨#[]⟩)).2
        refine bodyPost_ret (v := .tuple #[.agg #[.string ⟨#[]⟩, .string ⟨#[]⟩], .string ⟨#[]⟩, .int .i64 2]) (by simp [results, Try.results56, go_sem, r1, r2]) rfl ?_
        exact ⟨rfl, (hbz.setCell (Nat.le_refl _) _).setCell (Nat.le_refl _) _⟩
      | some q =>
        obtain ⟨u, v⟩ := q
        have hv : pairV s.data.toList = .tuple #[.agg #[.string (Num.bs x), .string (Num.bs u)], .string (Num.bs v), .int .i64 0] := by simp [pairV, Lab.takeP, h1, hn, h2]
        rw [hv]
        have HU := fun wx => hide (tt_ok (Num.bs y) 40 wx hys (by omega) h2)
        clear hv h1 hxy hsl h2
        go_enter Try.func56, Try.ntmps56
        go_wp2_with fail
        refine (HT _).out.mono ?_
        rintro e w1 ⟨rfl, hb1⟩
        go_wp2_with fail
        refine (name_any _ _ hxs).mono ?_
        rw [hn]
        rintro e w2 ⟨rfl, rfl⟩
        go_wp2_with fail
        refine (HU _).out.mono ?_
        rintro e w3 ⟨rfl, hb3⟩
        obtain ⟨p1, p2, p3, p4⟩ := two_later (bl hb1 hb3)
        have hbz := bel_al (bl hb1 hb3)
        clear hb1 hb3
        go_wp2
        have r1 := (set_two p1 p2 (.string (Num.bs x)) (.string (Num.bs u))).1
        have r2 := (set_two p1 p2 (.string (Num.bs x)) (.string (Num.bs u))).2
        refine bodyPost_ret (v := .tuple #[.agg #[.string (Num.bs x), .string (Num.bs u)], .string (Num.bs v), .int .i64 0]) (by simp [results, Try.results56, go_sem, r1, r2]) rfl ?_
        exact ⟨rfl, (hbz.setCell (Nat.le_refl _) _).setCell (Nat.le_refl _) _⟩

theorem takePair_none (s : ByteArray) (w : World) (hs : s.size ≤ maxLen) (h : Lab.takeP s.data.toList = none) :
    Calls Try.prog 56 #[.string s] w fun e w' => e = .returned (.tuple #[.agg #[.string ⟨#[]⟩, .string ⟨#[]⟩], .string ⟨#[]⟩, .int .i64 2]) ∧ Below w.heap.size w w' := by
  have := takePair_any s w hs
  rwa [pairV, h] at this
theorem takePair_some (s : ByteArray) (w : World) (hs : s.size ≤ maxLen) {p : Pr} {r : List UInt8} (h : Lab.takeP s.data.toList = some (p, r)) :
    Calls Try.prog 56 #[.string s] w fun e w' => e = .returned (.tuple #[.agg #[.string p.1, .string p.2], .string (Num.bs r), .int .i64 0]) ∧ Below w.heap.size w w' := by
  have := takePair_any s w hs
  rwa [pairV, h] at this

/-- What is still to come, behind what was taken. -/
def joinR (ps : List Pr) (o : Option (List Pr × List UInt8)) : Option (List Pr × List UInt8) := o.map (fun q => (ps ++ q.1, q.2))
theorem joinR_none {ps : List Pr} {m : Nat} {la : ByteArray} {r : List UInt8} (h : Lab.takeP r = none) : joinR ps (Lab.takeK (m + 1) la r) = none := by simp [joinR, Lab.takeK, h]
theorem joinR_low {ps : List Pr} {m : Nat} {la : ByteArray} {r r' : List UInt8} {p : Pr} (h : Lab.takeP r = some (p, r')) (hl : Lab.lt la p.1 = false) : joinR ps (Lab.takeK (m + 1) la r) = none := by simp [joinR, Lab.takeK, h, hl]
theorem joinR_on {ps : List Pr} {m : Nat} {la : ByteArray} {r r' : List UInt8} {p : Pr} (h : Lab.takeP r = some (p, r')) (hl : Lab.lt la p.1 = true) : joinR ps (Lab.takeK (m + 1) la r) = joinR (ps ++ [p]) (Lab.takeK m p.1 r') := by
  simp only [joinR, Lab.takeK, h, hl]
  cases Lab.takeK m p.1 r' with
  | none => simp
  | some q => simp
theorem takeP_len {l r : List UInt8} {p : Pr} (h : Lab.takeP l = some (p, r)) : r.length ≤ l.length := by
  rw [(Lab.takeP_of h).1]; simp only [List.length_append]; omega
theorem takeL_start {l r : List UInt8} {n : Nat} (h : Num.take l = some (n, r)) (h8 : ¬ 8 < n) : Lab.takeL l = joinR [] (Lab.takeK n ⟨#[]⟩ r) := by
  simp only [Lab.takeL, h, if_neg h8, joinR]
  cases Lab.takeK n ⟨#[]⟩ r <;> simp

set_option maxRecDepth 100000 in
set_option maxHeartbeats 3200000 in
theorem ltake_any (s : ByteArray) (w : World) (hs : s.size ≤ 100000) :
    Calls Try.prog 32 #[.string s] w fun e w' => ((Lab.takeL s.data.toList = none ∧ e = .returned (.tuple #[.slice none 0 0, .string ⟨#[]⟩, .int .i64 2])) ∨ ∃ ps r v, Lab.takeL s.data.toList = some (ps, r) ∧ e = .returned (.tuple #[v, .string (Num.bs r), .int .i64 0]) ∧ OwnP w' w.heap.size v ps) ∧ Below w.heap.size w w' := by
  have hsl : s.data.toList.length = s.size := rfl
  have hsm : s.size ≤ maxLen := by unfold maxLen; omega
  cases h1 : Num.take s.data.toList with
  | none =>
    have hL : Lab.takeL s.data.toList = none := by simp [Lab.takeL, h1]
    have HL := hide hL
    have HT := hide (fun wx => take_none s wx hsm h1)
    clear hL h1 hsl
    go_enter Try.func32, Try.ntmps32
    go_wp2_with fail
    refine (HT.out _).mono ?_
    rintro e w1 ⟨rfl, hb1⟩
    go_wp2
    go_ret3
    exact ⟨.inl ⟨HL.out, rfl⟩, hb1⟩
  | some q =>
    obtain ⟨n, r0⟩ := q
    have HT := hide (fun wx => take_some s wx hsm h1)
    by_cases h8 : 8 < n
    · have hL : Lab.takeL s.data.toList = none := by simp [Lab.takeL, h1, h8]
      have HL := hide hL
      have hn := Num.take_lt h1
      have h8' : (8 : Int) < (n : Int) := by omega
      clear hL h1 hsl
      go_enter Try.func32, Try.ntmps32
      go_wp2_with fail
      refine (HT.out _).mono ?_
      rintro e w1 ⟨rfl, hb1⟩
      go_wp2
      go_ret3
      exact ⟨.inl ⟨HL.out, rfl⟩, hb1⟩
    · obtain ⟨i0, hi, hz0, hz1, hz2⟩ := info_parts info_pair
      have HL := hide (takeL_start h1 h8)
      have hr0 : r0.length ≤ s.size := by
        have := (Num.of_take h1).1
        rw [← hsl, this]; simp
      clear h1 hsl
      go_enter Try.func32, Try.ntmps32
      go_wp2_with fail
      refine (HT.out _).mono ?_
      rintro e w1 ⟨rfl, hb1⟩
      have hsz1 := hb1.size
      go_wp2
      go_loopw [6, 8, 9, 24] (fun rest v last i wr => ∃ (k : Nat) (ps : List Pr) (la : ByteArray) (r : List UInt8), k ≤ n ∧ i = .int .u64 (k : Int) ∧ rest = .string (Num.bs r) ∧ last = .string la ∧ ps.length = k ∧ OwnP wr w.heap.size v ps ∧ r.length ≤ s.size ∧ Lab.takeL s.data.toList = joinR ps (Lab.takeK (n - k) la r) ∧ Below w.heap.size w wr)
        (fun _ _ _ i _ => n - (intOf i).toNat)
      case atStart => exact ⟨0, [], ⟨#[]⟩, r0, Nat.zero_le _, rfl, rfl, rfl, rfl, OwnP.nil _ _, hr0, HL.out, hb1⟩
      case round =>
        obtain ⟨k, ps, la, r, hk, rfl, rfl, rfl, hpl, hown, hrl, hJ, hnx⟩ := hrel
        have hsz := hnx.size
        have HPL := hide hpl
        clear HL
        by_cases hlt : k < n
        · obtain ⟨m, hm⟩ : ∃ m, n - k = m + 1 := ⟨n - k - 1, by omega⟩
          rw [hm] at hJ
          have hrs : (Num.bs r).size ≤ maxLen := by rw [Num.bs_size]; unfold maxLen; omega
          cases hp : Lab.takeP r with
          | none =>
            have HN := hide (hJ.trans (joinR_none hp))
            have HP := hide (fun wx => takePair_none (Num.bs r) wx hrs hp)
            clear hJ hp hpl
            go_wp2_with fail
            refine (HP.out _).mono ?_
            rintro e w2 ⟨rfl, hb2⟩
            obtain ⟨p1, p2, p3, p4⟩ := two_later hb2
            have hbz := bl hnx (bel_al hb2)
            clear hb2
            go_wp2
            go_ret3
            exact ⟨.inl ⟨HN.out, rfl⟩, (hbz.setCell hsz _).setCell hsz _⟩
          | some q =>
            obtain ⟨⟨pn, pv⟩, r'⟩ := q
            have HP := hide (fun wx => takePair_some (Num.bs r) wx hrs hp)
            have hle := Lab.leq_iff pn la
            cases hlow : Lab.lt la pn with
            | false =>
              have HN := hide (hJ.trans (joinR_low hp hlow))
              rw [hlow] at hle
              clear hJ hp hpl
              go_wp2_with fail
              refine (HP.out _).mono ?_
              rintro e w2 ⟨rfl, hb2⟩
              obtain ⟨p1, p2, p3, p4⟩ := two_later hb2
              have hbz := bl hnx (bel_al hb2)
              clear hb2
              go_wp2
              go_ret3
              exact ⟨.inl ⟨HN.out, rfl⟩, (hbz.setCell hsz _).setCell hsz _⟩
            | true =>
              have HN := hide (hJ.trans (joinR_on hp hlow))
              have hr' := takeP_len hp
              rw [hlow] at hle
              clear hJ hp hpl
              go_wp2_with fail
              refine (HP.out _).mono ?_
              rintro e w2 ⟨rfl, hb2⟩
              obtain ⟨p1, p2, p3, p4⟩ := two_later hb2
              have hbw : Below wr.heap.size wr ((w2.setCell ⟨wr.heap.size, 0, none⟩ (.string pn)).setCell ⟨wr.heap.size, 1, none⟩ (.string pv)) := ((bel_al hb2).setCell (Nat.le_refl _) _).setCell (Nat.le_refl _) _
              have hown2 := hown.below hbw
              have HNE := hide (own_ne_new hown)
              have hcq := (set_two p1 p2 (.string pn) (.string pv)).1
              have hbz := bl hnx hbw
              have hszz := hbz.size
              have HOW := hide hown2
              unfold OwnP at hown2
              rw [HPL.out] at hown2
              clear hb2 hown
              go_wp2_with (at_builtin; refine wpList_append_own _ rfl _ _ 22 rfl w.heap.size 53 i0 _ 2 32 Try.underlying22 hi hz0 hz1 hz2 rfl (by decide) _ _ _ rfl (hown2.alloc _) ⟨w2.heap.size, 0, none⟩ 1 1 [.string pn, .string pv] rfl rfl ?c1 ?c2 ?c3 ?c4 ?c5 ?_)
              case c1 => exact cells_two_at _ _ _ _ _ (by simp)
              case c2 => intro u hu; simp at hu; rcases hu with rfl | rfl <;> rfl
              case c3 => unfold maxLen; omega
              case c4 => omega
              case c5 => simp; simp at hszz; omega
              intro v' w4 hown' hgrow _
              have R := own_step2 HPL.out.symm hszz (hown2.alloc _) hbz hown' hgrow
              have hcq4 := hgrow.cell (a := ⟨wr.heap.size, 0, none⟩) (cell_alloc hcq _) HNE.out
              clear hown2 hown' hgrow hcq
              go_wp2
              go_roundw
              case rel => exact ⟨k + 1, ps ++ [(pn, pv)], pn, r', by omega, by go_num, rfl, rfl, by simp [HPL.out], R.1, by omega, by rw [HN.out, show n - (k + 1) = m by omega], R.2⟩
              case measure => simp [intOf]; omega
        · have h0 : n - k = 0 := by omega
          rw [h0] at hJ
          have HN : Hid (Lab.takeL s.data.toList = some (ps, r)) := by rw [hJ]; simp [joinR, Lab.takeK, Hid]
          clear hJ hpl h0
          go_wp2
          go_ret3
          exact ⟨.inr ⟨ps, r, _, HN.out, rfl, hown⟩, hnx⟩

end Go.Proofs.Ytbjcphefaciihaa
