/-
  The program's entries: Check, Put, Series.
-/
import Derived.Test.YtbjcphefaciihaaEntMath
import Derived.Test.YtbjcphefaciihaaLabelBackW
import Derived.Test.YtbjcphefaciihaaSampleBackW
namespace Go.Proofs.Ytbjcphefaciihaa
open Go.RowKit
open Lab (Pr)
open Smp (Sm)

/-- An entry's labels and samples lie where its two slices lead. -/
def EntIn (w : World) (a : Option Addr) (ca : Nat) (l : List Pr) (b : Option Addr) (cb : Nat) (s : List Sm) : Prop :=
  PairsAt w a l ∧ l.length ≤ ca ∧ SmpsAt w b s ∧ s.length ≤ cb
theorem EntIn.below {w w' : World} {a : Option Addr} {ca : Nat} {l : List Pr} {b : Option Addr} {cb : Nat} {s : List Sm} (h : EntIn w a ca l b cb s) (hb : Below w.heap.size w w') : EntIn w' a ca l b cb s :=
  ⟨h.1.below hb, h.2.1, h.2.2.1.below hb, h.2.2.2⟩
theorem EntIn.alloc {w : World} {a : Option Addr} {ca : Nat} {l : List Pr} {b : Option Addr} {cb : Nat} {s : List Sm} (h : EntIn w a ca l b cb s) (o : Obj) : EntIn (w.alloc o) a ca l b cb s :=
  h.below ((Below.refl _ _).alloc (Nat.le_refl _) o)
theorem bel_alloc (w : World) (o : Obj) : Below w.heap.size w (w.alloc o) := (Below.refl _ _).alloc (Nat.le_refl _) o
/-- What a walk must know of an entry's size. -/
def EntSm (l : List Pr) (s : List Sm) : Prop := Small l ∧ s.length ≤ 9223372036854775807 ∧ ∀ x ∈ s, Smp.Ok x

theorem lput_form (a : Option Addr) (cap : Nat) (l : List Pr) (w : World) (hp : PairsAt w a l) (hcap : l.length ≤ cap) (hs : Small l) :
    Calls Try.prog 30 #[.slice a l.length cap] w fun e w' => e = .returned (.tuple #[.string (Ent.lput l), .int .i64 (Lab.check l : Int)]) ∧ Below w.heap.size w w' := by
  by_cases h : Lab.check l = 0
  · have := lput_good a cap l w hp hcap (Lab.check_zero.1 h)
    rw [Ent.lput_ok (Lab.check_zero.1 h), h]; exact this
  · have := lput_bad a cap l w hp hcap hs h
    unfold Ent.lput; rw [if_neg h]; exact this
theorem lput_size (l : List Pr) : (Ent.lput l).size ≤ 50000 := by
  unfold Ent.lput
  split
  · rename_i h
    rw [Num.bs_size]; exact Lab.putL_len (Lab.canon_right (Lab.check_zero.1 h))
  · decide
theorem sput_size {l : List Sm} (ho : ∀ x ∈ l, Smp.Ok x) : (putRes l).size ≤ 500 := by
  unfold putRes
  split
  · rename_i h
    rw [Num.bs_size]; exact Smp.putS_len h ho
  · decide
theorem put_join {l : List Pr} {s : List Sm} (h : Lab.check l = 0) (k : Smp.check s = 0) : Ent.lput l ++ putRes s = Ent.put l s := by
  rw [Ent.put_ok (Lab.check_zero.1 h) k, Ent.lput_ok (Lab.check_zero.1 h), putRes_ok k]
  apply ByteArray.ext; simp [Num.bs]

set_option maxRecDepth 100000 in
set_option maxHeartbeats 800000 in
theorem echeck_any (a : Option Addr) (ca : Nat) (l : List Pr) (b : Option Addr) (cb : Nat) (s : List Sm) (w : World) (hp : EntIn w a ca l b cb s) (hs : EntSm l s) :
    Calls Try.prog 18 #[.agg #[.slice a l.length ca, .slice b s.length cb]] w fun e w' => e = .returned (.int .i64 (Ent.check l s)) ∧ Below w.heap.size w w' := by
  have HC := hide (fun wx (hb : Below w.heap.size w wx) => check_any a ca l wx (hp.1.below hb) hs.1.1 hp.2.1 hs.1.2)
  have HS := hide (fun wx (hb : Below w.heap.size w wx) => scheck_any b cb s wx (hp.2.2.1.below hb) hp.2.2.2 hs.2.1)
  clear hp hs
  by_cases h : Lab.check l = 0
  · rw [Ent.check_smp h]
    rw [h] at HC
    go_enter Try.func18, Try.ntmps18
    go_wp2_with fail
    refine (HC.out _ (bel_alloc w _)).mono ?_
    rintro e w1 ⟨rfl, hb1⟩
    obtain ⟨c0, c1, _, _⟩ := two_later hb1
    have hb2 := bel_al hb1
    clear hb1
    go_wp2_with fail
    refine (HS.out _ hb2).mono ?_
    rintro e w2 ⟨rfl, hb3⟩
    have hb4 := bl hb2 hb3
    go_wp2
    go_ret
    exact ⟨rfl, hb4⟩
  · rw [Ent.check_lab h]
    have hn : ((Lab.check l : Int) != 0) = true := bne_iff_ne.2 (by omega)
    go_enter Try.func18, Try.ntmps18
    go_wp2_with fail
    refine (HC.out _ (bel_alloc w _)).mono ?_
    rintro e w1 ⟨rfl, hb1⟩
    have hb2 := bel_al hb1
    clear hb1
    go_wp2
    go_ret
    exact ⟨rfl, hb2⟩

set_option maxRecDepth 100000 in
set_option maxHeartbeats 800000 in
theorem eseries_any (a : Option Addr) (ca : Nat) (l : List Pr) (b : Option Addr) (cb : Nat) (s : List Sm) (w : World) (hp : PairsAt w a l) (hc : l.length ≤ ca) (hs : Small l) :
    Calls Try.prog 16 #[.agg #[.slice a l.length ca, .slice b s.length cb]] w fun e w' => e = .returned (.tuple #[.string (Ent.lput l), .int .i64 (Lab.check l : Int)]) ∧ Below w.heap.size w w' := by
  have HL := hide (fun wx (hb : Below w.heap.size w wx) => lput_form a ca l wx (hp.below hb) hc hs)
  clear hp hs
  go_enter Try.func16, Try.ntmps16
  go_wp2_with fail
  refine (HL.out _ (bel_alloc w _)).mono ?_
  rintro e w1 ⟨rfl, hb1⟩
  have hb2 := bel_al hb1
  go_wp2
  go_ret2
  exact ⟨rfl, hb2⟩

set_option maxRecDepth 100000 in
set_option maxHeartbeats 800000 in
theorem eput_any (a : Option Addr) (ca : Nat) (l : List Pr) (b : Option Addr) (cb : Nat) (s : List Sm) (w : World) (hp : EntIn w a ca l b cb s) (hs : EntSm l s) :
    Calls Try.prog 12 #[.agg #[.slice a l.length ca, .slice b s.length cb]] w fun e w' => e = .returned (.tuple #[.string (Ent.put l s), .int .i64 (Ent.check l s)]) ∧ Below w.heap.size w w' := by
  have HC := hide (fun wx (hb : Below w.heap.size w wx) => lput_form a ca l wx (hp.1.below hb) hp.2.1 hs.1)
  have HS := hide (fun wx (hb : Below w.heap.size w wx) => put_form b cb s wx (hp.2.2.1.below hb) hp.2.2.2 hs.2.1 hs.2.2)
  have hz1 := lput_size l
  have hz2 := sput_size hs.2.2
  clear hp hs
  by_cases h : Lab.check l = 0
  · rw [Ent.check_smp h]
    rw [h] at HC
    by_cases k : Smp.check s = 0
    · rw [← put_join h k, k]
      rw [k] at HS
      generalize Ent.lput l = L at *
      generalize putRes s = R at *
      go_enter Try.func12, Try.ntmps12
      go_wp2_with fail
      refine (HC.out _ (bel_alloc w _)).mono ?_
      rintro e w1 ⟨rfl, hb1⟩
      obtain ⟨c0, c1, _, _⟩ := two_later hb1
      have hb2 := bel_al hb1
      clear hb1
      go_wp2_with fail
      refine (HS.out _ hb2).mono ?_
      rintro e w2 ⟨rfl, hb3⟩
      have hb4 := bl hb2 hb3
      go_wp2
      go_ret2
      exact ⟨rfl, hb4⟩
    · have hn : (Smp.check s != 0) = true := bne_iff_ne.2 k
      rw [show Ent.put l s = ⟨#[]⟩ from if_neg (by rw [Ent.check_smp h]; exact k)]
      generalize Ent.lput l = L at *
      generalize putRes s = R at *
      go_enter Try.func12, Try.ntmps12
      go_wp2_with fail
      refine (HC.out _ (bel_alloc w _)).mono ?_
      rintro e w1 ⟨rfl, hb1⟩
      obtain ⟨c0, c1, _, _⟩ := two_later hb1
      have hb2 := bel_al hb1
      clear hb1
      go_wp2_with fail
      refine (HS.out _ hb2).mono ?_
      rintro e w2 ⟨rfl, hb3⟩
      have hb4 := bl hb2 hb3
      go_wp2
      go_ret2
      exact ⟨rfl, hb4⟩
  · rw [show Ent.put l s = ⟨#[]⟩ from if_neg (by rw [Ent.check_lab h]; omega), Ent.check_lab h]
    have hn : ((Lab.check l : Int) != 0) = true := bne_iff_ne.2 (by omega)
    generalize Ent.lput l = L at *
    go_enter Try.func12, Try.ntmps12
    go_wp2_with fail
    refine (HC.out _ (bel_alloc w _)).mono ?_
    rintro e w1 ⟨rfl, hb1⟩
    have hb2 := bel_al hb1
    clear hb1
    go_wp2
    go_ret2
    exact ⟨rfl, hb2⟩

end Go.Proofs.Ytbjcphefaciihaa
