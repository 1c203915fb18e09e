/-
  The operations of a writing, each a method value.
-/
import Derived.Test.YtleomppgkikhnaaGreatSwpNameW
import Derived.Test.YtleomppgkikhnaaGreatDskAct2W
import Derived.Test.YtleomppgkikhnaaGreatDskAct3W
import Derived.Test.YtleomppgkikhnaaGreatDskAct4W
namespace Go.Proofs.YtleomppgkikhnaaGreat
open Go.RowKit
open Dsk (By Dk)

theorem IsDk.widen {S T : Nat → Prop} {w : World} {p : Nat} {D : Dk} {c : Nat} (h : IsDk S w p D c) (k : ∀ b, S b → T b) (hl : ∀ b, T b → b < w.heap.size) : IsDk T w p D c := by
  obtain ⟨a, b, l, h, H, R, m, f⟩ := h
  exact ⟨a, b, l, h, H.mono k hl, R, m, f⟩
/-- From a disk in w, all in S, to another one in w'. -/
structure Goes (S : Nat → Prop) (w w' : World) (p : Nat) (D : Dk) (c : Nat) : Prop where
  dk : IsDk (more S w w') w' p D c
  only : Only S w w'
theorem more_size {S : Nat → Prop} {w w' : World} (h : ∀ b, S b → b < w.heap.size) (hs : w.heap.size ≤ w'.heap.size) : ∀ b, more S w w' b → b < w'.heap.size := fun b hb => by
  rcases hb with hb | hb
  · have := h b hb; omega
  · exact hb.2
theorem Goes.refl {S : Nat → Prop} {w : World} {p : Nat} {D : Dk} {c : Nat} (h : IsDk S w p D c) : Goes S w w p D c := ⟨h.grow w, Only.refl _ _⟩
theorem Goes.after {S : Nat → Prop} {w w0 w' : World} {p : Nat} {D : Dk} {c : Nat} (hb : Below w.heap.size w w0) (h : Goes S w0 w' p D c) : Goes S w w' p D c :=
  ⟨h.dk.widen (fun b hb' => by
    rcases hb' with k | k
    · exact .inl k
    · exact .inr ⟨Nat.le_trans hb.size k.1, k.2⟩) (fun b hb' => by
    rcases hb' with k | k
    · exact h.dk.lt b (.inl k)
    · exact k.2), h.only.after_below hb⟩
theorem Goes.then {S : Nat → Prop} {w w1 w' : World} {p : Nat} {D : Dk} {c : Nat} (h : Goes S w w1 p D c) (hb : Below w1.heap.size w1 w') : Goes S w w' p D c :=
  ⟨(h.dk.below hb).widen (fun b hb' => by
    rcases hb' with k | k
    · exact .inl k
    · exact .inr ⟨k.1, Nat.lt_of_lt_of_le k.2 hb.size⟩) (fun b hb' => by
    rcases hb' with k | k
    · exact Nat.lt_of_lt_of_le (h.dk.lt b (.inl k)) hb.size
    · exact k.2), h.only.then_below hb⟩
theorem Goes.trans {S : Nat → Prop} {w w1 w' : World} {p : Nat} {D D' : Dk} {c c' : Nat} (h : Goes S w w1 p D c) (k : Goes (more S w w1) w1 w' p D' c') : Goes S w w' p D' c' :=
  ⟨k.dk.widen (fun _ hb => more_trans h.only.size k.only.size hb) (fun b hb => by
    rcases hb with x | x
    · exact k.dk.lt b (.inl (.inl x))
    · exact x.2), h.only.trans k.only⟩
theorem Goes.mono {S : Nat → Prop} {w w' : World} {p : Nat} {D : Dk} {c c' : Nat} (h : Goes S w w' p D c) (k : c ≤ c') : Goes S w w' p D c' := ⟨h.dk.mono k, h.only⟩
/-- What a call does to a disk. -/
def Does (f : FuncId) (args : Array Value) (p : Nat) (F : Dk → Dk × Int) (m : Nat) : Prop :=
  ∀ (S : Nat → Prop) (w : World) (D : Dk) (c : Nat), IsDk S w p D c → c + m ≤ 1000000000 → Calls Tryz.prog f args w fun e w' => e = .returned (.int .i64 (F D).2) ∧ Goes S w w' p (F D).1 (c + m)
theorem remove_does (p : Nat) (n : ByteArray) (hn : n.size ≤ maxLen) : Does 87 #[.pointer (some ⟨p, 0, none⟩), .string n] p (Dsk.remove n) 1 :=
  fun _ _ _ _ H hc => (remove_dk H n hn hc).mono fun _ _ ⟨a, b, k⟩ => ⟨a, b, k⟩
theorem syncDir_does (p : Nat) : Does 45 #[.pointer (some ⟨p, 0, none⟩)] p Dsk.syncDir 1 :=
  fun _ _ _ _ H hc => (syncDir_dk H hc).mono fun _ _ ⟨a, b, k⟩ => ⟨a, b, k⟩
def oth (p : Nat) (n : ByteArray) : Value := .agg #[.pointer (some ⟨p, 0, none⟩), .string n]
def wrg (p : Nat) (n s to : ByteArray) : Value := .agg #[.pointer (some ⟨p, 0, none⟩), .string n, .string s, .string to]
set_option maxRecDepth 100000 in
set_option maxHeartbeats 800000 in
theorem oremove_does (p : Nat) (n : ByteArray) (hn : n.size ≤ maxLen) : Does 55 #[oth p n] p (Dsk.remove n) 1 := by
  intro S w D c H hc
  have bK : ∀ o, Below w.heap.size w (w.alloc o) := fun o => (Below.refl _ w).alloc (Nat.le_refl _) o
  have HBK := hide bK
  have HH := hide H
  clear bK H
  unfold oth
  go_enter Tryz.func55, Tryz.ntmps55
  go_wp2_with fail
  refine (remove_does p n hn S _ D c (HH.out.below (HBK.out _)) hc).mono ?_
  rintro e w1 ⟨rfl, hg⟩
  have HG := hide (hg.after (HBK.out _))
  clear hg
  go_wp2
  go_ret
  exact ⟨rfl, HG.out⟩
set_option maxRecDepth 100000 in
set_option maxHeartbeats 800000 in
theorem ocreate_does (p : Nat) (n : ByteArray) (hn : n.size ≤ maxLen) : Does 41 #[oth p n] p (Dsk.create n) 1 := by
  intro S w D c H hc
  have bK : ∀ o, Below w.heap.size w (w.alloc o) := fun o => (Below.refl _ w).alloc (Nat.le_refl _) o
  have HBK := hide bK
  have HH := hide H
  clear bK H
  unfold oth
  go_enter Tryz.func41, Tryz.ntmps41
  go_wp2_with fail
  refine (create_dk (HH.out.below (HBK.out _)) n (by unfold maxLen at hn; omega) hc).mono ?_
  rintro e w1 ⟨rfl, hd, ho⟩
  have HG := hide ((Goes.mk hd ho).after (HBK.out _))
  clear hd ho
  go_wp2
  go_ret
  exact ⟨rfl, HG.out⟩
theorem clear_err {o : ByteArray} {D : Dk} (h : (Dsk.remove o D).2 ≠ 5) : Dsk.clearA o D = Dsk.remove o D := by
  unfold Dsk.clearA
  rw [if_neg h]
theorem clear_ok {o : ByteArray} {D : Dk} (h : (Dsk.remove o D).2 = 5) : Dsk.clearA o D = ((Dsk.remove o D).1, 0) := by
  unfold Dsk.clearA
  rw [if_pos h]
set_option maxRecDepth 100000 in
set_option maxHeartbeats 800000 in
theorem clear_does (p : Nat) (n : ByteArray) (hn : n.size ≤ maxLen) : Does 40 #[oth p n] p (Dsk.clearA n) 1 := by
  intro S w D c H hc
  have bK : ∀ o, Below w.heap.size w (w.alloc o) := fun o => (Below.refl _ w).alloc (Nat.le_refl _) o
  have HBK := hide bK
  have HH := hide H
  have hrd := oremove_does p n hn
  unfold oth at hrd
  have HRD := hide hrd
  clear bK H hrd
  unfold oth
  by_cases h5 : (Dsk.remove n D).2 = 5
  · rw [clear_ok h5]
    have h5b : ((Dsk.remove n D).2 != 5) = false := by rw [h5]; rfl
    go_enter Tryz.func40, Tryz.ntmps40
    go_wp2_with fail
    refine (HRD.out S _ D c (HH.out.below (HBK.out _)) hc).mono ?_
    rintro e w1 ⟨rfl, hg⟩
    have HG := hide (hg.after (HBK.out _))
    clear hg
    go_wp2
    go_ret
    exact ⟨rfl, HG.out⟩
  · rw [clear_err h5]
    have h5b : ((Dsk.remove n D).2 != 5) = true := bne_iff_ne.2 h5
    go_enter Tryz.func40, Tryz.ntmps40
    go_wp2_with fail
    refine (HRD.out S _ D c (HH.out.below (HBK.out _)) hc).mono ?_
    rintro e w1 ⟨rfl, hg⟩
    have HG := hide (hg.after (HBK.out _))
    clear hg
    go_wp2
    go_ret
    exact ⟨rfl, HG.out⟩
set_option maxRecDepth 100000 in
set_option maxHeartbeats 800000 in
theorem place_does (p : Nat) (n s to : ByteArray) (hn : n.size ≤ 1000) (ht : to.size ≤ 1000) : Does 44 #[wrg p n s to] p (Dsk.rename n to) 1 := by
  intro S w D c H hc
  have bK : ∀ o, Below w.heap.size w (w.alloc o) := fun o => (Below.refl _ w).alloc (Nat.le_refl _) o
  have HBK := hide bK
  have HH := hide H
  clear bK H
  unfold wrg
  go_enter Tryz.func44, Tryz.ntmps44
  go_wp2_with fail
  refine (rename_dk (HH.out.below (HBK.out _)) n to (by omega) (by omega) hc).mono ?_
  rintro e w1 ⟨rfl, hd, ho⟩
  have HG := hide ((Goes.mk hd ho).after (HBK.out _))
  clear hd ho
  go_wp2
  go_ret
  exact ⟨rfl, HG.out⟩
set_option maxRecDepth 100000 in
set_option maxHeartbeats 800000 in
theorem orRemove_any (p : Nat) (n s to : ByteArray) (hn : n.size ≤ maxLen) (e0 : Int) {S : Nat → Prop} {w : World} {D : Dk} {c : Nat} (H : IsDk S w p D c) (hc : c + 1 ≤ 1000000000) :
    Calls Tryz.prog 80 #[wrg p n s to, .int .i64 e0] w fun e w' => e = .returned (.int .i64 e0) ∧ Goes S w w' p (Dsk.orRem n (D, e0)).1 (c + 1) := by
  have bK : ∀ o, Below w.heap.size w (w.alloc o) := fun o => (Below.refl _ w).alloc (Nat.le_refl _) o
  have HBK := hide bK
  have HH := hide H
  have hrd := oremove_does p n hn
  unfold oth at hrd
  have HRD := hide hrd
  clear bK H hrd
  unfold wrg
  by_cases h0 : e0 = 0
  · subst h0
    rw [Dsk.orRem_ok rfl]
    go_enter Tryz.func80, Tryz.ntmps80
    go_wp2
    go_ret
    exact ⟨rfl, ((Goes.refl HH.out).then (HBK.out _)).mono (by omega)⟩
  · have h0b : (e0 != 0) = true := bne_iff_ne.2 h0
    rw [Dsk.orRem_err (x := (D, e0)) h0]
    go_enter Tryz.func80, Tryz.ntmps80
    go_wp2_with fail
    refine (HRD.out S _ D c (HH.out.below (HBK.out _)) hc).mono ?_
    rintro e w1 ⟨rfl, hg⟩
    have HG := hide (hg.after (HBK.out _))
    clear hg
    go_wp2
    go_ret
    exact ⟨rfl, HG.out⟩
theorem orRem_snd (o : ByteArray) (x : Dk × Int) : (Dsk.orRem o x).2 = x.2 := by
  unfold Dsk.orRem
  split <;> rfl
theorem four_cells (w : World) (x0 x1 x2 x3 : Value) (t : TypeId) : (w.alloc (.cells #[x0, x1, x2, x3] t)).cell? ⟨w.heap.size, 0, none⟩ = some x0 ∧ (w.alloc (.cells #[x0, x1, x2, x3] t)).cell? ⟨w.heap.size, 1, none⟩ = some x1 ∧
    (w.alloc (.cells #[x0, x1, x2, x3] t)).cell? ⟨w.heap.size, 2, none⟩ = some x2 ∧ (w.alloc (.cells #[x0, x1, x2, x3] t)).cell? ⟨w.heap.size, 3, none⟩ = some x3 := by simp
theorem Goes.kept {S : Nat → Prop} {w w' : World} {p : Nat} {D : Dk} {c : Nat} (h : Goes S w w' p D c) {B : Nat → Prop} (k : ∀ b, B b → b < w.heap.size ∧ ¬ S b) : Kept B w w' := ⟨h.only.os, h.only.tape, h.only.output, h.only.size, fun i hi => h.only.block i (k i hi).1 (k i hi).2⟩
set_option maxRecDepth 100000 in
set_option maxHeartbeats 800000 in
theorem fill_does (p : Nat) (n s to : ByteArray) (hn : n.size ≤ 1000) : Does 42 #[wrg p n s to] p (Dsk.fillA n s.data.toList) (s.size + 2) := by
  intro S w D c H hc
  have bK : ∀ o, Below w.heap.size w (w.alloc o) := fun o => (Below.refl _ w).alloc (Nat.le_refl _) o
  have HBK := hide bK
  have HH := hide H
  have hno := H.lt
  have HNO := hide (fun h : S w.heap.size => Nat.lt_irrefl _ (hno _ h))
  have hor := @orRemove_any p n s to (by unfold maxLen; omega)
  unfold wrg at hor
  have HOR := hide hor
  clear bK H hor hno
  unfold wrg
  go_enter Tryz.func42, Tryz.ntmps42
  go_wp2_with fail
  obtain ⟨y0, y1, y2, y3⟩ := four_cells w (.pointer (some ⟨p, 0, none⟩)) (.string n) (.string s) (.string to) 82
  have s0 : w.heap.size < (w.alloc (.cells #[.pointer (some ⟨p, 0, none⟩), .string n, .string s, .string to] 82)).heap.size := by simp
  have b0 := HBK.out (.cells #[.pointer (some ⟨p, 0, none⟩), .string n, .string s, .string to] 82)
  obtain ⟨w0, hw0⟩ : ∃ w0, w.alloc (.cells #[.pointer (some ⟨p, 0, none⟩), .string n, .string s, .string to] 82) = w0 := ⟨_, rfl⟩
  rw [hw0] at y0 y1 y2 y3 b0 s0 ⊢
  clear hw0
  obtain ⟨q, hq⟩ : ∃ q, w.heap.size = q := ⟨_, rfl⟩
  rw [hq] at y0 y1 y2 y3 s0 HNO ⊢
  refine wp_region_growK (fun b => b = q) [([0, 1, 2, 3, 4, 5, 6, 7, 8], 9), ([], 10)] [11] [] (by kernel_rfl) (by kernel_rfl) (by kernel_rfl) (by kernel_rfl) ?_
  intro w4 hb4
  simp only [stagesOfK, getLK, pickLK]
  have HD4 := hide ((HH.out.below b0).below hb4)
  have c0 := (hb4.cell (p := ⟨q, 0, none⟩) s0).trans y0
  have c1 := (hb4.cell (p := ⟨q, 1, none⟩) s0).trans y1
  have c2 := (hb4.cell (p := ⟨q, 2, none⟩) s0).trans y2
  have c3 := (hb4.cell (p := ⟨q, 3, none⟩) s0).trans y3
  have hql := Nat.lt_of_lt_of_le s0 hb4.size
  have inh : Nonempty (GrK (fun b => b = q) w4) := GrK.some _ w4
  have q0 := fun x : GrK (fun b => b = q) w4 => x.cell (a := ⟨q, 0, none⟩) rfl c0
  have q1 := fun x : GrK (fun b => b = q) w4 => x.cell (a := ⟨q, 1, none⟩) rfl c1
  have q2 := fun x : GrK (fun b => b = q) w4 => x.cell (a := ⟨q, 2, none⟩) rfl c2
  have q3 := fun x : GrK (fun b => b = q) w4 => x.cell (a := ⟨q, 3, none⟩) rfl c3
  have HB4 := hide (bl b0 hb4)
  refine wpG_stageK ?_
  repeat (go_big_quiet_step (fail))
  refine wpQuiet_nil ?_
  clear q0 q1 q2 q3 inh hb4 c0 c1 c2 c3 y0 y1 y2 y3
  go_wp2_with fail
  refine (append_dk HD4.out n s (by unfold maxLen; omega) (by omega)).mono ?_
  rintro e w5 ⟨rfl, hd5, ho5⟩
  have hg5 := Goes.mk hd5 ho5
  have HG5 := hide hg5
  go_wp2
  refine OnToK.mk (hg5.kept (fun b e => by subst e; exact ⟨hql, HNO.out⟩)) (Sub.refl _) ?_
  clear hd5 ho5 hg5
  refine wpG_stageK (wpQuiet_nil ?_)
  go_wp2_with fail
  refine (HOR.out (Dsk.append n s.data.toList D).2 HG5.out.dk (by omega)).mono ?_
  rintro e w6 ⟨rfl, hg6⟩
  have HG6 := hide ((HG5.out.trans hg6).after HB4.out)
  have k6 := hg6.kept (B := fun b => b = q) (fun b e => by
    subst e
    refine ⟨Nat.lt_of_lt_of_le hql HG5.out.only.size, fun k => ?_⟩
    rcases k with k | k
    · exact HNO.out k
    · omega)
  go_wp2
  refine OnToK.mk k6 (Sub.refl _) ?_
  clear hg6 k6
  have inh : Nonempty (GrK (fun b => b = q) w6) := GrK.some _ w6
  refine wpG_lastK ?_
  repeat (go_big_quiet_step (fail))
  refine wpQuiet_nil ?_
  clear inh
  go_wp2
  go_ret
  exact ⟨congrArg (fun x => Ending.returned (.int .i64 x)) (orRem_snd n _).symm, HG6.out.mono (by omega)⟩

set_option maxRecDepth 100000 in
set_option maxHeartbeats 800000 in
theorem sync_does (p : Nat) (n s to : ByteArray) (hn : n.size ≤ 1000) : Does 43 #[wrg p n s to] p (Dsk.syncA n) 2 := by
  intro S w D c H hc
  have bK : ∀ o, Below w.heap.size w (w.alloc o) := fun o => (Below.refl _ w).alloc (Nat.le_refl _) o
  have HBK := hide bK
  have HH := hide H
  have hno := H.lt
  have HNO := hide (fun h : S w.heap.size => Nat.lt_irrefl _ (hno _ h))
  have hor := @orRemove_any p n s to (by unfold maxLen; omega)
  unfold wrg at hor
  have HOR := hide hor
  clear bK H hor hno
  unfold wrg
  go_enter Tryz.func43, Tryz.ntmps43
  go_wp2_with fail
  obtain ⟨y0, y1, y2, y3⟩ := four_cells w (.pointer (some ⟨p, 0, none⟩)) (.string n) (.string s) (.string to) 82
  have s0 : w.heap.size < (w.alloc (.cells #[.pointer (some ⟨p, 0, none⟩), .string n, .string s, .string to] 82)).heap.size := by simp
  have b0 := HBK.out (.cells #[.pointer (some ⟨p, 0, none⟩), .string n, .string s, .string to] 82)
  obtain ⟨w0, hw0⟩ : ∃ w0, w.alloc (.cells #[.pointer (some ⟨p, 0, none⟩), .string n, .string s, .string to] 82) = w0 := ⟨_, rfl⟩
  rw [hw0] at y0 y1 y2 y3 b0 s0 ⊢
  clear hw0
  obtain ⟨q, hq⟩ : ∃ q, w.heap.size = q := ⟨_, rfl⟩
  rw [hq] at y0 y1 y2 y3 s0 HNO ⊢
  refine wp_region_growK (fun b => b = q) [([0, 1, 2, 3, 4, 5, 6], 7), ([], 8)] [9] [] (by kernel_rfl) (by kernel_rfl) (by kernel_rfl) (by kernel_rfl) ?_
  intro w4 hb4
  simp only [stagesOfK, getLK, pickLK]
  have HD4 := hide ((HH.out.below b0).below hb4)
  have c0 := (hb4.cell (p := ⟨q, 0, none⟩) s0).trans y0
  have c1 := (hb4.cell (p := ⟨q, 1, none⟩) s0).trans y1
  have c2 := (hb4.cell (p := ⟨q, 2, none⟩) s0).trans y2
  have c3 := (hb4.cell (p := ⟨q, 3, none⟩) s0).trans y3
  have hql := Nat.lt_of_lt_of_le s0 hb4.size
  have inh : Nonempty (GrK (fun b => b = q) w4) := GrK.some _ w4
  have q0 := fun x : GrK (fun b => b = q) w4 => x.cell (a := ⟨q, 0, none⟩) rfl c0
  have q1 := fun x : GrK (fun b => b = q) w4 => x.cell (a := ⟨q, 1, none⟩) rfl c1
  have q2 := fun x : GrK (fun b => b = q) w4 => x.cell (a := ⟨q, 2, none⟩) rfl c2
  have q3 := fun x : GrK (fun b => b = q) w4 => x.cell (a := ⟨q, 3, none⟩) rfl c3
  have HB4 := hide (bl b0 hb4)
  refine wpG_stageK ?_
  repeat (go_big_quiet_step (fail))
  refine wpQuiet_nil ?_
  clear q0 q1 q2 q3 inh hb4 c0 c1 c2 c3 y0 y1 y2 y3
  go_wp2_with fail
  refine (sync_dk HD4.out n (by unfold maxLen; omega) (by omega)).mono ?_
  rintro e w5 ⟨rfl, hd5, ho5⟩
  have hg5 := Goes.mk hd5 ho5
  have HG5 := hide hg5
  go_wp2
  refine OnToK.mk (hg5.kept (fun b e => by subst e; exact ⟨hql, HNO.out⟩)) (Sub.refl _) ?_
  clear hd5 ho5 hg5
  refine wpG_stageK (wpQuiet_nil ?_)
  go_wp2_with fail
  refine (HOR.out (Dsk.sync n D).2 HG5.out.dk (by omega)).mono ?_
  rintro e w6 ⟨rfl, hg6⟩
  have HG6 := hide ((HG5.out.trans hg6).after HB4.out)
  have k6 := hg6.kept (B := fun b => b = q) (fun b e => by
    subst e
    refine ⟨Nat.lt_of_lt_of_le hql HG5.out.only.size, fun k => ?_⟩
    rcases k with k | k
    · exact HNO.out k
    · omega)
  go_wp2
  refine OnToK.mk k6 (Sub.refl _) ?_
  clear hg6 k6
  have inh : Nonempty (GrK (fun b => b = q) w6) := GrK.some _ w6
  refine wpG_lastK ?_
  repeat (go_big_quiet_step (fail))
  refine wpQuiet_nil ?_
  clear inh
  go_wp2
  go_ret
  exact ⟨congrArg (fun x => Ending.returned (.int .i64 x)) (orRem_snd n _).symm, HG6.out.mono (by omega)⟩

theorem only_cell {S : Nat → Prop} {w w' : World} (h : Only S w w') {a : Addr} (ha : a.block < w.heap.size) (hn : ¬ S a.block) : w'.cell? a = w.cell? a := World.cell?_of_block (w := w) (h.block _ ha hn)
/-- A method value: the function, the receiver; what it does to a disk, and how much greater the disk is then. -/
structure Mv where
  f : FuncId
  r : Value
  F : Dk → Dk × Int
  m : Nat
def Mv.v (x : Mv) : Value := .func (.func x.f) #[x.r] #[]
/-- It is Go's own text. -/
def Enters (f : FuncId) : Prop := ∀ (args : Array Value) (w : World), (callFunc f args).run Tryz.prog w = .ok (.enter f args) w
def Mv.does (x : Mv) (p : Nat) : Prop := Does x.f #[x.r] p x.F x.m ∧ Enters x.f
def sumM (l : List Mv) : Nat := (l.map (·.m)).sum
def actsM (l : List Mv) : List (Dk → Dk × Int) := l.map (·.F)
theorem drop_one {l : List Mv} {k : Nat} (h : k < l.length) : l.drop k = l[k] :: l.drop (k + 1) := List.drop_eq_getElem_cons h
set_option maxRecDepth 100000 in
set_option maxHeartbeats 800000 in
theorem inOrder_dk (p : Nat) (l : List Mv) (hl : ∀ x ∈ l, x.does p) (hll : l.length ≤ 1000000000) (g o : Nat) (cap : Nat) {S : Nat → Prop} {w : World} {D : Dk} {c : Nat} (H : IsDk S w p D c) (hc : c + sumM l ≤ 1000000000)
    (hg : 0 < l.length → g < w.heap.size) (hn : ¬ S g) (hcell : ∀ k (hk : k < l.length), w.cell? ⟨g, o + k, none⟩ = some l[k].v) :
    Calls Tryz.prog 39 #[.slice (some ⟨g, o, none⟩) l.length cap] w fun e w' => e = .returned (.int .i64 (Dsk.inOrd (actsM l) D).2) ∧ Goes S w w' p (Dsk.inOrd (actsM l) D).1 (c + sumM l) := by
  have HH := hide H
  have HL := hide hl
  have HC := hide hcell
  clear H hl hcell
  go_enter Tryz.func39, Tryz.ntmps39
  go_wp2
  go_loopw [8] (fun v wr => ∃ (k : Nat) (E : Dk) (d : Nat), k ≤ l.length ∧ v = .int .i64 (k : Int) ∧ Hid (Goes S w wr p E d) ∧ Hid (Dsk.inOrd (actsM (l.drop k)) E = Dsk.inOrd (actsM l) D) ∧ Hid (d + sumM (l.drop k) = c + sumM l)) (fun v _ => l.length - (intOf v).toNat)
  case atStart => exact ⟨0, D, c, Nat.zero_le _, rfl, hide (Goes.refl HH.out), hide rfl, hide rfl⟩
  case round =>
    obtain ⟨k, E, d, hk, rfl, HG, HE, HS⟩ := hrel
    by_cases hlt : k < l.length
    · have v1 := (only_cell HG.out.only (a := ⟨g, o + k, none⟩) (hg (by omega)) hn).trans (HC.out k hlt)
      have hd := HL.out l[k] (List.getElem_mem hlt)
      have e1 := HE.out
      have s1 := HS.out
      rw [drop_one hlt] at e1 s1
      obtain ⟨⟨f, r, F, m⟩, hx⟩ : ∃ x, l[k] = x := ⟨_, rfl⟩
      rw [hx] at v1 hd e1 s1
      clear hx
      replace v1 : wr.cell? ⟨g, o + k, none⟩ = some (.func (.func f) #[r] #[]) := v1
      replace hd : Does f #[r] p F m ∧ Enters f := hd
      have hcf : ∀ (args : Array Value) (w : World), (callFunc f args).run Tryz.prog w = .ok (.enter f args) w := hd.2
      replace e1 : Dsk.inOrd (F :: actsM (l.drop (k + 1))) E = Dsk.inOrd (actsM l) D := e1
      replace s1 : d + (m + sumM (l.drop (k + 1))) = c + sumM l := s1
      have HDo := hide hd.1
      have E1 := hide e1
      have S1 := hide s1
      have hm : d + m ≤ 1000000000 := by omega
      clear hd e1 s1
      by_cases h0 : (F E).2 = 0
      · have h0b : ((F E).2 != 0) = false := by rw [h0]; rfl
        go_wp2_with fail
        refine (HDo.out _ _ E d HG.out.dk hm).mono ?_
        rintro e w1 ⟨rfl, hg1⟩
        have HG1 := hide (HG.out.trans hg1)
        clear hg1
        go_wp2
        go_roundw
        case rel =>
          refine ⟨k + 1, (F E).1, d + m, by omega, by go_num, HG1, hide ?_, hide ?_⟩
          · rw [← E1.out, Dsk.inOrd_ok h0]
          · rw [← S1.out]; omega
        case measure => simp [intOf]; omega
      · have h0b : ((F E).2 != 0) = true := bne_iff_ne.2 h0
        go_wp2_with fail
        refine (HDo.out _ _ E d HG.out.dk hm).mono ?_
        rintro e w1 ⟨rfl, hg1⟩
        have HG1 := hide (HG.out.trans hg1)
        clear hg1
        go_wp2
        go_ret
        have e1 := E1.out
        rw [Dsk.inOrd_err h0] at e1
        rw [← e1]
        exact ⟨rfl, HG1.out.mono (by have := S1.out; omega)⟩
    · obtain rfl : k = l.length := by omega
      have e1 := HE.out
      rw [List.drop_length] at e1
      have E1 := hide e1
      clear e1
      go_wp2
      go_ret
      have e1 : (E, 0) = Dsk.inOrd (actsM l) D := E1.out
      rw [← e1]
      exact ⟨rfl, HG.out.mono (by have := HS.out; omega)⟩
end Go.Proofs.YtleomppgkikhnaaGreat
