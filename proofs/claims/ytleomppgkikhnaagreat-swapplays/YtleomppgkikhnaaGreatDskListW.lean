/-
  List of the program's disk: all names, rising.
-/
import Derived.Test.YtleomppgkikhnaaGreatDskRelW
import Derived.Test.YtleomppgkikhnaaGreatShelfD
import Derived.Shelf.AbstractIn
import Derived.Shelf.RegionOpen
import Derived.OwnWalkIn
import Derived.TacticsInMore
import Derived.Sort.Walk0
import Derived.Sort.OwnSorted
namespace Go.Proofs.YtleomppgkikhnaaGreat
open Go.RowKit Go.Sort Go.Shelf
open Dsk (Nm Hold Fl Ct By Dk FRel NRel)

theorem sortsL (m : Nat) : AnyZ.SortsIn Tryz.prog Tryz.sortedL_ren Fence.wide m :=
  ⟨fun blk off cap ss W hH hblk hsz => callsIn_wide.2 (AnyM.slices_Sort_string Tryz.sortL blk off cap ss W hH hblk hsz),
   fun p cap W => callsIn_wide.2 (AnyM.slices_Sort_string_none Tryz.sortL p cap W)⟩
theorem maps_KeysL (mb : Option Nat) (W : World) : CallsIn Fence.wide 5 Tryz.prog 48 #[.map mb] W fun e w' => e = .returned (.func (.func 85) #[] #[.pointer (some ⟨W.heap.size, 0, none⟩)]) ∧ w' = W.alloc (.cells #[.map mb] 46) :=
  AnyZ.keys_in Tryz.keysL Fence.wide 5 trivial rfl mb W
set_option maxHeartbeats 1000000 in
theorem sortedKeysL {H : Type} (b nn : Nat) (D0 : DataW H) (R : Value → Option (DataW H × List MemPlace)) (w : World) (hown : w.ownsMap Tryz.prog 9 R b nn D0) (hmax : Maps.size D0 ≤ maxLen) (hbytes : Maps.size D0 * 16 ≤ 140737488355328) :
    CallsIn Fence.wide 5 Tryz.prog 47 #[.func (.func 85) #[] #[.pointer (some ⟨w.heap.size, 0, none⟩)]] (w.alloc (.cells #[.map (some b)] 46)) fun e w' => ∃ (v : Value) (ss : List (List UInt8)), e = .returned v ∧ ss.Perm (strKeys D0) ∧
      w'.ownsRow (w.alloc (.cells #[.map (some b)] 46)).heap.size 9 1 v ss.length ((ss.mergeSort (fun x y => decide (x ≤ y))).map encStr) ∧ (v = .slice none 0 0 ↔ ss = []) ∧ Below (w.alloc (.cells #[.map (some b)] 46)).heap.size (w.alloc (.cells #[.map (some b)] 46)) w' := by
  have hbl := hown.lt
  have hseq : SeqGives Fence.wide 2 Tryz.prog 85 #[.pointer (some ⟨w.heap.size, 0, none⟩)] encStr (fun ss => ss.Perm (strKeys D0)) (Maps.size D0) (w.alloc (.cells #[.map (some b)] 46)) :=
    AnyZ.keys_gives (ρ := Tryz.keysL_ren) { Tryz.keysL with } Fence.wide _ trivial rfl (by omega) w.heap.size b nn D0 _ (by simp) (by simp) (by
      obtain ⟨es, clock, hb, Ft, hs, hD⟩ := hown
      exact ⟨es, clock, (Below.heap_alloc _ _ b hbl).trans hb, Ft, hs, hD⟩)
  exact AnyZ.sorted_in Tryz.sortedL Fence.wide 5 trivial trivial trivial trivial rfl (by omega) (sortsL _) (enters_of Tryz.func84 (by kernel_rfl) rfl) 85 #[.pointer (some ⟨w.heap.size, 0, none⟩)] trivial (enters_of Tryz.func85 (by kernel_rfl) rfl) _ _ hmax hbytes _ hseq

theorem map_str {w : World} {b c : Nat} {es : List (Lit × DataW Unit)} (ho : w.ownsMap Tryz.prog 9 ptrR b c (.map es)) : ∀ p ∈ es, ∃ x, p.1 = .string x := by
  obtain ⟨es', k, _, F, _, hD⟩ := ho
  intro p hp
  have hk := Maps.fit_keys F
  have hm : p ∈ (es'.toList.map (WideElems.rg Tryz.prog 9 ptrR)).foldr DataW.insert [] := by
    simp only [DataW.map.injEq] at hD
    rw [← hD]; exact hp
  obtain ⟨v, hv⟩ := (Maps.keys_perm (WideShapes.sorted_perm _).symm hk) p hm
  obtain ⟨x, _, hx, _⟩ := Maps.keyOf_str ustr hv
  exact ⟨x, hx⟩
theorem map_keys {w : World} {b c : Nat} {f : Nm} (h : MapIs w b c f) : ∃ D0 : DataW Unit, w.ownsMap Tryz.prog 9 ptrR b c D0 ∧ Maps.size D0 ≤ c ∧ (strKeys D0).Nodup ∧ ∀ n : ByteArray, n.data.toList ∈ strKeys D0 ↔ (f n).isSome = true := by
  obtain ⟨D, ho, h1, _⟩ := h
  refine ⟨D, ho, ho.size_le, ?_, fun n => ?_⟩
  · obtain ⟨es, rfl, hp⟩ := ho.tidy skeyed
    have hstr := map_str ho
    show (es.map fun p => strOf p.1).Nodup
    rw [List.nodup_iff_pairwise_ne, List.pairwise_map]
    refine hp.imp_of_mem fun {a b} ha hb hne e => ?_
    obtain ⟨x, hx⟩ := hstr a ha
    obtain ⟨y, hy⟩ := hstr b hb
    rw [hx, hy] at e
    simp only [strOf] at e
    exact hne (by rw [hx, hy, e])
  · rw [← h1 n]
    obtain ⟨es, rfl⟩ := ho.isMap
    have hstr := map_str ho
    simp only [strKeys, List.mem_map, Maps.has_eq, List.any_eq_true]
    constructor
    · rintro ⟨p, hp, e⟩
      refine ⟨p, hp, ?_⟩
      obtain ⟨x, hx⟩ := hstr p hp
      rw [hx] at e ⊢
      simp only [strOf] at e
      subst e
      exact WideAt.sameKey_self (bkey_key n)
    · rintro ⟨p, hp, e⟩
      refine ⟨p, hp, ?_⟩
      rw [WideAt.sameKey_eq e]
      rfl
/-- Keys in the order of bytes are the names in order. -/
theorem keys_sorted {ss : List (List UInt8)} {l : List ByteArray} (hn : ss.Nodup) (hl : l.Pairwise (fun a b => a ≠ b)) (hm : ∀ n : ByteArray, n.data.toList ∈ ss ↔ n ∈ l) : (ss.mergeSort (fun x y => decide (x ≤ y))).map encStr = (Dsk.sortN l).map Value.string := by
  have tr : ∀ a b c : List UInt8, decide (a ≤ b) = true → decide (b ≤ c) = true → decide (a ≤ c) = true := fun a b c h1 h2 => by simp only [decide_eq_true_eq] at *; exact List.le_trans h1 h2
  have to : ∀ a b : List UInt8, (decide (a ≤ b) || decide (b ≤ a)) = true := fun a b => by simp only [Bool.or_eq_true, decide_eq_true_eq]; exact List.le_total a b
  have hp := List.pairwise_mergeSort tr to ss
  have hperm := List.mergeSort_perm ss (fun x y => decide (x ≤ y))
  have hn2 : (ss.mergeSort (fun x y => decide (x ≤ y))).Nodup := hperm.symm.nodup hn
  have hup : Dsk.Up ((ss.mergeSort (fun x y => decide (x ≤ y))).map (fun x => (⟨x.toArray⟩ : ByteArray))) := by
    unfold Dsk.Up
    rw [List.pairwise_map]
    refine (hp.and hn2).imp fun {a b} ⟨h1, h2⟩ => ?_
    simp only [decide_eq_true_eq] at h1
    show Op.bytesLess (⟨a.toArray⟩ : ByteArray).toList (⟨b.toArray⟩ : ByteArray).toList = true
    rw [ByteArray.toList_eq, ByteArray.toList_eq]
    rcases Lab.less_total a b h2 with h | h
    · exact h
    · rw [bytesLess_eq] at h
      exact absurd (of_decide_eq_true h) h1
  have heq := Dsk.up_unique hup (Dsk.sortN_up hl) (fun x => by
    rw [(Dsk.sortN_perm l).mem_iff, ← hm x, List.mem_map]
    constructor
    · rintro ⟨y, hy, rfl⟩
      exact hperm.mem_iff.1 hy
    · intro h
      exact ⟨x.data.toList, hperm.mem_iff.2 h, by simp⟩)
  rw [← heq, List.map_map]
  refine List.map_congr_left fun x _ => ?_
  rfl

set_option maxRecDepth 100000 in
set_option maxHeartbeats 1000000 in
theorem list_dk {S : Nat → Prop} {w : World} {p : Nat} {D : Dk} {c : Nat} (H : IsDk S w p D c) (hc : c ≤ 1000000000) :
    Calls Tryz.prog 15 #[.pointer (some ⟨p, 0, none⟩)] w fun e w' => ∃ v, e = .returned v ∧ StrsOwn w' w.heap.size v (Dsk.list D) ∧ Below w.heap.size w w' := by
  obtain ⟨ok, bud, lim, h, HD, R, mc, hfl⟩ := H
  obtain ⟨_, _, _, _, _, _, c6, _, _⟩ := HD.look
  obtain ⟨D0, hown, hsz, hnd, hmem⟩ := map_keys HD.map
  have hmax : Maps.size D0 ≤ maxLen := by unfold maxLen; omega
  have hbytes : Maps.size D0 * 16 ≤ 140737488355328 := by omega
  have hfin : ∀ ss : List (List UInt8), ss.Perm (strKeys D0) → (ss.mergeSort (fun x y => decide (x ≤ y))).map encStr = (Dsk.list D).map Value.string ∧ ss.length = (Dsk.list D).length := fun ss hp => by
    have := keys_sorted (l := Dsk.names (Dsk.dir D)) (hp.symm.nodup hnd) (Dsk.names_ne ok.row.2.1) (fun n => by
      rw [hp.mem_iff, hmem n, Option.isSome_map]
      rw [R.find n]
      constructor
      · intro h
        obtain ⟨i, hi⟩ := Option.isSome_iff_exists.1 h
        exact List.mem_map.2 ⟨(n, i), Dsk.find_some hi, rfl⟩
      · intro h
        obtain ⟨q, hq, rfl⟩ := List.mem_map.1 h
        rw [Dsk.find_mem ok.row.2.1 (n := q.1) (f := q.2) hq]
        rfl)
    refine ⟨this, ?_⟩
    have := congrArg List.length this
    exact (by simpa using this : ss.length = (Dsk.sortN (Dsk.names (Dsk.dir D))).length)
  have HF := hide hfin
  clear HD R hmem hnd hsz hfin
  refine (callsIn_wide (n := 6)).1 ?_
  have hfK : Fence.wide.fn 48 := trivial
  have hfS : Fence.wide.fn 47 := trivial
  refine callsIn_of_wp Tryz.func15 rfl trivial ?_ rfl
  simp only [Tryz.ntmps15, List.size_toArray, List.length_cons, List.length_nil, Nat.reduceAdd, Nat.reduceSub, Array.replicate_succ, Array.replicate_zero, List.push_toArray, List.append_toArray, List.nil_append, List.cons_append]
  gi_wp2_with (first
    | (gi_at_call 48; refine (maps_KeysL _ _).mono ?_; rintro e w' ⟨rfl, rfl⟩)
    | (gi_at_call 47; refine (sortedKeysL h.bm h.mc D0 ptrR w hown hmax hbytes).mono ?_; rintro e w' ⟨v, ss, rfl, hS, hrow, hnil, hb⟩))
  go_ret
  obtain ⟨e1, e2⟩ := HF.out ss hS
  refine ⟨v, rfl, ?_, ((Below.refl _ w).alloc (Nat.le_refl _) _).trans (hb.mono (by simp))⟩
  unfold StrsOwn
  rw [← e1, ← e2]
  exact ownsRow_base_a hrow (by simp)

end Go.Proofs.YtleomppgkikhnaaGreat
