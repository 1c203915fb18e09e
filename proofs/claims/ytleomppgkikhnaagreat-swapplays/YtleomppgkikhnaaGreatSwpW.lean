/-
  Write and Clean of the program: as the chapter says.
-/
import Derived.Test.YtleomppgkikhnaaGreatSwpOpsW
namespace Go.Proofs.YtleomppgkikhnaaGreat
open Go.RowKit
open Dsk (By Dk)

theorem mv_enters {f : FuncId} {fn : Func} (hf : Tryz.prog.funcs[f]? = some fn) (hname : (fn.name == "runtime.NumGoroutine") = false) (hb : fn.body.isNone = false) : Enters f := by
  intro args w
  have h1 : fn.name ≠ "runtime.NumGoroutine" := by simpa using hname
  have h2 : fn.body ≠ none := fun e => by rw [e] at hb; cases hb
  simp [callFunc, hf, h1, h2]
theorem enters_clear : Enters 40 := mv_enters Tryz.func40 (by kernel_rfl) (by kernel_rfl)
theorem enters_create : Enters 41 := mv_enters Tryz.func41 (by kernel_rfl) (by kernel_rfl)
theorem enters_fill : Enters 42 := mv_enters Tryz.func42 (by kernel_rfl) (by kernel_rfl)
theorem enters_sync : Enters 43 := mv_enters Tryz.func43 (by kernel_rfl) (by kernel_rfl)
theorem enters_place : Enters 44 := mv_enters Tryz.func44 (by kernel_rfl) (by kernel_rfl)
theorem enters_syncDir : Enters 45 := mv_enters Tryz.func45 (by kernel_rfl) (by kernel_rfl)
def writeM (p : Nat) (n s : ByteArray) : List Mv :=
  [⟨40, oth p (Dsk.tilde n), Dsk.clearA (Dsk.tilde n), 1⟩, ⟨41, oth p (Dsk.tilde n), Dsk.create (Dsk.tilde n), 1⟩,
   ⟨42, wrg p (Dsk.tilde n) s n, Dsk.fillA (Dsk.tilde n) s.data.toList, s.size + 2⟩, ⟨43, wrg p (Dsk.tilde n) s n, Dsk.syncA (Dsk.tilde n), 2⟩,
   ⟨44, wrg p (Dsk.tilde n) s n, Dsk.rename (Dsk.tilde n) n, 1⟩, ⟨45, .pointer (some ⟨p, 0, none⟩), Dsk.syncDir, 1⟩]
theorem writeM_does (p : Nat) (n s : ByteArray) (hn : n.size ≤ 23) : ∀ x ∈ writeM p n s, x.does p := by
  have ht : (Dsk.tilde n).size ≤ 24 := by rw [Dsk.tilde_size]; omega
  have hm : (Dsk.tilde n).size ≤ maxLen := by unfold maxLen; omega
  intro x hx
  simp only [writeM, List.mem_cons, List.not_mem_nil, or_false] at hx
  rcases hx with rfl | rfl | rfl | rfl | rfl | rfl
  · exact ⟨clear_does p _ hm, enters_clear⟩
  · exact ⟨ocreate_does p _ hm, enters_create⟩
  · exact ⟨fill_does p _ _ _ (by omega), enters_fill⟩
  · exact ⟨sync_does p _ _ _ (by omega), enters_sync⟩
  · exact ⟨place_does p _ _ _ (by omega) (by omega), enters_place⟩
  · exact ⟨syncDir_does p, enters_syncDir⟩
theorem sumM_write (p : Nat) (n s : ByteArray) : sumM (writeM p n s) = s.size + 8 := by
  simp [sumM, writeM]
  omega
theorem cells_at2 (w : World) (l : List Value) (t : TypeId) (k : Nat) {g : Nat} (hg : g = w.heap.size) : (w.alloc (.cells l.toArray t)).cell? ⟨g, 0 + k, none⟩ = l[k]? := by
  subst hg
  simp
set_option maxRecDepth 100000 in
set_option maxHeartbeats 800000 in
theorem write_dk {S : Nat → Prop} {w : World} {p : Nat} {D : Dk} {c : Nat} (H : IsDk S w p D c) (n s : ByteArray) (hn : n.size ≤ 9223372036854775807) (hc : c + (s.size + 8) ≤ 1000000000) :
    Calls Tryz.prog 12 #[.pointer (some ⟨p, 0, none⟩), .string n, .string s] w fun e w' => e = .returned (.int .i64 (Dsk.write n s.data.toList D).2) ∧ Goes S w w' p (Dsk.write n s.data.toList D).1 (c + (s.size + 8)) := by
  have hmf : ∀ (fn : Fn) (first cap : Array Value) (w : World), (Instr.makeFunc fn first cap).run Tryz.prog w = .ok (.func fn first cap) w := fun _ _ _ _ => rfl
  have HH := hide H
  clear H
  cases hm : Dsk.maySwap n with
  | false =>
    have e : Dsk.write n s.data.toList D = (D, 3) := by unfold Dsk.write; rw [hm]; rfl
    rw [e]
    have HM := hide hm
    clear hm e
    go_enter Tryz.func12, Tryz.ntmps12
    go_wp2_with fail
    refine (maySwap_any n _ hn).mono ?_
    rintro e w1 ⟨rfl, hw⟩
    rw [hw, HM.out]
    clear hw
    go_wp2
    go_ret
    exact ⟨rfl, (Goes.refl HH.out).mono (by omega)⟩
  | true =>
    have e : Dsk.write n s.data.toList D = Dsk.inOrd (actsM (writeM p n s)) D := by unfold Dsk.write; rw [hm]; rfl
    rw [e]
    have h23 := (Dsk.maySwap_iff.1 hm).2.1
    have HM := hide hm
    clear hm e
    go_enter Tryz.func12, Tryz.ntmps12
    go_wp2_with fail
    refine (maySwap_any n _ hn).mono ?_
    rintro e w1 ⟨rfl, hw⟩
    rw [hw, HM.out]
    clear hw
    go_wp2_with fail
    have b1 : Below w.heap.size w ((w.alloc (.cells #[.pointer (some ⟨p, 0, none⟩), .string (n ++ ⟨#[126]⟩), .string s, .string n] 82)).alloc (.cells ((writeM p n s).map Mv.v).toArray 116)) :=
      ((Below.refl _ w).alloc (Nat.le_refl _) _).alloc (by simp) _
    have k1 := inOrder_dk p (writeM p n s) (writeM_does p n s h23) (by simp [writeM]) (w.heap.size + 1) 0 6 (HH.out.below b1) (by rw [sumM_write]; exact hc) (fun _ => by simp) (fun h => by have := HH.out.lt _ h; omega) (fun k hk => by
      have h6 : k < 6 := hk
      rw [cells_at2 _ _ _ _ (by simp)]
      simp [List.getElem?_eq_getElem hk])
    rw [sumM_write] at k1
    refine k1.mono ?_
    rintro e w2 ⟨rfl, hg⟩
    have HG := hide (hg.after b1)
    clear hg b1 k1
    go_wp2
    go_ret
    exact ⟨rfl, HG.out⟩

end Go.Proofs.YtleomppgkikhnaaGreat
