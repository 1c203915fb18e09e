/-
  The laws' run: a disk behind acts.
-/
import Derived.Test.YtpbiongoigbmpaaDskDoesW
namespace Go.Proofs.Ytpbiongoigbmpaa
open Go.RowKit
open Dsk (By Dk)

def runA (l : List Ac) (D : Dk) : Dk := l.foldl (fun D x => (doA x D).1) D
theorem runA_take {l : List Ac} {j : Nat} (h : j < l.length) (D : Dk) : runA (l.take (j + 1)) D = (doA l[j] (runA (l.take j) D)).1 := by
  unfold runA
  rw [List.take_succ_eq_append_getElem h, List.foldl_append]
  rfl
theorem acSum_all (l : List Ac) (j : Nat) : acSum (l.take j) ≤ acSum l := by
  conv => rhs; rw [← List.take_append_drop j l]
  unfold acSum
  rw [List.map_append, List.sum_append]
  omega
theorem list_lenR (d : Dk) : (Dsk.list d).length = (Dsk.dir d).length := by
  unfold Dsk.list
  rw [(Dsk.sortN_perm _).length_eq]
  unfold Dsk.names
  rw [List.length_map]
theorem IsDk.listLe {S : Nat → Prop} {w : World} {p : Nat} {D : Dk} {c : Nat} (h : IsDk S w p D c) : (Dsk.list D).length ≤ c := by
  rw [list_lenR]; exact h.bud.rows _ (Dsk.dir_mem h.ok.some)
theorem lname_size {D : Dk} (h : Dsk.Ok D) {n : ByteArray} (hn : n ∈ Dsk.list D) : n.size ≤ 24 := by
  obtain ⟨f, hf⟩ := Dsk.mem_list.1 hn
  have := (h.row.1 _ hf).1
  unfold Dsk.isName at this
  exact (of_decide_eq_true this).2.2
theorem read_there {D : Dk} (h : Dsk.Ok D) (hl : D.left ≠ 0) {n : ByteArray} (hn : n ∈ Dsk.list D) : ∃ s, Dsk.read n D = (s, 0) := by
  obtain ⟨f, hf⟩ := Dsk.mem_list.1 hn
  refine ⟨Dsk.now D f, ?_⟩
  unfold Dsk.read
  rw [if_neg hl, Dsk.find_mem h.row.2.1 hf]
def RunE (w : World) (D : Dk) (c : Nat) (e : Ending) (w' : World) : Prop := ∃ pd S, e = .returned (.pointer (some ⟨pd, 0, none⟩)) ∧ IsDk S w' pd D c ∧ Own w S w'
set_option maxRecDepth 100000 in
set_option maxHeartbeats 800000 in
theorem run_any {w : World} {a : Option Addr} (cap : Nat) {l : List Ac} (room : Int) (hr : room ≤ 9223372036854775807) (ha : ActsAt w a l) (hok : ∀ p ∈ l, AcOk p) (hc : l.length + acSum l ≤ 10000000) :
    Calls Try.prog 7 #[.int .i64 room, .slice a l.length cap] w (RunE w (runA l (Dsk.fresh room)) (l.length + acSum l)) := by
  have HA := hide ha
  have HOK := hide hok
  clear ha hok
  go_enter Try.func7, Try.ntmps7
  go_wp2_with fail
  refine (new_dk room _ hr).mono ?_
  rintro e w1 ⟨rfl, hd1, hb1⟩
  obtain ⟨pd, hpd⟩ : ∃ q, w.heap.size + 1 = q := ⟨_, rfl⟩
  rw [hpd] at hd1 ⊢
  have HD1 := hide hd1
  have HB1 := hide hb1
  clear hd1 hb1 hpd
  go_wp2_with fail
  refine (rnew_dk room _ hr).mono ?_
  rintro e w2 ⟨pr, rfl, hd2, hb2⟩
  have hdr : DR w pd pr (more noneS w w1) (more noneS w1 w2) w2 (Dsk.fresh room) (Dsk.fresh room) 0 :=
    ⟨HD1.out.below hb2, hd2, fun b h1 h2 => by have := more_lt _ h1; have := more_ge h2; omega, (Own.new HB1.out).then hb2, fun b h => Nat.le_trans HB1.out.size (more_ge h)⟩
  have HR2 := hide hdr
  clear hd2 hb2 hdr HD1 HB1
  go_wp2
  go_loopw [7] (fun v6 wr => ∃ (j : Nat) (S T : Nat → Prop), j ≤ l.length ∧ v6 = .int .i64 (j : Int) ∧ Hid (DR w pd pr S T wr (runA (l.take j) (Dsk.fresh room)) (runA (l.take j) (Dsk.fresh room)) (j + acSum (l.take j)))) (fun v6 _ => l.length - (intOf v6).toNat)
  case atStart => exact ⟨0, _, _, Nat.zero_le _, rfl, HR2⟩
  case round =>
    obtain ⟨j, S, T, hj, rfl, HR⟩ := hrel
    by_cases hlt : j < l.length
    · obtain ⟨g, o, rfl, hg, hcell⟩ := HA.out j hlt
      have hcy := (hcell j hlt).below HR.out.od.below hg
      have e0 := acSum_take hlt
      have e1 := runA_take hlt (Dsk.fresh room)
      have e2 := acSum_all l (j + 1)
      have hx := HOK.out _ (List.getElem_mem hlt)
      obtain ⟨⟨op, nm, to, N, raw, tx⟩, hy⟩ : ∃ y, l[j] = y := ⟨_, rfl⟩
      rw [hy] at hcy e0 e1 hx
      have hb : j + acSum (l.take j) + (1 + tx.size) ≤ 10000000 := by simp only at e0; omega
      have E0 := hide e0
      have E1 := hide e1
      obtain ⟨c0, c1, c2, c3, c4, c5⟩ := hcy
      clear e0 e1 e2 hy hcell
      go_wp2_with fail
      refine (does_any HR.out ⟨op, nm, to, N, raw, tx⟩ hx hb).mono ?_
      rintro e w6 ⟨S', T', rfl, dr, _, _, _⟩
      have hdr := dr.mono (c' := j + 1 + acSum (l.take (j + 1))) (by rw [E0.out]; simp only; omega)
      rw [← E1.out] at hdr
      have HR6 := hide hdr
      clear dr hdr
      go_wp2
      go_roundw
      case rel => exact ⟨j + 1, _, _, by omega, by go_num, HR6⟩
      case measure => simp [intOf]; omega
    · obtain rfl : j = l.length := by omega
      have hdr := HR.out
      rw [List.take_length] at hdr
      have HRF := hide hdr
      clear hdr
      go_wp2
      go_ret
      exact ⟨_, _, rfl, HRF.out.d, HRF.out.od⟩

end Go.Proofs.Ytpbiongoigbmpaa
