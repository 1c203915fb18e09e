/-
  The document's destinations in a row of the call's own, each with its bytes; its copied.
-/
import Derived.Test.YtjbdofjheeljkaaLdgRef6W
import Derived.Test.YtjbdofjheeljkaaLdgJoinW
namespace Go.Proofs.Ytjbdofjheeljkaa
open Go.RowKit
open Ldg (De Le Rd Rl)

theorem bV_len (l : List Nat) : (bV l).length = l.length := by simp [bV]
theorem bV_app (a b : List Nat) : bV (a ++ b) = bV a ++ bV b := by simp [bV]
theorem bV_one (l : List Nat) : ∀ u ∈ bV l, u.oneCell' = true := by
  intro u hu
  obtain ⟨x, _, rfl⟩ := List.mem_map.1 hu
  rfl
theorem lown_keep {w w' : World} {base e size n : Nat} {v : Value} {xs : List Value} (h : w.ownsRow base e size v n xs) (k : ∀ g, v.ownBlock = some g → w'.heap[g]? = w.heap[g]?) : w'.ownsRow base e size v n xs := by
  refine ⟨h.1, ?_⟩
  rcases h.2 with h0 | ⟨g, cap, cur, hv, hB, hg, hr⟩
  · exact .inl h0
  · exact .inr ⟨g, cap, cur, hv, hB, (k g (by rw [hv]; rfl)).trans hg, hr⟩
theorem lown_mono {w : World} {B B' e size n : Nat} {v : Value} {xs : List Value} (h : w.ownsRow B e size v n xs) (hB : B' ≤ B) : w.ownsRow B' e size v n xs := by
  refine ⟨h.1, ?_⟩
  rcases h.2 with h0 | ⟨g, cap, cur, hv, hg, hr⟩
  · exact .inl h0
  · exact .inr ⟨g, cap, cur, hv, Nat.le_trans hB hg, hr⟩
theorem lown_lt {w : World} {B e size n : Nat} {v : Value} {xs : List Value} (h : w.ownsRow B e size v n xs) {g : Nat} (k : v.ownBlock = some g) : g < w.heap.size ∧ B ≤ g := by
  rcases h.2 with ⟨rfl, _⟩ | ⟨g', cap, cur, rfl, hb, hh, _⟩
  · cases k
  · simp only [Value.ownBlock, Option.some.injEq] at k
    subst k
    exact ⟨(Array.getElem?_eq_some_iff.1 hh).1, hb⟩
theorem lown_slice {w : World} {B e size n : Nat} {v : Value} {xs : List Value} (h : w.ownsRow B e size v n xs) : ∃ a c, v = .slice a n c ∧ n ≤ c := by
  rcases h.2 with ⟨rfl, h0⟩ | ⟨g, cap, cur, rfl, hB, hg, hnc, _⟩
  · exact ⟨none, 0, by rw [h0], by omega⟩
  · exact ⟨_, _, rfl, hnc⟩
/-- Bytes of the call's own, as read. -/
theorem own_bl {w : World} {B : Nat} {v : Value} {l : List Nat} (h : w.ownsRow B 5 1 v l.length (bV l)) : BlIn (fun b => B ≤ b ∧ v.ownBlock = some b) w v l := by
  rcases h.2 with ⟨rfl, h0⟩ | ⟨g, cap, cur, rfl, hB, hg, hnc, hcm, hcs, htake⟩
  · have : l = [] := List.length_eq_zero_iff.1 h0
    subst this
    exact BlIn.nil _ _
  · refine ⟨some ⟨g, 0, none⟩, cap, rfl, hnc, fun e => (by cases e), fun i hi => ⟨g, 0, rfl, (Array.getElem?_eq_some_iff.1 hg).1, ⟨hB, rfl⟩, fun j hj => ?_⟩⟩
    rw [Nat.zero_add, World.ownsRow.cellAt h _ (by omega)]
    simp [bV, hj]
/-- The slice value v is the call's own, its elements are the destinations, each one's bytes a row by themselves. -/
structure OwnR (w : World) (B : Nat) (v : Value) (ps : List RV) : Prop where
  row : w.ownsRow B 99 3 v ps.length (rrows ps)
  all : ∀ p ∈ ps, w.ownsRow B 5 1 p.2 p.1.all.length (bV p.1.all)
  apart : ∀ i j (hi : i < ps.length) (hj : j < ps.length), i ≠ j → ∀ b, ps[i].2.ownBlock = some b → ps[j].2.ownBlock ≠ some b
theorem OwnR.kind {w : World} {B : Nat} {v : Value} {ps : List RV} (h : OwnR w B v ps) {p : RV} (hp : p ∈ ps) {b : Nat} (k : p.2.ownBlock = some b) : v.ownBlock ≠ some b := fun e => by
  obtain ⟨c1, h1⟩ := kind_of h.row e
  obtain ⟨c2, h2⟩ := kind_of (h.all p hp) k
  rw [h1] at h2
  simp only [Option.some.injEq, Obj.cells.injEq] at h2
  exact absurd h2.2.1 (by decide)
theorem OwnR.keep {w w' : World} {B : Nat} {v : Value} {ps : List RV} (h : OwnR w B v ps) (k : ∀ b, B ≤ b → b < w.heap.size → (v.ownBlock = some b ∨ ∃ p ∈ ps, p.2.ownBlock = some b) → w'.heap[b]? = w.heap[b]?) : OwnR w' B v ps :=
  ⟨lown_keep h.row (fun g e => k g (lown_lt h.row e).2 (lown_lt h.row e).1 (.inl e)), fun p hp => lown_keep (h.all p hp) (fun g e => k g (lown_lt (h.all p hp) e).2 (lown_lt (h.all p hp) e).1 (.inr ⟨p, hp, e⟩)), h.apart⟩
theorem OwnR.below {w w' : World} {B : Nat} {v : Value} {ps : List RV} (h : OwnR w B v ps) (hb : Below w.heap.size w w') : OwnR w' B v ps := h.keep (fun b _ hl _ => hb.block b hl)
theorem OwnR.mono {w : World} {B B' : Nat} {v : Value} {ps : List RV} (h : OwnR w B v ps) (hB : B' ≤ B) : OwnR w B' v ps :=
  ⟨lown_mono h.row hB, fun p hp => lown_mono (h.all p hp) hB, h.apart⟩
/-- A block of another kind that is written. -/
theorem OwnR.other {w w' : World} {B N : Nat} {v : Value} {ps : List RV} (h : OwnR w B v ps) {cs : Array Value} {t : TypeId} (hN : w.heap[N]? = some (.cells cs t (0, 0))) (h1 : t ≠ 99) (h2 : t ≠ 5) (k : Kept (fun b => b ≠ N) w w') : OwnR w' B v ps :=
  h.keep (fun b _ _ hb => k.block b (fun e => by
    subst e
    rcases hb with hb | ⟨p, hp, hb⟩
    · obtain ⟨c1, hc⟩ := kind_of h.row hb
      rw [hN] at hc
      simp only [Option.some.injEq, Obj.cells.injEq] at hc
      exact h1 hc.2.1
    · obtain ⟨c1, hc⟩ := kind_of (h.all p hp) hb
      rw [hN] at hc
      simp only [Option.some.injEq, Obj.cells.injEq] at hc
      exact h2 hc.2.1))
theorem OwnR.view {w : World} {B : Nat} {v : Value} {ps : List RV} (h : OwnR w B v ps) : ∃ a cap, v = .slice a ps.length cap ∧ ps.length ≤ cap ∧ RsAt w a ps := by
  have hs : ∀ p ∈ ps, BlIn anyB w p.2 p.1.all := fun p hp => (own_bl (h.all p hp)).mono (fun _ _ _ => trivial)
  rcases h.row.2 with ⟨rfl, h0⟩ | ⟨g, cap, cur, rfl, hB, hg, hnc, hcm, hcs, htake⟩
  · have : ps = [] := List.length_eq_zero_iff.1 h0
    subst this
    exact ⟨none, 0, rfl, Nat.le_refl _, RsAt.nil _ _⟩
  · refine ⟨some ⟨g, 0, none⟩, cap, rfl, hnc, ⟨fun i hi => ⟨g, 0, rfl, (Array.getElem?_eq_some_iff.1 hg).1, fun j hj k u hu => ?_⟩, hs⟩⟩
    have hk : k < 3 := by
      have := (List.getElem?_eq_some_iff.1 hu).1
      rwa [rrow_len] at this
    rw [Nat.zero_add, World.ownsRow.cellAt h.row _ (by omega), rrows_at ps j k hj hk]
    exact hu
theorem OwnR.led {w : World} {B : Nat} {v : Value} {ps : List RV} (h : OwnR w B v ps) (first next : Nat) : RlAt w (.agg #[.int .u64 (first : Int), .int .u64 (next : Int), v]) ⟨first, next, ps.map Prod.fst⟩ := by
  obtain ⟨a, cap, rfl, hc, hd⟩ := h.view
  exact ⟨a, cap, ps, rfl, hc, rfl, hd⟩
theorem info_rdest : (Try.prog.info? 99).map (fun i => (i.zero, i.size, i.bytes)) = some (some (.agg #[.string ⟨#[]⟩, .int .u64 0, .slice none 0 0]), 3, 48) := by kernel_rfl
theorem rdests_under : Try.prog.underlying 29 = some (.slice 99) := by kernel_rfl
theorem u8_info10 : (Try.prog.info? 5).map (fun i => (i.zero, i.size, i.bytes)) = some (some (.int .u8 0), 1, 1) := by kernel_rfl
theorem u8s_under : Try.prog.underlying 97 = some (.slice 5) := by kernel_rfl
/-- 'append(own, x...)' of bytes that are read. -/
theorem app_b8 {w : World} {B n c : Nat} {v0 : Value} {l0 l : List Nat} {a : Option Addr} {X : Nat → Prop} (h : w.ownsRow B 5 1 v0 l0.length (bV l0)) (hB : B ≤ w.heap.size) (hs : BlIn X w (.slice a n c) l) (hn : n = l.length) (hl : l0.length + l.length ≤ 1000000000) (ty : TypeId) :
    ∃ v' w', (Builtin.append_ #[97, 97] ty #[v0, .slice a n c]).run Try.prog w = .ok v' w' ∧ w'.ownsRow B 5 1 v' (l0 ++ l).length (bV (l0 ++ l)) ∧ w.grownBy w' v0.ownBlock ∧ (v'.ownBlock = v0.ownBlock ∨ v'.ownBlock = some w.heap.size) := by
  subst hn
  obtain ⟨i0, hi, hz0, hz1, hz2⟩ := info_parts u8_info10
  obtain ⟨a', c', e1, _, hz, hu⟩ := hs
  simp only [Value.slice.injEq] at e1
  obtain ⟨rfl, _, rfl⟩ := e1
  cases a with
  | none =>
    have hc0 := hz rfl
    subst hc0
    have hl0 : l = [] := by
      cases l with
      | nil => rfl
      | cons x r =>
        obtain ⟨b, off, ha, _⟩ := hu 0 (by simp)
        cases ha
    subst hl0
    refine ⟨v0, w, run_append_owned_none (P := Try.prog) (w := w) B 97 ty 5 i0 1 u8s_under hi v0 _ _ h, ?_, ⟨rfl, rfl, rfl, Nat.le_refl _, fun _ _ _ => rfl⟩, .inl rfl⟩
    rw [List.append_nil]; exact h
  | some x =>
    obtain ⟨v', w', hr, ho, hg, hob⟩ := Ldg.app_own w B 97 ty 5 i0 _ 1 1 u8s_under hi hz0 hz1 hz2 rfl (by decide) v0 l0.length (bV l0) h x l.length c (bV l) (by rw [bV_len, Nat.mul_one]) hu.cells (bV_one l) (by unfold maxLen; omega) (by omega) hB
    refine ⟨v', w', hr, ?_, hg, hob⟩
    rw [List.length_append, bV_app]
    exact ho
/-- One destination more. -/
theorem OwnR.app {w : World} {B : Nat} {v : Value} {ps : List RV} (h : OwnR w B v ps) (hB : B ≤ w.heap.size) (hn : ps.length ≤ 1000000) (ty : TypeId) (b : Nat) (nm : ByteArray) (s : Nat) (al : List Nat) (sv : Value) (hq : w.heap[b]? = some (.cells #[.string nm, .int .u64 (s : Int), sv] 99 (0, 0)))
    (hal : w.ownsRow B 5 1 sv al.length (bV al)) (hap : ∀ p ∈ ps, ∀ x, p.2.ownBlock = some x → sv.ownBlock ≠ some x) :
    ∃ (ea : Option Addr) (ec : Nat) (w' : World), (Builtin.append_ #[29, 29] ty #[v, .slice (some ⟨b, 0, none⟩) 1 1]).run Try.prog w = .ok (.slice ea (ps.length + 1) ec) w' ∧
      OwnR w' B (.slice ea (ps.length + 1) ec) (ps ++ [(⟨nm, s, al⟩, sv)]) ∧ w.grownBy w' v.ownBlock := by
  obtain ⟨i0, hi, hz0, hz1, hz2⟩ := info_parts info_rdest
  obtain ⟨v', w', hr, ho, hg, hob⟩ := Ldg.app_own w B 29 ty 99 i0 _ 3 48 rdests_under hi hz0 hz1 hz2 rfl (by decide) v ps.length (rrows ps) h.row ⟨b, 0, none⟩ 1 1 (rrow (⟨nm, s, al⟩, sv)) rfl
    (fun j u hu => by rw [Addr.add_lit, Nat.zero_add]; exact lcell_of hq j (by simpa [rrow] using hu)) (fun u hu => by
      obtain ⟨a', c', hv, _⟩ := lown_slice hal
      simp only [rrow, hv, List.mem_cons, List.not_mem_nil, or_false] at hu
      rcases hu with rfl | rfl | rfl <;> rfl) (by unfold maxLen; omega) (by omega) hB
  obtain ⟨ea, ec, hve, _⟩ := lown_slice ho
  subst hve
  have hkeep : ∀ p : RV, (∃ al : List Nat, w.ownsRow B 5 1 p.2 al.length (bV al)) → ∀ g, p.2.ownBlock = some g → w'.heap[g]? = w.heap[g]? := fun p hp g hgp => by
    obtain ⟨al', hal'⟩ := hp
    refine hg.block g (lown_lt hal' hgp).1 (fun e => ?_)
    obtain ⟨c1, h1⟩ := kind_of h.row e.symm
    obtain ⟨c2, h2⟩ := kind_of hal' hgp
    rw [h1] at h2
    simp only [Option.some.injEq, Obj.cells.injEq] at h2
    exact absurd h2.2.1 (by decide)
  refine ⟨ea, ec, w', hr, ⟨?_, fun p hp => ?_, fun i j hi hj hij x hx => ?_⟩, hg⟩
  · rw [List.length_append, rrows_app]
    have : rrows [((⟨nm, s, al⟩, sv) : RV)] = rrow (⟨nm, s, al⟩, sv) := by simp [rrows]
    rw [this]
    exact ho
  · rcases List.mem_append.1 hp with hp | hp
    · exact lown_keep (h.all p hp) (hkeep p ⟨_, h.all p hp⟩)
    · rw [List.mem_singleton.1 hp]
      exact lown_keep hal (hkeep (⟨nm, s, al⟩, sv) ⟨al, hal⟩)
  · have hi' : i < ps.length + 1 := by simpa using hi
    have hj' : j < ps.length + 1 := by simpa using hj
    by_cases ei : i < ps.length
    · rw [List.getElem_append_left ei] at hx
      by_cases ej : j < ps.length
      · rw [List.getElem_append_left ej]
        exact h.apart i j ei ej hij x hx
      · have ej2 : j = ps.length := by omega
        subst ej2
        simp only [List.getElem_concat_length]
        exact hap _ (List.getElem_mem ei) x hx
    · have ei2 : i = ps.length := by omega
      subst ei2
      simp only [List.getElem_concat_length] at hx
      rw [List.getElem_append_left (by omega)]
      exact fun e => hap _ (List.getElem_mem _) x e hx
end Go.Proofs.Ytjbdofjheeljkaa
