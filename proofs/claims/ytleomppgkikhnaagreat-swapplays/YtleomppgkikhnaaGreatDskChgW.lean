/-
  A change of names.
-/
import Derived.Test.YtleomppgkikhnaaGreatDskCutW
import Derived.Test.YtleomppgkikhnaaGreatDskNameW
namespace Go.Proofs.YtleomppgkikhnaaGreat
open Go.RowKit
open Dsk (Nm Hold Fl Ct By)

def adr (o : Option Nat) : Option Addr := o.map (fun b => ⟨b, 0, none⟩)
theorem ptrV_adr (o : Option Nat) : ptrV o = .pointer (adr o) := by cases o <;> rfl

/-- Names stand for others. -/
theorem HeapDisk.maps {S : Nat → Prop} {w w' : World} {p : Nat} {h : Hd} (H : HeapDisk S w p h) {f : Nm} {mc : Nat} (hm : MapIs w' h.bm mc (fun n => (f n).map h.bl)) (ho : Only (one h.bm) w w') (hf : ∀ n i, f n = some i → i < h.made) :
    HeapDisk S w' p { h with f := f, mc := mc } := by
  obtain ⟨es, c, hb⟩ := H.map.block
  have k : ∀ {b : Nat} {cs : Array Value} {t : TypeId}, w.heap[b]? = some (.cells cs t (0, 0)) → w'.heap[b]? = w.heap[b]? := fun hc => ho.block _ (Array.getElem?_eq_some_iff.1 hc).1 (fun e => kind_map hc hb e)
  refine ⟨(k H.blk).trans H.blk, hm, fun i hi => (H.files i hi).keep' (k (H.files i hi).blk) (fun g e => ?_) (fun g e => ?_), H.apart, H.chgs.keep (fun g _ hx => ?_), H.sp, H.sm, fun b hb => Nat.lt_of_lt_of_le (H.lt b hb) ho.size, hf, H.holds⟩
  · obtain ⟨cur, hc⟩ := (H.files i hi).text.kind e
    exact k hc
  · obtain ⟨cur, hc⟩ := own_kind (H.files i hi).cuts e
    exact k hc
  · obtain ⟨cur, t, _, hc⟩ := hx
    exact k hc
/-- Other changes. -/
theorem HeapDisk.chg {S S' : Nat → Prop} {w w' : World} {p : Nat} {h : Hd} (H : HeapDisk S w p h) {cv : Value} {cs : List (List Hold)} (hs : ∀ b, S b → S' b) (hl : ∀ b, S' b → b < w'.heap.size)
    (k : ∀ b, S b → b ≠ p → h.cv.ownBlock ≠ some b → w'.heap[b]? = w.heap[b]?) (hp : w'.heap[p]? = some (diskCells { h with cv := cv, cs := cs })) (hC : ChgsAt S' w' h.bl cv cs) (hh : ∀ c ∈ cs, c.length ≤ 2 ∧ ∀ x ∈ c, x.1.size ≤ maxLen ∧ ∀ i, x.2 = some i → i < h.made) :
    HeapDisk S' w' p { h with cv := cv, cs := cs } := by
  have n1 : ∀ {b : Nat} {c : Array Value} {t : TypeId}, w.heap[b]? = some (.cells c t (0, 0)) → t ≠ 105 → h.cv.ownBlock ≠ some b := fun hb ht e => by
    obtain ⟨vs, h1, _⟩ := H.chgs.row
    obtain ⟨cur, hc⟩ := own_kind h1 e
    exact kind_ne hb hc ht rfl
  refine ⟨hp, H.map.keep (k _ H.sm ?_ (fun e => ?_)), fun i hi => ((H.files i hi).keep' ?_ (fun g e => ?_) (fun g e => ?_)).mono hs, H.apart, hC, hs _ H.sp, hs _ H.sm, hl, H.names, hh⟩
  · obtain ⟨es, c, hm⟩ := H.map.block
    exact (kind_map H.blk hm).symm
  · obtain ⟨es, c, hm⟩ := H.map.block
    obtain ⟨vs, h1, _⟩ := H.chgs.row
    obtain ⟨cur, hc⟩ := own_kind h1 e
    exact kind_map hc hm rfl
  · exact k _ (H.files i hi).s1 (kind_ne (H.files i hi).blk H.blk (by decide)) (n1 (H.files i hi).blk (by decide))
  · obtain ⟨cur, hc⟩ := (H.files i hi).text.kind e
    exact k _ ((H.files i hi).s2 g e) (kind_ne hc H.blk (by decide)) (n1 hc (by decide))
  · obtain ⟨cur, hc⟩ := own_kind (H.files i hi).cuts e
    exact k _ ((H.files i hi).s3 g e) (kind_ne hc H.blk (by decide)) (n1 hc (by decide))

theorem hold_info : ∃ i, Tryz.prog.info? 68 = some i ∧ i.zero = some (.agg #[.string ByteArray.empty, .pointer none]) ∧ i.size = 2 ∧ i.bytes = 24 := by
  have h : (Tryz.prog.info? 68).map (fun i => (i.zero, i.size, i.bytes)) = some (some (.agg #[.string ByteArray.empty, .pointer none]), 2, 24) := by kernel_rfl
  obtain ⟨i, hi, e⟩ := Option.map_eq_some_iff.1 h
  simp only [Prod.mk.injEq] at e
  exact ⟨i, hi, e.1, e.2.1, e.2.2⟩
theorem uchange : Tryz.prog.underlying 105 = some (.slice 68) := by kernel_rfl
theorem uchanges : Tryz.prog.underlying 47 = some (.slice 105) := by kernel_rfl
theorem chg_info : ∃ i, Tryz.prog.info? 105 = some i ∧ i.zero = some (.slice none 0 0) ∧ i.size = 1 ∧ i.bytes = 24 := by
  have h : (Tryz.prog.info? 105).map (fun i => (i.zero, i.size, i.bytes)) = some (some (.slice none 0 0), 1, 24) := by kernel_rfl
  obtain ⟨i, hi, e⟩ := Option.map_eq_some_iff.1 h
  simp only [Prod.mk.injEq] at e
  exact ⟨i, hi, e.1, e.2.1, e.2.2⟩
theorem holdV_snoc (bl : Nat → Nat) (l : List Hold) (n : ByteArray) (o : Option Nat) : holdV bl (l ++ [(n, o)]) = holdV bl l ++ [.string n, .pointer (adr (o.map bl))] := by simp [holdV, ptrV_adr]
theorem own_slice {w : World} {base e size n : Nat} {v : Value} {xs : List Value} (h : w.ownsRow base e size v n xs) : ∃ a c, v = .slice a n c := by
  rcases h.2 with ⟨e, rfl⟩ | ⟨g, cap, cur, e, _⟩
  · exact ⟨_, _, e⟩
  · exact ⟨_, _, e⟩
/-- 'c = append(c, was)': a row of the call's own. -/
theorem hold_app {w : World} {base : Nat} {bl : Nat → Nat} {v : Value} {l : List Hold} (h : w.ownsRow base 68 2 v l.length (holdV bl l)) (n : ByteArray) (o : Option Nat) (hl : l.length ≤ 1000000000000) (hb : base ≤ w.heap.size) (ty : TypeId) :
    ∃ v' w', (Builtin.append_ #[105, 105] ty #[v, .slice (some ⟨w.heap.size, 0, none⟩) 1 1]).run Tryz.prog (w.alloc (.cells #[.string n, .pointer (adr (o.map bl))] 68)) = .ok v' w' ∧
      w'.ownsRow base 68 2 v' (l.length + 1) (holdV bl (l ++ [(n, o)])) ∧ (w.alloc (.cells #[.string n, .pointer (adr (o.map bl))] 68)).grownBy w' v.ownBlock := by
  obtain ⟨i, hi, hz, hs, hby⟩ := hold_info
  obtain ⟨v', w', hr, ho, hg, _⟩ := app_own (w.alloc (.cells #[.string n, .pointer (adr (o.map bl))] 68)) base 105 ty 68 i _ 2 24 uchange hi hz hs hby rfl (by decide) v l.length (holdV bl l) (h.alloc _) ⟨w.heap.size, 0, none⟩ 1 1
    [.string n, .pointer (adr (o.map bl))] rfl (two_new _ _ _ _) (fun u hu => by simp at hu; rcases hu with rfl | rfl <;> rfl) (by unfold maxLen; omega) (by omega) (by simp; omega)
  refine ⟨v', w', hr, ?_, hg⟩
  rw [holdV_snoc]
  exact ho

theorem own_base {w : World} {base e size n : Nat} {v : Value} {xs : List Value} (h : w.ownsRow base e size v n xs) : w.ownsRow 0 e size v n xs := by
  refine ⟨h.1, ?_⟩
  rcases h.2 with h0 | ⟨g, cap, cur, rfl, hb, r⟩
  · exact .inl h0
  · exact .inr ⟨g, cap, cur, rfl, Nat.zero_le _, r⟩
/-- 'd.changes = append(d.changes, c)'. -/
theorem chg_app {w : World} {v : Value} {n : Nat} {vs : List Value} (h : w.ownsRow 0 105 1 v n vs) (c : Value) (hc : c.oneCell' = true) (hl : n ≤ 1000000000000) (ty : TypeId) :
    ∃ v' w', (Builtin.append_ #[47, 47] ty #[v, .slice (some ⟨w.heap.size, 0, none⟩) 1 1]).run Tryz.prog (w.alloc (.cells #[c] 105)) = .ok v' w' ∧
      w'.ownsRow 0 105 1 v' (n + 1) (vs ++ [c]) ∧ (w.alloc (.cells #[c] 105)).grownBy w' v.ownBlock ∧ (v'.ownBlock = v.ownBlock ∨ v'.ownBlock = some (w.alloc (.cells #[c] 105)).heap.size) := by
  obtain ⟨i, hi, hz, hs, hby⟩ := chg_info
  exact app_own (w.alloc (.cells #[c] 105)) 0 47 ty 105 i _ 1 24 uchanges hi hz hs hby rfl (by decide) v n vs (h.alloc _) ⟨w.heap.size, 0, none⟩ 1 1 [c] rfl (fun j u hj => by
    rw [Addr.add_lit, Nat.zero_add]
    match j, hj with
    | 0, hj => simp at hj ⊢; exact hj) (fun u hu => by simp at hu; subst hu; exact hc) (by unfold maxLen; omega) (by omega) (Nat.zero_le _)

def NowAt (w : World) (b o : Nat) (bl : Nat → Nat) (now : List Hold) : Prop := ∀ k (hk : k < now.length), w.cell? ⟨b, o + k * 2, none⟩ = some (.string now[k].1) ∧ w.cell? ⟨b, o + k * 2 + 1, none⟩ = some (.pointer (adr (now[k].2.map bl)))
theorem NowAt.keep {w w' : World} {b o : Nat} {bl : Nat → Nat} {now : List Hold} (h : NowAt w b o bl now) (e : w'.heap[b]? = w.heap[b]?) : NowAt w' b o bl now := fun k hk =>
  ⟨(World.cell?_of_block (w := w) (w' := w') (a := ⟨b, o + k * 2, none⟩) e).trans (h k hk).1, (World.cell?_of_block (w := w) (w' := w') (a := ⟨b, o + k * 2 + 1, none⟩) e).trans (h k hk).2⟩
def szF (fl : Nat → Fl) : Option Nat → Int
  | none => 0
  | some i => ((fl i).text.length : Int)
def usedC (fl : Nat → Fl) : List Hold → Nm → Int → Int
  | [], _, u => u
  | h :: r, f, u => usedC fl r (Dsk.putN h f) (u + (szF fl h.2 - szF fl (f h.1)))
theorem put_map (bl : Nat → Nat) (n : ByteArray) (o : Option Nat) (f : Nm) : Dsk.putN (n, o.map bl) (fun m => (f m).map bl) = fun m => (Dsk.putN (n, o) f m).map bl := by
  funext m
  unfold Dsk.putN
  simp only
  split <;> rfl
theorem chg_drop {now : List Hold} {k : Nat} (hk : k < now.length) (c : List Hold) (f : Nm) : Dsk.chg (now.drop k) c f = Dsk.chg (now.drop (k + 1)) (c ++ [(now[k].1, f now[k].1)]) (Dsk.putN now[k] f) := by
  rw [List.drop_eq_getElem_cons hk]; rfl
theorem usedC_drop (fl : Nat → Fl) {now : List Hold} {k : Nat} (hk : k < now.length) (f : Nm) (u : Int) : usedC fl (now.drop k) f u = usedC fl (now.drop (k + 1)) (Dsk.putN now[k] f) (u + (szF fl now[k].2 - szF fl (f now[k].1))) := by
  rw [List.drop_eq_getElem_cons hk]; rfl

set_option maxHeartbeats 800000 in
/-- size, of a file or of none. -/
theorem size_of {S : Nat → Prop} {w : World} {p : Nat} {h : Hd} (H : HeapDisk S w p h) (o : Option Nat) (ho : ∀ i, o = some i → i < h.made) :
    Calls Tryz.prog 88 #[.pointer (adr (o.map h.bl))] w fun e w' => e = .returned (.int .i64 (szF h.fl o)) ∧ w' = w := by
  cases o with
  | none => exact size_none w
  | some i => exact size_at H (ho i rfl)
/-- A holding is put into a disk's names. -/
theorem put_of {w : World} {b c : Nat} {f : Nm} {bl : Nat → Nat} (h : MapIs w b c (fun n => (f n).map bl)) (n : ByteArray) (hn : n.size ≤ maxLen) (hc : c < maxLen) (o : Option Nat) :
    Calls Tryz.prog 76 #[.agg #[.string n, .pointer (adr (o.map bl))], .map (some b)] w fun e w' => e = .returned (.tuple #[]) ∧ MapIs w' b (c + 1) (fun m => (Dsk.putN (n, o) f m).map bl) ∧ Only (one b) w w' := by
  cases o with
  | none => exact (put_none h n hn).mono fun e w' ⟨a, m, x⟩ => ⟨a, (m.mono (Nat.le_succ _)).eq (put_map bl n none f), x⟩
  | some i => exact (put_some h n hn hc (bl i)).mono fun e w' ⟨a, m, x⟩ => ⟨a, m.eq (put_map bl n (some i) f), x⟩

set_option maxRecDepth 100000 in
set_option maxHeartbeats 600000 in
theorem change_at {S : Nat → Prop} {w : World} {p : Nat} {h : Hd} (H : HeapDisk S w p h) (now : List Hold) (ab ao c : Nat) (hnow : NowAt w ab ao h.bl now) (hab : ab < w.heap.size) (hnS : ¬ S ab) (hl : now.length ≤ 2)
    (hix : ∀ x ∈ now, ∀ i, x.2 = some i → i < h.made) (hnm : ∀ x ∈ now, x.1.size ≤ maxLen) (hmc : h.mc ≤ 1000000000000) (hcs : h.cs.length ≤ 1000000000000) (hu : -1152921504606846976 ≤ h.used ∧ h.used ≤ 1152921504606846976) (hz : ∀ i, i < h.made → (h.fl i).text.length ≤ 140737488355328) :
    Calls Tryz.prog 58 #[.pointer (some ⟨p, 0, none⟩), .slice (some ⟨ab, ao, none⟩) now.length c] w fun e w' => e = .returned (.tuple #[]) ∧
      (∃ cv, HeapDisk (more S w w') w' p { h with used := usedC h.fl now h.f h.used, mc := h.mc + now.length, cv := cv, cs := h.cs ++ [(Dsk.chg now [] h.f).1], f := (Dsk.chg now [] h.f).2 }) ∧ Only S w w' := by
  have HH := hide H
  have HN := hide hnow
  clear H hnow
  go_enter Tryz.func58, Tryz.ntmps58
  go_wp2
  go_loopw [4, 10] (fun v i wr => ∃ (k : Nat) (cl : List Hold) (f : Nm) (u : Int), i = .int .i64 (k : Int) ∧ k ≤ now.length ∧ cl.length = k ∧ Hid (wr.ownsRow w.heap.size 68 2 v cl.length (holdV h.bl cl)) ∧ Hid (Dsk.chg now [] h.f = Dsk.chg (now.drop k) cl f) ∧ Hid (usedC h.fl now h.f h.used = usedC h.fl (now.drop k) f u) ∧
      Hid (HeapDisk S wr p { h with used := u, mc := h.mc + k, f := f }) ∧ Hid (Only S w wr) ∧ Hid (∀ x ∈ cl, x.1.size ≤ maxLen ∧ ∀ i, x.2 = some i → i < h.made) ∧ -1152921504606846976 - k * 140737488355328 ≤ u ∧ u ≤ 1152921504606846976 + k * 140737488355328) (fun v i _ => now.length - (intOf i).toNat)
  case atStart => exact ⟨0, [], h.f, h.used, rfl, Nat.zero_le _, rfl, World.ownsRow_nil _ _ _ _, rfl, rfl, HH, Only.refl _ _, by show ∀ x ∈ [], _; simp, by omega, by omega⟩
  case round =>
    obtain ⟨k, cl, f, u, rfl, hk, hck, HR, HCH, HU, HD, HO, HI, hu1, hu2⟩ := hrel
    by_cases hlt : k < now.length
    · obtain ⟨n1, n2⟩ := (HN.out.keep (HO.out.block ab hab hnS)) k hlt
      obtain ⟨n, hnn⟩ : ∃ n, now[k].1 = n := ⟨_, rfl⟩
      obtain ⟨o, hoo⟩ : ∃ o, now[k].2 = o := ⟨_, rfl⟩
      have HNO : Hid (now[k] = (n, o)) := hide (by rw [← hnn, ← hoo])
      rw [hnn] at n1
      rw [hoo] at n2
      clear hnn hoo
      have hoi : ∀ i, o = some i → i < h.made := fun i e => hix _ (List.getElem_mem hlt) i (by rw [HNO.out]; exact e)
      have hni : n.size ≤ maxLen := by have := hnm _ (List.getElem_mem hlt); rwa [HNO.out] at this
      have HOI := hide hoi
      clear hoi
      have hvb : ∀ g, u4.ownBlock = some g → w.heap.size ≤ g ∧ g < wr.heap.size := fun g e => HR.out.lt g e
      have HVB := hide hvb
      have hSlt : ∀ b, S b → b < w.heap.size := HH.out.lt
      have HSL := hide hSlt
      clear hvb hSlt
      have hsw : w.heap.size ≤ wr.heap.size := HO.out.size
      obtain ⟨q, hq⟩ : ∃ q, f n = q := ⟨_, rfl⟩
      have HQ : Hid (f n = q) := hide hq
      have hqi : Hid (∀ i, q = some i → i < h.made) := hide (fun i e => HD.out.names n i (hq.trans e))
      clear hq
      go_wp2_with fail
      refine wp_region_growK (fun b => b = wr.heap.size ∨ S b) [([0, 1, 2, 3, 4, 5, 6, 7, 8, 9], 10)] [] [11] (by kernel_rfl) (by kernel_rfl) (by kernel_rfl) (by kernel_rfl) ?_
      intro w1 hb1
      simp only [stagesOfK, getLK, pickLK]
      have hs1 : wr.heap.size + 1 ≤ w1.heap.size := by have := hb1.size; simpa using this
      have H1 := HD.out.below (((Below.refl _ wr).alloc (Nat.le_refl _) _).trans (hb1.mono (by simp)))
      have e0 : w1.cell? ⟨wr.heap.size, 0, none⟩ = some (.string n) := (hb1.cell (p := ⟨wr.heap.size, 0, none⟩) (by simp)).trans (by simp)
      have e1 : w1.cell? ⟨wr.heap.size, 1, none⟩ = some (.pointer (adr (o.map h.bl))) := (hb1.cell (p := ⟨wr.heap.size, 1, none⟩) (by simp)).trans (by simp)
      obtain ⟨_, _, _, _, _, _, c6, _, _⟩ := H1.look
      have inh : Nonempty (GrK (fun b => b = wr.heap.size ∨ S b) w1) := GrK.some _ w1
      have x0 := fun x : GrK (fun b => b = wr.heap.size ∨ S b) w1 => x.cell (a := ⟨wr.heap.size, 0, none⟩) (.inl rfl) e0
      have x6 := fun x : GrK (fun b => b = wr.heap.size ∨ S b) w1 => x.cell (a := ⟨p, 6, none⟩) (.inr H1.sp) c6
      have xl := fun x : GrK (fun b => b = wr.heap.size ∨ S b) w1 => (H1.map.keep (x.below.block _ (.inr H1.sm))).look hni
      simp only [HQ.out, ptrV_adr] at xl
      have HH1 := hide H1
      clear H1 c6
      refine wpG_stageK ?_
      repeat (go_big_quiet_step (fail))
      refine wpQuiet_nil ?_
      clear x0 x6 xl inh
      go_wp2
      refine OnToK.mk (Kept.of_below ((Below.refl _ w1).alloc (Nat.le_refl _) _) (fun b e => ?_)) (Sub.refl _) ?_
      · rcases e with rfl | e
        · omega
        · have := HSL.out b e; omega
      refine wpG_lastK (wpQuiet_nil ?_)
      have HR1 : Hid ((w1.alloc (.cells #[.string n, .pointer (adr (q.map h.bl))] 68)).ownsRow w.heap.size 68 2 u4 cl.length (holdV h.bl cl)) := hide (World.ownsRow.alloc (own_keep (own_keep HR.out (fun g e => Below.heap_alloc _ _ g (HVB.out g e).2)) (fun g e => hb1.block g (by have := (HVB.out g e).2; simp; omega))) _)
      obtain ⟨v2, w2, hr2, ho2, hg2⟩ := hold_app HR1.out n q (by omega) (by simp; omega) 105
      rw [World.size_alloc] at hr2
      have HRR := hide hr2
      clear hr2
      go_wp2_with (at_builtin; refine wpList_app_run rfl _ _ _ _ rfl rfl rfl HRR.out ?_)
      have hz2 : w1.heap.size + 2 ≤ w2.heap.size := by have := hg2.size; simp at this; omega
      have k2 : ∀ b, b < w1.heap.size → u4.ownBlock ≠ some b → w2.heap[b]? = w1.heap[b]? := fun b hb hn => by
        rw [hg2.block b (by simp; omega) (fun e => hn e.symm), Below.heap_alloc _ _ b (by simp; omega), Below.heap_alloc _ _ b hb]
      have hv4 : ∀ b, wr.heap.size ≤ b → u4.ownBlock ≠ some b := fun b hb e => by have := (HVB.out b e).2; omega
      have hvS : ∀ b, S b → u4.ownBlock ≠ some b := fun b hb e => by have := (HVB.out b e).1; have := HSL.out b hb; omega
      have H2 : HeapDisk S w2 p { h with used := u, mc := h.mc + k, f := f } := HH1.out.keep (by omega) (fun b hb => k2 b (by have := HSL.out b hb; omega) (hvS b hb))
      have f0 : w2.cell? ⟨wr.heap.size, 0, none⟩ = some (.string n) := (World.cell?_of_block (w := w1) (a := ⟨wr.heap.size, 0, none⟩) (k2 wr.heap.size (by omega) (hv4 _ (Nat.le_refl _)))).trans e0
      have f1 : w2.cell? ⟨wr.heap.size, 1, none⟩ = some (.pointer (adr (o.map h.bl))) := (World.cell?_of_block (w := w1) (a := ⟨wr.heap.size, 1, none⟩) (k2 wr.heap.size (by omega) (hv4 _ (Nat.le_refl _)))).trans e1
      have g1 : w2.cell? ⟨w1.heap.size, 1, none⟩ = some (.pointer (adr (q.map h.bl))) := by
        refine (World.cell?_of_block (w := w1.alloc (.cells #[.string n, .pointer (adr (q.map h.bl))] 68)) (a := ⟨w1.heap.size, 1, none⟩) ?_).trans (by simp)
        rw [hg2.block _ (by simp; omega) (fun e => hv4 w1.heap.size (by omega) e.symm), Below.heap_alloc _ _ _ (by simp)]
      obtain ⟨va, vc, rfl⟩ := own_slice ho2
      have HG2 : Hid (∀ b, b < w.heap.size → ¬ S b → w2.heap[b]? = w.heap[b]?) := hide (fun b hb hn => by
        rw [k2 b (by omega) (fun e => by have := (HVB.out b e).1; omega), hb1.block b (by simp; omega), Below.heap_alloc _ _ b (by omega)]
        exact HO.out.block b hb hn)
      have HO2 : Hid (Only S w w2) := hide ⟨hg2.os.trans (hb1.os.trans HO.out.os), hg2.tape.trans (hb1.tape.trans HO.out.tape), hg2.output.trans (hb1.output.trans HO.out.output), by omega, HG2.out⟩
      have HW2 := hide ho2
      have HH2 := hide H2
      clear ho2 hg2 k2 hv4 hvS H2 e0 e1 hb1 HR1 HRR HH1 HG2
      obtain ⟨c0, c1, c2, c3, c4, c5, c6, c7, cf⟩ := HH2.out.look
      go_wp2_with fail
      refine wp_region_growK (fun b => b = wr.heap.size ∨ b = w1.heap.size ∨ S b) [([0, 1, 2, 3, 4, 5, 7, 8], 6), ([], 9)] [10, 11, 12, 13] [14] (by kernel_rfl) (by kernel_rfl) (by kernel_rfl) (by kernel_rfl) ?_
      intro w3 hb3
      simp only [stagesOfK, getLK, pickLK]
      have hs3 := hb3.size
      have c1 := (hb3.cell (p := ⟨p, 1, none⟩) (HH2.out.lt p HH2.out.sp)).trans c1
      have c6 := (hb3.cell (p := ⟨p, 6, none⟩) (HH2.out.lt p HH2.out.sp)).trans c6
      have cf := fun j => (hb3.frozen (p := ⟨p, j, none⟩) (HH2.out.lt p HH2.out.sp)).trans (cf j)
      have f0 := (hb3.cell (p := ⟨wr.heap.size, 0, none⟩) (show wr.heap.size < w2.heap.size by omega)).trans f0
      have f1 := (hb3.cell (p := ⟨wr.heap.size, 1, none⟩) (show wr.heap.size < w2.heap.size by omega)).trans f1
      have g1 := (hb3.cell (p := ⟨w1.heap.size, 1, none⟩) (show w1.heap.size < w2.heap.size by omega)).trans g1
      have HH3 := hide (HH2.out.below hb3)
      have HO3 := hide (HO2.out.then_below hb3)
      have HW3 := hide (own_keep HW2.out (fun g e => hb3.block g (HW2.out.lt g e).2))
      clear c0 c2 c3 c4 c5 c7 HO2 HW2 hb3
      have inh : Nonempty (GrK (fun b => b = wr.heap.size ∨ b = w1.heap.size ∨ S b) w3) := GrK.some _ w3
      have x1 := fun x : GrK (fun b => b = wr.heap.size ∨ b = w1.heap.size ∨ S b) w3 => x.cell (a := ⟨p, 1, none⟩) (.inr (.inr HH3.out.sp)) c1
      have xf := fun x : GrK (fun b => b = wr.heap.size ∨ b = w1.heap.size ∨ S b) w3 => x.cell (a := ⟨wr.heap.size, 1, none⟩) (.inl rfl) f1
      have xg := fun x : GrK (fun b => b = wr.heap.size ∨ b = w1.heap.size ∨ S b) w3 => x.cell (a := ⟨w1.heap.size, 1, none⟩) (.inr (.inl rfl)) g1
      refine wpG_stageK ?_
      repeat (go_big_quiet_step (fail))
      refine wpQuiet_nil ?_
      go_wp2_with fail
      refine (size_of HH3.out o HOI.out).mono ?_
      rintro e wx ⟨rfl, hw⟩
      rw [hw]
      clear hw
      go_wp2
      refine OnToK.mk (Kept.refl _ _) (Sub.refl _) ?_
      refine wpG_stageK (wpQuiet_nil ?_)
      go_wp2_with fail
      refine (size_of HH3.out q hqi.out).mono ?_
      rintro e wx ⟨rfl, hw⟩
      rw [hw]
      clear hw
      have hso : 0 ≤ szF h.fl o ∧ szF h.fl o ≤ 140737488355328 := by
        cases o with
        | none => exact ⟨Int.le_refl _, by show (0 : Int) ≤ _; omega⟩
        | some i => have := hz i (HOI.out i rfl); exact ⟨by show (0 : Int) ≤ ((h.fl i).text.length : Int); omega, by show ((h.fl i).text.length : Int) ≤ _; omega⟩
      have hsq : 0 ≤ szF h.fl q ∧ szF h.fl q ≤ 140737488355328 := by
        cases q with
        | none => exact ⟨Int.le_refl _, by show (0 : Int) ≤ _; omega⟩
        | some i => have := hz i (hqi.out i rfl); exact ⟨by show (0 : Int) ≤ ((h.fl i).text.length : Int); omega, by show ((h.fl i).text.length : Int) ≤ _; omega⟩
      obtain ⟨dd, hdd⟩ : ∃ dd, szF h.fl o - szF h.fl q = dd := ⟨_, rfl⟩
      obtain ⟨uu, huu⟩ : ∃ uu, u + dd = uu := ⟨_, rfl⟩
      have hw1 : IntKind.i64.wrap (szF h.fl o - szF h.fl q) = dd := by rw [IntKind.wrap_i64]; omega
      have hw2 : IntKind.i64.wrap (u + dd) = uu := by rw [IntKind.wrap_i64]; omega
      have hu3 : -1152921504606846976 - ((k + 1 : Nat) : Int) * 140737488355328 ≤ uu ∧ uu ≤ 1152921504606846976 + ((k + 1 : Nat) : Int) * 140737488355328 := by push_cast; omega
      have HDD : Hid (uu = u + (szF h.fl o - szF h.fl q)) := hide (by omega)
      clear hdd huu hso hsq hu1 hu2
      go_wp2
      refine OnToK.mk (Kept.refl _ _) (Sub.refl _) ?_
      refine wpG_lastK ?_
      repeat (go_big_quiet_step (fail))
      refine wpQuiet_nil ?_
      clear x1 xf xg inh hw1 hw2
      obtain ⟨w4, hw4⟩ : ∃ w4, w3.setCell ⟨p, 1, none⟩ (.int .i64 uu) = w4 := ⟨_, rfl⟩
      have H4 : HeapDisk S w4 p { h with used := uu, mc := h.mc + k, f := f } := by rw [← hw4]; exact HH3.out.set { h with used := uu, mc := h.mc + k, f := f } 1 _ rfl rfl
      have hz4 : w4.heap.size = w3.heap.size := by rw [← hw4]; simp [World.setCell]
      have HO4 : Hid (Only S w w4) := by rw [← hw4]; exact hide (HO3.out.setCell (p := ⟨p, 1, none⟩) HH3.out.sp _)
      have hne : ∀ b, b ≠ p → w4.heap[b]? = w3.heap[b]? := fun b hb => by rw [← hw4]; exact Below.heap_setCell _ _ _ _ hb
      have hp : p < w.heap.size := HSL.out p HH3.out.sp
      have f0 : w4.cell? ⟨wr.heap.size, 0, none⟩ = some (.string n) := (World.cell?_of_block (w := w3) (a := ⟨wr.heap.size, 0, none⟩) (hne wr.heap.size (by omega))).trans f0
      have f1 : w4.cell? ⟨wr.heap.size, 1, none⟩ = some (.pointer (adr (o.map h.bl))) := (World.cell?_of_block (w := w3) (a := ⟨wr.heap.size, 1, none⟩) (hne wr.heap.size (by omega))).trans f1
      have HW4 := hide (own_keep HW3.out (fun g e => hne g (by have := (HW3.out.lt g e).1; omega)))
      obtain ⟨_, _, _, _, _, _, d6, _, _⟩ := H4.look
      have HH4 := hide H4
      have HZ4 : Hid (w4.heap.size = w3.heap.size) := hide hz4
      clear H4 hz4 hne g1 HO3 HW3 HH3 c6
      go_wp2_with fail
      clear hw4 c1 cf
      refine wp_region_growK (fun b => b = wr.heap.size ∨ b = p) [([0, 1, 2, 3, 4], 5)] [] [] (by kernel_rfl) (by kernel_rfl) (by kernel_rfl) (by kernel_rfl) ?_
      intro w5 hb5
      simp only [stagesOfK, getLK, pickLK]
      have hlr : wr.heap.size < w4.heap.size := by have := HZ4.out; omega
      have hlp : p < w4.heap.size := by have := HZ4.out; omega
      have inh : Nonempty (GrK (fun b => b = wr.heap.size ∨ b = p) w5) := GrK.some _ w5
      have x0 := fun x : GrK (fun b => b = wr.heap.size ∨ b = p) w5 => x.cell (a := ⟨wr.heap.size, 0, none⟩) (.inl rfl) ((hb5.cell (p := ⟨wr.heap.size, 0, none⟩) hlr).trans f0)
      have x1 := fun x : GrK (fun b => b = wr.heap.size ∨ b = p) w5 => x.cell (a := ⟨wr.heap.size, 1, none⟩) (.inl rfl) ((hb5.cell (p := ⟨wr.heap.size, 1, none⟩) hlr).trans f1)
      have x6 := fun x : GrK (fun b => b = wr.heap.size ∨ b = p) w5 => x.cell (a := ⟨p, 6, none⟩) (.inr rfl) ((hb5.cell (p := ⟨p, 6, none⟩) hlp).trans d6)
      refine wpG_stageK ?_
      repeat (go_big_quiet_step (fail))
      refine wpQuiet_nil ?_
      clear x0 x1 x6 inh
      have H5 := HH4.out.below hb5
      have HO5 := hide (HO4.out.then_below hb5)
      have HW5 := hide (own_keep HW4.out (fun g e => hb5.block g (HW4.out.lt g e).2))
      go_wp2_with fail
      refine (put_of H5.map n hni (by simp only; unfold maxLen; omega) o).mono ?_
      rintro e w6 ⟨rfl, hm6, ho6⟩
      have hbm : h.bm < w.heap.size := HSL.out _ H5.sm
      have H6 := H5.maps hm6 ho6 (fun m i e => by
        unfold Dsk.putN at e
        simp only at e
        split at e
        · exact HOI.out i e
        · exact H5.names m i e)
      have HH6 := hide H6
      have HO6 : Hid (Only S w w6) := hide (HO5.out.trans' (ho6.mono (fun b e => e ▸ H5.sm)))
      have HW6 := hide (own_keep HW5.out (fun g e => ho6.block g (HW5.out.lt g e).2 (fun e' => by have := (HW5.out.lt g e).1; have e' : g = h.bm := e'; omega)))
      have HK6 : Hid (Kept (fun b => b = wr.heap.size ∨ b = p) w5 w6) := hide ⟨ho6.os, ho6.tape, ho6.output, ho6.size, fun b e => ho6.block b (by have := hb5.size; rcases e with rfl | rfl <;> omega) (fun e' => by
        have e' : b = h.bm := e'
        rcases e with rfl | rfl
        · omega
        · obtain ⟨es, c, hm⟩ := H5.map.block
          exact kind_map H5.blk hm e')⟩
      clear H5 H6 hm6 ho6 HO5 HW5
      go_wp2
      refine OnToK.mk HK6.out (Sub.refl _) ?_
      refine wpG_lastK (wpQuiet_nil ?_)
      go_wp2
      go_roundw
      case rel =>
        refine ⟨k + 1, cl ++ [(n, q)], Dsk.putN (n, o) f, uu, by go_num, hlt, by simp [hck], ?_, ?_, ?_, ?_, HO6, ?_, hu3.1, hu3.2⟩
        · refine hide ?_
          have x := HW6.out
          simp only [List.length_append, List.length_singleton, hck] at x ⊢
          exact x
        · refine hide ?_
          rw [HCH.out, chg_drop hlt, HNO.out]; simp only; rw [HQ.out]
        · refine hide ?_
          rw [HU.out, usedC_drop _ hlt, HNO.out]; simp only; rw [HQ.out, ← HDD.out]
        · exact HH6
        · show ∀ x ∈ _, _
          intro x hx
          rcases List.mem_append.1 hx with hx | hx
          · exact HI.out x hx
          · simp at hx; subst hx; exact ⟨hni, hqi.out⟩
      case measure => simp [intOf]; omega
    · have hkn : k = now.length := by omega
      have HC2 : Hid (Dsk.chg now [] h.f = (cl, f)) := hide (by rw [HCH.out, hkn, List.drop_length]; rfl)
      have HU2 : Hid (usedC h.fl now h.f h.used = u) := hide (by rw [HU.out, hkn, List.drop_length]; rfl)
      obtain ⟨va, vc, rfl⟩ := own_slice HR.out
      obtain ⟨vs, hvs, hvh⟩ := HD.out.chgs.row
      obtain ⟨cv', w2, hr2, ho2, hg2, hb2⟩ := chg_app hvs (.slice va cl.length vc) rfl hcs 47
      obtain ⟨ca, cc, hcv⟩ := own_slice hvs
      obtain ⟨ca', cc', rfl⟩ := own_slice ho2
      obtain ⟨c0, c1, c2, c3, c4, c5, c6, c7, cf⟩ := HD.out.look
      simp only at hcv hr2 c7
      rw [hcv] at c7 hr2
      have hp : p < w.heap.size := HH.out.lt p HH.out.sp
      have hsw := HO.out.size
      have hz2 : wr.heap.size + 1 ≤ w2.heap.size := by have := hg2.size; simpa using this
      have k2 : ∀ b, b < wr.heap.size → h.cv.ownBlock ≠ some b → w2.heap[b]? = wr.heap[b]? := fun b hb hn => by
        rw [hg2.block b (by simp; omega) (fun e => hn e.symm), Below.heap_alloc _ _ b hb]
      have hpc : h.cv.ownBlock ≠ some p := fun e => by
        obtain ⟨cur, hc⟩ := own_kind hvs e
        exact kind_ne HD.out.blk hc (by decide) rfl
      have hpk : w2.heap[p]? = some (diskCells { h with used := u, mc := h.mc + k, f := f }) := (k2 p (by omega) hpc).trans HD.out.blk
      have d7 : w2.cell? ⟨p, 7, none⟩ = some (.slice ca h.cs.length cc) := by rw [← hcv]; exact cell_of hpk 7 rfl
      have df : ∀ j, w2.frozen? ⟨p, j, none⟩ = false := frozen_of hpk
      have HRR := hide hr2
      have HPK := hide hpk
      have HK2 := hide k2
      have HO2 := hide ho2
      have HG2 := hide hg2
      have HB2 := hide hb2
      have HVS := hide hvs
      have HVH := hide hvh
      have HCK := hide hck
      have HCV := hide hcv
      clear hr2 hpk k2 ho2 hg2 hb2 hvs hvh hcv hpc hkn c0 c1 c2 c3 c4 c5 c6 hck
      go_wp2_with (at_builtin; refine wpList_app_run rfl _ _ _ _ rfl rfl rfl HRR.out ?_)
      go_end0
      have hkeep : ∀ x, x ≠ p → (w2.setCell ⟨p, 7, none⟩ (.slice ca' (h.cs.length + 1) cc')).heap[x]? = w2.heap[x]? := fun x hx => Below.heap_setCell _ _ _ _ hx
      have hzz : (w2.setCell ⟨p, 7, none⟩ (.slice ca' (h.cs.length + 1) cc')).heap.size = w2.heap.size := by simp [World.setCell]
      have hfin : HeapDisk (more S w (w2.setCell ⟨p, 7, none⟩ (.slice ca' (h.cs.length + 1) cc'))) (w2.setCell ⟨p, 7, none⟩ (.slice ca' (h.cs.length + 1) cc')) p { { h with used := u, mc := h.mc + k, f := f } with cv := .slice ca' (h.cs.length + 1) cc', cs := h.cs ++ [cl] } := by
        refine HD.out.chg (fun _ => .inl) (fun b hb => ?_) (fun b hb h1 h2 => ?_) ?_ ⟨⟨vs ++ [.slice va cl.length vc], ?_, fun j hj => ?_⟩, fun g e => ?_⟩ (fun c hc => ?_)
        · rw [hzz]
          rcases hb with hb | hb
          · have := HH.out.lt b hb; omega
          · rw [hzz] at hb; exact hb.2
        · rw [hkeep b h1]; exact HK2.out b (by have := HH.out.lt b hb; omega) h2
        · rw [heap_setCell_same _ _ _ _ _ _ HPK.out]; rfl
        · have x := own_keep HO2.out (w' := w2.setCell ⟨p, 7, none⟩ (.slice ca' (h.cs.length + 1) cc')) (fun g e => hkeep g (fun e' => by
            obtain ⟨cur, hc⟩ := own_kind HO2.out e
            exact kind_ne HPK.out hc (by decide) e'.symm))
          simp only [List.length_append, List.length_singleton] at x ⊢
          exact x
        · have keepH : ∀ (g : Nat), (∃ cur : Array Value, wr.heap[g]? = some (Obj.cells cur 68 (0, 0))) → (w2.setCell ⟨p, 7, none⟩ (.slice ca' (h.cs.length + 1) cc')).heap[g]? = wr.heap[g]? := fun g ⟨cur, hc⟩ => by
            rw [hkeep g (fun e => kind_ne HD.out.blk hc (by decide) e.symm)]
            refine HK2.out g (Array.getElem?_eq_some_iff.1 hc).1 (fun e => ?_)
            obtain ⟨cur', hc'⟩ := own_kind HVS.out e
            exact kind_ne hc hc' (by decide) rfl
          have hvl : vs.length = h.cs.length := by have := HVS.out.1; simpa using this
          by_cases hj2 : j < h.cs.length
          · obtain ⟨v, hv, hh⟩ := HVH.out j hj2
            refine ⟨v, by rw [List.getElem?_append_left (by omega)]; exact hv, ?_⟩
            rw [List.getElem_append_left hj2]
            exact (hh.keep (fun g _ hx => keepH g hx)).mono (fun _ => .inl)
          · have hj3 : j = h.cs.length := by rw [List.length_append, List.length_singleton] at hj; omega
            subst hj3
            refine ⟨.slice va cl.length vc, by rw [List.getElem?_append_right (by omega), hvl]; simp, ?_⟩
            rw [List.getElem_append_right (Nat.le_refl _)]
            simp only [Nat.sub_self, List.getElem_singleton]
            have hR := HR.out
            refine ⟨own_keep (own_base hR) (fun g e => keepH g (own_kind hR e)), fun g e => .inr ?_⟩
            have := hR.lt g e
            rw [hzz]; omega
        · rcases HB2.out with e' | e'
          · rw [e'] at e; exact .inl (HD.out.chgs.s g e)
          · rw [e'] at e
            simp only [World.size_alloc, Option.some.injEq] at e
            obtain ⟨cur, hc⟩ := own_kind HO2.out (g := g) (by rw [e']; simp [e])
            have := (Array.getElem?_eq_some_iff.1 hc).1
            exact .inr ⟨by omega, by rw [hzz]; exact this⟩
        · rcases List.mem_append.1 hc with hc | hc
          · exact HD.out.holds c hc
          · simp at hc; subst hc; exact ⟨by have := HCK.out; omega, HI.out⟩
      have hkn : k = now.length := by omega
      refine ⟨rfl, ⟨.slice ca' (h.cs.length + 1) cc', ?_⟩, ?_⟩
      · rw [HC2.out, HU2.out]
        simp only
        rw [← hkn]
        exact hfin
      · refine Only.setCell (p := ⟨p, 7, none⟩) ⟨HG2.out.os.trans HO.out.os, HG2.out.tape.trans HO.out.tape, HG2.out.output.trans HO.out.output, by omega, fun b hb hn => ?_⟩ HH.out.sp _
        rw [HK2.out b (by omega) (fun e => hn (HD.out.chgs.s b e))]
        exact HO.out.block b hb hn
end Go.Proofs.YtleomppgkikhnaaGreat
