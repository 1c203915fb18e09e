/-
  The program's disk in memory is one of the chapter's.
-/
import Derived.Test.YtleomppgkikhnaaGreatDskChgW
import Derived.Test.YtleomppgkikhnaaGreatPlain
namespace Go.Proofs.YtleomppgkikhnaaGreat
open Go.RowKit
open Dsk (Nm Hold Fl Ct By Dk FRel NRel)

structure Rel (h : Hd) (D : Dk) : Prop where
  room : h.room = D.room
  used : h.used = ((Dsk.used D : Nat) : Int)
  num : h.num = D.files.length
  made : h.made = D.files.length
  ops : h.ops = D.ops
  power : h.power = D.left
  fail : h.fail.toNat = D.fail
  files : ∀ i, i < h.made → FRel (h.fl i) (Dsk.hist D i)
  names : NRel h.f h.cs D.dirs
theorem Rel.find {h : Hd} {D : Dk} (R : Rel h D) (n : ByteArray) : h.f n = Dsk.find (Dsk.dir D) n := R.names.now n
theorem Rel.now {h : Hd} {D : Dk} (R : Rel h D) {i : Nat} (hi : i < h.made) : Dsk.now D i = (h.fl i).text := (R.files i hi).last
theorem Rel.on {h : Hd} {D : Dk} (R : Rel h D) : Rel h.on (Dsk.on D) :=
  ⟨R.room, R.used, R.num, R.made, congrArg (· + 1) R.ops, by show (if 0 < h.power then h.power - 1 else h.power) = if 0 < D.left then D.left - 1 else D.left; rw [R.power], R.fail, R.files, R.names⟩
theorem Rel.setfile {h : Hd} {D : Dk} (R : Rel h D) (hk : Dsk.Ok D) {n : ByteArray} {i : Nat} (hf : Dsk.find (Dsk.dir D) n = some i) {F : Fl} {l : List By} (hF : FRel F l) (tv kv : Value) {u x : Int} (hu : u = h.used - ((h.fl i).text.length : Int) + (F.text.length : Int)) {k : Nat} (hx : x.toNat = k) :
    Rel { h.file i F tv kv with used := u, fail := x } { D with fail := k, files := D.files.set i l } := by
  have hlt := Dsk.find_lt hk hf
  have him : i < h.made := by rw [R.made]; exact hlt
  refine ⟨R.room, ?_, by simp only [List.length_set]; exact R.num, by simp only [List.length_set]; exact R.made, R.ops, R.power, hx, fun j hj => ?_, R.names⟩
  · have := Dsk.used_set hk hf l k
    rw [R.now him, hF.last] at this
    have e := R.used
    simp only
    rw [hu, e]
    omega
  · show FRel (upd h.fl i F j) ((D.files.set i l).getD j [])
    rw [Dsk.hist_set D hlt]
    by_cases e : j = i
    · subst e; rw [upd_at, if_pos rfl]; exact hF
    · rw [upd_ne _ _ e, if_neg e]; exact R.files j hj
theorem Rel.chg {h : Hd} {D : Dk} (R : Rel h D) {c : List Hold} {f : Nm} {row : Dsk.Row} (hu : Dsk.undo c f = h.f) (hr : ∀ n, f n = Dsk.find row n) {u : Int} (hus : u = ((Dsk.used { D with dirs := D.dirs ++ [row] } : Nat) : Int)) (cv : Value) (mc : Nat) :
    Rel { h with used := u, mc := mc, cv := cv, cs := h.cs ++ [c], f := f } { D with dirs := D.dirs ++ [row] } :=
  ⟨R.room, hus, R.num, R.made, R.ops, R.power, R.fail, R.files, R.names.add hu hr⟩
theorem szF_szN {h : Hd} {D : Dk} (R : Rel h D) (o : Option Nat) (ho : ∀ i, o = some i → i < h.made) : szF h.fl o = ((Dsk.szN D o : Nat) : Int) := by
  cases o with
  | none => rfl
  | some i => show ((h.fl i).text.length : Int) = ((Dsk.now D i).length : Int); rw [R.now (ho i rfl)]

/-! Bounds. -/
structure Lim (D : Dk) : Prop where
  room : D.room ≤ 9223372036854775807
  left : D.left ≤ 9223372036854775807
theorem lim_act {D : Dk} {f : Dk → Dk × Int} (h : Lim D) (hb : Dsk.Blind f) (hr : ∀ d, (f d).1.room = d.room) : Lim (Dsk.act D f).1 := by
  unfold Dsk.act
  split
  · exact h
  · refine ⟨by rw [hr]; exact h.room, ?_⟩
    rw [(hb.keeps _).2]
    have := h.left
    unfold Dsk.on
    simp only
    split <;> omega
theorem room_create (n : ByteArray) (d : Dk) : (Dsk.createB n d).1.room = d.room := by unfold Dsk.createB; split <;> (try split) <;> rfl
theorem room_append (n : ByteArray) (s : By) (d : Dk) : (Dsk.appendB n s d).1.room = d.room := by unfold Dsk.appendB; split <;> (try split) <;> (try split) <;> rfl
theorem room_cut (n : ByteArray) (to : Int) (d : Dk) : (Dsk.cutB n to d).1.room = d.room := by unfold Dsk.cutB; split <;> (try split) <;> rfl
theorem room_sync (n : ByteArray) (d : Dk) : (Dsk.syncB n d).1.room = d.room := by unfold Dsk.syncB; split <;> (try split) <;> rfl
theorem room_rename (n m : ByteArray) (d : Dk) : (Dsk.renameB n m d).1.room = d.room := by unfold Dsk.renameB; split <;> (try split) <;> rfl
theorem room_remove (n : ByteArray) (d : Dk) : (Dsk.removeB n d).1.room = d.room := by unfold Dsk.removeB; split <;> rfl
theorem lim_create (n : ByteArray) {D : Dk} (h : Lim D) : Lim (Dsk.create n D).1 := lim_act h (Dsk.blind_create n) (room_create n)
theorem lim_append (n : ByteArray) (s : By) {D : Dk} (h : Lim D) : Lim (Dsk.append n s D).1 := lim_act h (Dsk.blind_append n s) (room_append n s)
theorem lim_cut (n : ByteArray) (to : Int) {D : Dk} (h : Lim D) : Lim (Dsk.cut n to D).1 := lim_act h (Dsk.blind_cut n to) (room_cut n to)
theorem lim_sync (n : ByteArray) {D : Dk} (h : Lim D) : Lim (Dsk.sync n D).1 := lim_act h (Dsk.blind_sync n) (room_sync n)
theorem lim_rename (n m : ByteArray) {D : Dk} (h : Lim D) : Lim (Dsk.rename n m D).1 := lim_act h (Dsk.blind_rename n m) (room_rename n m)
theorem lim_remove (n : ByteArray) {D : Dk} (h : Lim D) : Lim (Dsk.remove n D).1 := lim_act h (Dsk.blind_remove n) (room_remove n)
theorem lim_syncDir {D : Dk} (h : Lim D) : Lim (Dsk.syncDir D).1 := lim_act h Dsk.blind_syncDir (fun _ => rfl)

/-- Behind p lies the program's disk, which is D; all that it is lies in S; c: how great it is. -/
structure IsDk (S : Nat → Prop) (w : World) (p : Nat) (D : Dk) (c : Nat) : Prop where
  ok : Dsk.Ok D
  bud : Dsk.Bud D c
  lim : Lim D
  heap : ∃ h, HeapDisk S w p h ∧ Rel h D ∧ h.mc ≤ 2 * c ∧ h.fail ≤ 9223372036854775807
theorem IsDk.below {S : Nat → Prop} {w w' : World} {p : Nat} {D : Dk} {c : Nat} (h : IsDk S w p D c) (hb : Below w.heap.size w w') : IsDk S w' p D c := by
  obtain ⟨a, b, l, h, H, R, m, f⟩ := h
  exact ⟨a, b, l, h, H.below hb, R, m, f⟩
theorem IsDk.other {S T : Nat → Prop} {w w' : World} {p : Nat} {D : Dk} {c : Nat} (h : IsDk S w p D c) (hb : Only T w w') (k : ∀ b, S b → T b → False) : IsDk S w' p D c := by
  obtain ⟨a, b, l, h, H, R, m, f⟩ := h
  exact ⟨a, b, l, h, H.other hb k, R, m, f⟩
theorem IsDk.lt {S : Nat → Prop} {w : World} {p : Nat} {D : Dk} {c : Nat} (h : IsDk S w p D c) : ∀ b, S b → b < w.heap.size := by
  obtain ⟨_, _, _, h, H, _⟩ := h
  exact H.lt
theorem IsDk.sp {S : Nat → Prop} {w : World} {p : Nat} {D : Dk} {c : Nat} (h : IsDk S w p D c) : S p := by
  obtain ⟨_, _, _, h, H, _⟩ := h
  exact H.sp
theorem IsDk.mono {S : Nat → Prop} {w : World} {p : Nat} {D : Dk} {c c' : Nat} (h : IsDk S w p D c) (k : c ≤ c') : IsDk S w p D c' := by
  obtain ⟨a, b, l, h, H, R, m, f⟩ := h
  exact ⟨a, b.mono k, l, h, H, R, by omega, f⟩
theorem IsDk.grow {S : Nat → Prop} (w : World) {w' : World} {p : Nat} {D : Dk} {c : Nat} (h : IsDk S w' p D c) : IsDk (more S w w') w' p D c := by
  obtain ⟨a, b, l, h, H, R, m, f⟩ := h
  exact ⟨a, b, l, h, H.wide w, R, m, f⟩
theorem cuts_le {F : Fl} {l : List By} (h : FRel F l) : F.cuts.length ≤ l.length ∧ F.grown ≤ l.length := by
  have := h.len
  unfold Dsk.moms at this
  have h2 : F.cuts.length ≤ (F.cuts.map (fun c => c.1 + 1)).sum := by
    generalize F.cuts = cs
    induction cs with
    | nil => simp
    | cons c r ih => simp only [List.length_cons, List.map_cons, List.sum_cons]; omega
  omega
/-- What the walks want of numbers. -/
theorem IsDk.nums {D : Dk} {c : Nat} {h : Hd} (ok : Dsk.Ok D) (bud : Dsk.Bud D c) (lim : Lim D) (R : Rel h D) (hc : c ≤ 1000000000) :
    -1 ≤ h.power ∧ h.power ≤ 9223372036854775807 ∧ h.ops < 4611686018427387904 ∧ (0 ≤ h.used ∧ h.used ≤ 1000000000000000000) ∧ h.cs.length ≤ 1000000000 ∧ (∀ i, i < h.made → (h.fl i).text.length ≤ 1000000000 ∧ (h.fl i).grown ≤ 1000000001 ∧ (h.fl i).cuts.length ≤ 1000000001) := by
  have h1 := ok.left
  have h2 := lim.left
  have h3 := bud.ops
  have h4 := bud.used ok
  have h5 := bud.dirs
  have h6 := R.names.len
  have h7 : c * c ≤ 1000000000 * 1000000000 := Nat.mul_le_mul hc hc
  refine ⟨by rw [R.power]; exact h1, by rw [R.power]; exact h2, by rw [R.ops]; omega, by rw [R.used]; omega, by omega, fun i hi => ?_⟩
  have hm : i < D.files.length := by rw [← R.made]; exact hi
  have a1 := bud.now ok i
  rw [R.now hi] at a1
  have a2 := bud.hists _ (Dsk.hist_mem hm)
  have a3 := cuts_le (R.files i hi)
  omega
/-- A row of strings of the call's own. -/
def StrsOwn (w : World) (base : Nat) (v : Value) (l : List ByteArray) : Prop := w.ownsRow base 9 1 v l.length (l.map Value.string)
theorem StrsOwn.keep {w w' : World} {base : Nat} {v : Value} {l : List ByteArray} (h : StrsOwn w base v l) (k : ∀ g, base ≤ g → g < w.heap.size → w'.heap[g]? = w.heap[g]?) : StrsOwn w' base v l := own_keep h (fun g e => k g (h.lt g e).1 (h.lt g e).2)

/-- Numbers behind an address. -/
def KeepAt (w : World) (a : Option Addr) (ks : List Int) : Prop := ∃ g o, (0 < ks.length → a = some ⟨g, o, none⟩ ∧ g < w.heap.size) ∧ ∀ j (hj : j < ks.length), w.cell? ⟨g, o + j, none⟩ = some (.int .i64 ks[j])
theorem KeepAt.below {w w' : World} {a : Option Addr} {ks : List Int} (h : KeepAt w a ks) (hb : Below w.heap.size w w') : KeepAt w' a ks := by
  obtain ⟨g, o, h1, h2⟩ := h
  refine ⟨g, o, fun k => ⟨(h1 k).1, Nat.lt_of_lt_of_le (h1 k).2 hb.size⟩, fun j hj => (hb.cell (p := ⟨g, o + j, none⟩) (h1 (by omega)).2).trans (h2 j hj)⟩

end Go.Proofs.YtleomppgkikhnaaGreat
