/-
  Chapter 7, plain: a disk: of each file all contents, one a moment, since its last sync; all rows of names since the last sync of the directory. No program here.
-/
import Derived.Test.YtafaobdakicjlaaGreatMath
import Derived.Test.YtafaobdakicjlaaGreatLabelMath
namespace Go.Proofs.YtafaobdakicjlaaGreat.Dsk
open Go.Proofs.YtafaobdakicjlaaGreat

abbrev By := List UInt8
abbrev Row := List (ByteArray × Nat)
structure Dk where
  room : Nat
  files : List (List By)
  dirs : List Row
  ops : Nat
  fail : Nat
  left : Int

def fresh (room : Int) : Dk := ⟨room.toNat, [], [[]], 0, 0, -1⟩
def isName (s : ByteArray) : Bool := decide ((∀ b ∈ s.data.toList, 33 ≤ b.toNat ∧ b.toNat ≤ 126) ∧ 1 ≤ s.size ∧ s.size ≤ 24)
def dir (d : Dk) : Row := d.dirs.getLastD []
def find : Row → ByteArray → Option Nat
  | [], _ => none
  | (m, f) :: r, n => if m = n then some f else find r n
def without (r : Row) (n : ByteArray) : Row := r.filter (fun p => decide (p.1 ≠ n))
def hist (d : Dk) (f : Nat) : List By := d.files.getD f []
def now (d : Dk) (f : Nat) : By := (hist d f).getLastD []
def used (d : Dk) : Nat := ((dir d).map (fun p => (now d p.2).length)).sum
/-- One more operation. -/
def on (d : Dk) : Dk := { d with ops := d.ops + 1, left := if 0 < d.left then d.left - 1 else d.left }
def act (d : Dk) (f : Dk → Dk × Int) : Dk × Int := if d.left = 0 then (d, 11) else f (on d)
def fronts (b s : By) : List By := (List.range s.length).map (fun i => b ++ s.take (i + 1))
def createB (n : ByteArray) (d : Dk) : Dk × Int :=
  if isName n = false then (d, 3) else match find (dir d) n with
    | some _ => (d, 4)
    | none => ({ d with files := d.files ++ [[[]]], dirs := d.dirs ++ [without (dir d) n ++ [(n, d.files.length)]] }, 0)
def create (n : ByteArray) (d : Dk) : Dk × Int := act d (createB n)
def appendB (n : ByteArray) (s : By) (d : Dk) : Dk × Int := match find (dir d) n with
  | none => (d, 5)
  | some f => if d.room < used d + s.length then (d, 9) else if d.fail = 1 then ({ d with fail := 0 }, 10)
    else ({ d with fail := d.fail - 1, files := d.files.set f (hist d f ++ fronts (now d f) s) }, 0)
def append (n : ByteArray) (s : By) (d : Dk) : Dk × Int := act d (appendB n s)
def cutB (n : ByteArray) (to : Int) (d : Dk) : Dk × Int := match find (dir d) n with
  | none => (d, 5)
  | some f => if to < 0 ∨ ((now d f).length : Int) < to then (d, 1) else ({ d with files := d.files.set f (hist d f ++ [(now d f).take to.toNat]) }, 0)
def cut (n : ByteArray) (to : Int) (d : Dk) : Dk × Int := act d (cutB n to)
def syncB (n : ByteArray) (d : Dk) : Dk × Int := match find (dir d) n with
  | none => (d, 5)
  | some f => if d.fail = 1 then ({ d with fail := 0 }, 10) else ({ d with fail := d.fail - 1, files := d.files.set f [now d f] }, 0)
def sync (n : ByteArray) (d : Dk) : Dk × Int := act d (syncB n)
def renameB (n m : ByteArray) (d : Dk) : Dk × Int := match find (dir d) n with
  | none => (d, 5)
  | some f => if isName m = false then (d, 3) else ({ d with dirs := d.dirs ++ [without (without (dir d) n) m ++ [(m, f)]] }, 0)
def rename (n m : ByteArray) (d : Dk) : Dk × Int := act d (renameB n m)
def removeB (n : ByteArray) (d : Dk) : Dk × Int := match find (dir d) n with
  | none => (d, 5)
  | some _ => ({ d with dirs := d.dirs ++ [without (dir d) n] }, 0)
def remove (n : ByteArray) (d : Dk) : Dk × Int := act d (removeB n)
def syncDirB (d : Dk) : Dk × Int := ({ d with dirs := [dir d] }, 0)
def syncDir (d : Dk) : Dk × Int := act d syncDirB
def read (n : ByteArray) (d : Dk) : By × Int := if d.left = 0 then ([], 11) else match find (dir d) n with
  | none => ([], 5)
  | some f => (now d f, 0)
def setFail (n : Int) (d : Dk) : Dk := { d with fail := n.toNat }
def setStop (n : Int) (d : Dk) : Dk := { d with left := max n (-1) }
/-- The names, rising. -/
def ins (n : ByteArray) : List ByteArray → List ByteArray
  | [] => [n]
  | m :: r => if Lab.lt n m = true then n :: m :: r else m :: ins n r
def sortN : List ByteArray → List ByteArray
  | [] => []
  | n :: r => ins n (sortN r)
def names (r : Row) : List ByteArray := r.map (·.1)
def list (d : Dk) : List ByteArray := sortN (names (dir d))
/-- What is left. -/
def rowAt (d : Dk) (k : Int) : Row := d.dirs.getD (min k ((d.dirs.length : Int) - 1)).toNat []
def momAt (d : Dk) (ks : List Int) (n : Nat) : By := (hist d n).getD (if n < ks.length then (min (ks.getD n 0) (((hist d n).length : Int) - 1)).toNat else 0) []
def picks (d : Dk) (k : Int) (ks : List Int) : List (ByteArray × By) :=
  (List.range d.files.length).flatMap fun n => ((rowAt d k).filter (fun p => decide (p.2 = n))).map (fun p => (p.1, momAt d ks n))
def numbered : Nat → List (ByteArray × By) → Row
  | _, [] => []
  | i, p :: r => (p.1, i) :: numbered (i + 1) r
def crash (k : Int) (ks : List Int) (d : Dk) : Dk := ⟨d.room, (picks d k ks).map (fun p => [p.2]), [numbered 0 (picks d k ks)], 0, 0, -1⟩

/-! ## What holds of every disk -/
/-- A row of names is right: of files that there are, no two of one name, nor of one file. -/
def RowOk (n : Nat) (r : Row) : Prop := (∀ p ∈ r, isName p.1 = true ∧ p.2 < n) ∧ r.Pairwise (fun p q => p.1 ≠ q.1) ∧ r.Pairwise (fun p q => p.2 ≠ q.2)
structure Ok (d : Dk) : Prop where
  rows : ∀ r ∈ d.dirs, RowOk d.files.length r
  some : d.dirs ≠ []
  hists : ∀ h ∈ d.files, h ≠ []
  left : -1 ≤ d.left

theorem dir_mem {d : Dk} (h : d.dirs ≠ []) : dir d ∈ d.dirs := by
  unfold dir
  rw [List.getLastD_eq_getLast?, List.getLast?_eq_some_getLast h]
  exact List.getLast_mem h
theorem Ok.row {d : Dk} (h : Ok d) : RowOk d.files.length (dir d) := h.rows _ (dir_mem h.some)
theorem find_some {r : Row} {n : ByteArray} {f : Nat} (h : find r n = some f) : (n, f) ∈ r := by
  induction r with
  | nil => cases h
  | cons p r ih =>
    obtain ⟨m, g⟩ := p
    unfold find at h
    split at h
    · rename_i e; cases h; subst e; exact List.mem_cons_self ..
    · exact List.mem_cons_of_mem _ (ih h)
theorem find_none {r : Row} {n : ByteArray} : find r n = none ↔ ∀ p ∈ r, p.1 ≠ n := by
  induction r with
  | nil => simp [find]
  | cons p r ih =>
    obtain ⟨m, g⟩ := p
    unfold find
    by_cases e : m = n
    · simp [e]
    · rw [if_neg e, ih]; simp [e]
theorem find_mem {r : Row} {n : ByteArray} {f : Nat} (hr : r.Pairwise (fun p q => p.1 ≠ q.1)) (h : (n, f) ∈ r) : find r n = some f := by
  induction r with
  | nil => simp at h
  | cons p r ih =>
    obtain ⟨m, g⟩ := p
    obtain ⟨h1, h2⟩ := List.pairwise_cons.1 hr
    unfold find
    rcases List.mem_cons.1 h with e | h
    · cases e; rw [if_pos rfl]
    · rw [if_neg (h1 _ h), ih h2 h]
theorem find_app (a b : Row) (n : ByteArray) : find (a ++ b) n = (find a n).or (find b n) := by
  induction a with
  | nil => simp [find]
  | cons p a ih =>
    obtain ⟨m, g⟩ := p
    simp only [List.cons_append, find]
    split
    · rfl
    · exact ih
theorem RowOk.without {n : Nat} {r : Row} (h : RowOk n r) (m : ByteArray) : RowOk n (without r m) :=
  ⟨fun p hp => h.1 p (List.mem_filter.1 hp).1, h.2.1.filter _, h.2.2.filter _⟩
theorem without_ne {r : Row} {m : ByteArray} {p : ByteArray × Nat} (h : p ∈ without r m) : p.1 ≠ m := of_decide_eq_true (List.mem_filter.1 h).2
theorem without_sub {r : Row} {m : ByteArray} {p : ByteArray × Nat} (h : p ∈ without r m) : p ∈ r := (List.mem_filter.1 h).1
theorem RowOk.mono {n m : Nat} {r : Row} (h : RowOk n r) (hm : n ≤ m) : RowOk m r := ⟨fun p hp => ⟨(h.1 p hp).1, by have := (h.1 p hp).2; omega⟩, h.2.1, h.2.2⟩
theorem RowOk.snoc {n : Nat} {r : Row} (h : RowOk n r) {m : ByteArray} {f : Nat} (hm : isName m = true) (hf : f < n) (h1 : ∀ p ∈ r, p.1 ≠ m) (h2 : ∀ p ∈ r, p.2 ≠ f) : RowOk n (r ++ [(m, f)]) := by
  refine ⟨fun p hp => ?_, ?_, ?_⟩
  · rcases List.mem_append.1 hp with hp | hp
    · exact h.1 p hp
    · simp at hp; subst hp; exact ⟨hm, hf⟩
  · rw [List.pairwise_append]
    exact ⟨h.2.1, List.pairwise_singleton _ _, fun p hp q hq => by simp at hq; subst hq; exact h1 p hp⟩
  · rw [List.pairwise_append]
    exact ⟨h.2.2, List.pairwise_singleton _ _, fun p hp q hq => by simp at hq; subst hq; exact h2 p hp⟩
theorem row_one {r : Row} (h : r.Pairwise (fun p q => p.2 ≠ q.2)) {p q : ByteArray × Nat} (hp : p ∈ r) (hq : q ∈ r) (e : p.2 = q.2) : p = q := by
  induction r with
  | nil => simp at hp
  | cons x r ih =>
    obtain ⟨h1, h2⟩ := List.pairwise_cons.1 h
    rcases List.mem_cons.1 hp with rfl | hp
    · rcases List.mem_cons.1 hq with rfl | hq
      · rfl
      · exact absurd e (h1 q hq)
    · rcases List.mem_cons.1 hq with rfl | hq
      · rename_i hp'; exact absurd e.symm (h1 p hp')
      · exact ih h2 hp hq


theorem dir_snoc (d : Dk) (l : List Row) (r : Row) : dir { d with dirs := l ++ [r] } = r := by
  show (l ++ [r]).getLastD [] = r
  simp [List.getLastD_eq_getLast?]
theorem hist_set (d : Dk) {f : Nat} (hf : f < d.files.length) (h : List By) (i : Nat) : (d.files.set f h).getD i [] = if i = f then h else hist d i := by
  unfold hist
  rw [List.getD_eq_getElem?_getD, List.getElem?_set, List.getD_eq_getElem?_getD]
  by_cases e : f = i
  · subst e; simp [hf]
  · rw [if_neg e, if_neg (fun k => e k.symm)]
theorem act_ok {d : Dk} {f : Dk → Dk × Int} (h : Ok d) (hf : ∀ d, Ok d → Ok (f d).1) : Ok (act d f).1 := by
  unfold act
  split
  · exact h
  · refine hf _ ⟨h.rows, h.some, h.hists, ?_⟩
    have := h.left
    unfold on
    simp only
    split <;> omega
theorem find_lt {d : Dk} (h : Ok d) {n : ByteArray} {f : Nat} (hf : find (dir d) n = some f) : f < d.files.length := (h.row.1 _ (find_some hf)).2
theorem set_ok {d : Dk} (h : Ok d) (f : Nat) (l : List By) (hl : l ≠ []) (k : Nat) : Ok { d with fail := k, files := d.files.set f l } :=
  ⟨fun r hr => by show RowOk (d.files.set f l).length r; rw [List.length_set]; exact h.rows r hr, h.some, fun x hx => by
    rcases List.mem_or_eq_of_mem_set hx with hx | rfl
    · exact h.hists x hx
    · exact hl, h.left⟩
theorem dirs_ok {d : Dk} (h : Ok d) (r : Row) (hr : RowOk d.files.length r) : Ok { d with dirs := d.dirs ++ [r] } :=
  ⟨fun x hx => by
    rcases List.mem_append.1 hx with hx | hx
    · exact h.rows x hx
    · simp at hx; subst hx; exact hr, by simp, h.hists, h.left⟩
theorem create_ok (n : ByteArray) {d : Dk} (h : Ok d) : Ok (create n d).1 := by
  refine act_ok h fun d h => ?_
  unfold createB
  split
  · exact h
  · rename_i hn
    split
    · exact h
    · rename_i hf
      refine ⟨fun r hr => ?_, by simp, fun x hx => ?_, h.left⟩
      · show RowOk (d.files ++ [[[]]]).length r
        rw [List.length_append]
        rcases List.mem_append.1 hr with hr | hr
        · exact (h.rows r hr).mono (by simp)
        · simp at hr
          subst hr
          refine (RowOk.mono (h.row.without n) (Nat.le_succ _)).snoc (by simpa using hn) (by simp) (fun p hp => without_ne hp) (fun p hp e => ?_)
          have := (h.row.1 p (without_sub hp)).2
          omega
      · rcases List.mem_append.1 hx with hx | hx
        · exact h.hists x hx
        · simp at hx; subst hx; simp
theorem append_ok (n : ByteArray) (s : By) {d : Dk} (h : Ok d) : Ok (append n s d).1 := by
  refine act_ok h fun d h => ?_
  unfold appendB
  split
  · exact h
  · rename_i f hf
    split
    · exact h
    · split
      · exact ⟨h.rows, h.some, h.hists, h.left⟩
      · refine set_ok h f _ ?_ _
        have h1 := h.hists (hist d f) (by unfold hist; rw [List.getD_eq_getElem?_getD, List.getElem?_eq_getElem (find_lt h hf)]; exact List.getElem_mem _)
        intro e
        exact h1 (List.append_eq_nil_iff.1 e).1
theorem cut_ok (n : ByteArray) (to : Int) {d : Dk} (h : Ok d) : Ok (cut n to d).1 := by
  refine act_ok h fun d h => ?_
  unfold cutB
  split
  · exact h
  · split
    · exact h
    · exact set_ok h _ _ (by simp) d.fail
theorem sync_ok (n : ByteArray) {d : Dk} (h : Ok d) : Ok (sync n d).1 := by
  refine act_ok h fun d h => ?_
  unfold syncB
  split
  · exact h
  · split
    · exact ⟨h.rows, h.some, h.hists, h.left⟩
    · exact set_ok h _ _ (by simp) _
theorem rename_ok (n m : ByteArray) {d : Dk} (h : Ok d) : Ok (rename n m d).1 := by
  refine act_ok h fun d h => ?_
  unfold renameB
  split
  · exact h
  · rename_i f hf
    split
    · exact h
    · rename_i hm
      refine dirs_ok h _ ?_
      refine RowOk.snoc ((h.row.without n).without m) (by simpa using hm) (find_lt h hf) (fun p hp => without_ne hp) (fun p hp e => ?_)
      have h1 := without_sub hp
      have h2 := row_one h.row.2.2 (without_sub h1) (find_some hf) e
      exact without_ne h1 (by rw [h2])
theorem remove_ok (n : ByteArray) {d : Dk} (h : Ok d) : Ok (remove n d).1 := by
  refine act_ok h fun d h => ?_
  unfold removeB
  split
  · exact h
  · exact dirs_ok h _ (h.row.without n)
theorem syncDir_ok {d : Dk} (h : Ok d) : Ok (syncDir d).1 := by
  refine act_ok h fun d h => ?_
  unfold syncDirB
  exact ⟨fun r hr => by simp at hr; subst hr; exact h.row, by simp, h.hists, h.left⟩
theorem setFail_ok (n : Int) {d : Dk} (h : Ok d) : Ok (setFail n d) := ⟨h.rows, h.some, h.hists, h.left⟩
theorem setStop_ok (n : Int) {d : Dk} (h : Ok d) : Ok (setStop n d) := ⟨h.rows, h.some, h.hists, by unfold setStop; simp only; omega⟩
theorem fresh_ok (room : Int) : Ok (fresh room) := ⟨fun r hr => by simp [fresh] at hr; subst hr; exact ⟨fun p hp => by simp at hp, List.Pairwise.nil, List.Pairwise.nil⟩, by simp [fresh], fun x hx => by simp [fresh] at hx, by simp [fresh]⟩

end Go.Proofs.YtafaobdakicjlaaGreat.Dsk
