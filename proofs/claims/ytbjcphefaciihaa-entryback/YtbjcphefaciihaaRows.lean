/-
  No cell of these rows narrows 'for every input' (looked for: loops, veiled, ifaces, maps, wideKeys, modest, calm, conditions, laid).
  DERIVED. THE GIVEN ROWS OF THIS SEAT. 7 by the template 'for every input the law returns true; each argument reads behind the call as it read before'; 0 by the template 'total and deterministic' (their statements: YtbjcphefaciihaaTotals.lean).
  GIVEN WITH THE SEED: the statements are not yours to turn. If you find one false, say at which input.
  Laid BY PROGRAM, IN A SANDBOX (cutbox-rows.mjs): the forced cells as the released guide's own fill.sh prints them over the translation 436ca44b2d2352a5… (all of the seat's roots in one cut). By AI agents, Wed Nov 11 2026. No macro, syntax, notation, axiom, sorry.
-/
import Derived.Test.YtbjcphefaciihaaChecked
import GoSem.Claim
import GoSem.ClaimJoined
import GoSem.ClaimMapViews
import Derived.JoinedTies
import Derived.KernelRfl
namespace Go.Proofs.Ytbjcphefaciihaa
/- THE CELL 'sum', in the pinned program and in every row, IS THE sha256 OF THE DUMP (.gsa) THAT YtbjcphefaciihaaProg.lean LOADS. Nothing in Lean hashes anything: it is a label: what it is worth is what the hold of that sum in a sandbox is worth. -/
noncomputable def Try.pinned : Pinned := { name := "ytbjcphefaciihaa", sum := "436ca44b2d2352a5f32aa66f3bcbc316118c6926927ad8dfa3853d713d44f14a", checked := Try.checked }
namespace Rows
def none {H : Type} : Left H := { results := [], args := [] }

/-- 'postroomlaw5.EntryTells': WHATEVER THE INPUT: true; the input reads as it did. -/
def entryTellsSpec : ChangeSpec := { name := "entryTells", fn := fun _ => fun
  | [d1, d2] => { results := [.lit (.bool true)], args := [d1, d2] }
  | _ => none }
def entryTellsRow : OpenClaim := { program := "ytbjcphefaciihaa", sum := "436ca44b2d2352a5f32aa66f3bcbc316118c6926927ad8dfa3853d713d44f14a", func := "postroom/postroomlaw5.EntryTells", spec := "entryTells", unfollowed := true, recurses := true, apart := false }
def EntryTellsSaid : Prop := entryTellsRow.holds Try.pinned (OpenSpec.ofChange entryTellsSpec)

/-- ITS FALSE NEIGHBOUR: 'it returns false'. Refute it at one input. -/
def entryTellsWrong : ChangeSpec := { name := "entryTells", fn := fun _ => fun
  | [d1, d2] => { results := [.lit (.bool false)], args := [d1, d2] }
  | _ => none }
def EntryTellsWrongFalsely : Prop := entryTellsRow.holds Try.pinned (OpenSpec.ofChange entryTellsWrong)

/-- 'postroomlaw5.EntryOnly': WHATEVER THE INPUT: true; the input reads as it did. -/
def entryOnlySpec : ChangeSpec := { name := "entryOnly", fn := fun _ => fun
  | [d1, d2, d3, d4] => { results := [.lit (.bool true)], args := [d1, d2, d3, d4] }
  | _ => none }
def entryOnlyRow : OpenClaim := { program := "ytbjcphefaciihaa", sum := "436ca44b2d2352a5f32aa66f3bcbc316118c6926927ad8dfa3853d713d44f14a", func := "postroom/postroomlaw5.EntryOnly", spec := "entryOnly", unfollowed := true, recurses := true, apart := false }
def EntryOnlySaid : Prop := entryOnlyRow.holds Try.pinned (OpenSpec.ofChange entryOnlySpec)

/-- ITS FALSE NEIGHBOUR: 'it returns false'. Refute it at one input. -/
def entryOnlyWrong : ChangeSpec := { name := "entryOnly", fn := fun _ => fun
  | [d1, d2, d3, d4] => { results := [.lit (.bool false)], args := [d1, d2, d3, d4] }
  | _ => none }
def EntryOnlyWrongFalsely : Prop := entryOnlyRow.holds Try.pinned (OpenSpec.ofChange entryOnlyWrong)

/-- 'postroomlaw5.EntryBack': WHATEVER THE INPUT: true; the input reads as it did. -/
def entryBackSpec : ChangeSpec := { name := "entryBack", fn := fun _ => fun
  | [d1, d2, d3, d4, d5] => { results := [.lit (.bool true)], args := [d1, d2, d3, d4, d5] }
  | _ => none }
def entryBackRow : OpenClaim := { program := "ytbjcphefaciihaa", sum := "436ca44b2d2352a5f32aa66f3bcbc316118c6926927ad8dfa3853d713d44f14a", func := "postroom/postroomlaw5.EntryBack", spec := "entryBack", unfollowed := true, recurses := true, apart := false }
def EntryBackSaid : Prop := entryBackRow.holds Try.pinned (OpenSpec.ofChange entryBackSpec)

/-- ITS FALSE NEIGHBOUR: 'it returns false'. Refute it at one input. -/
def entryBackWrong : ChangeSpec := { name := "entryBack", fn := fun _ => fun
  | [d1, d2, d3, d4, d5] => { results := [.lit (.bool false)], args := [d1, d2, d3, d4, d5] }
  | _ => none }
def EntryBackWrongFalsely : Prop := entryBackRow.holds Try.pinned (OpenSpec.ofChange entryBackWrong)

/-- 'postroomlaw5.EntryOne': WHATEVER THE INPUT: true; the input reads as it did. -/
def entryOneSpec : ChangeSpec := { name := "entryOne", fn := fun _ => fun
  | [d1, d2, d3, d4, d5, d6] => { results := [.lit (.bool true)], args := [d1, d2, d3, d4, d5, d6] }
  | _ => none }
def entryOneRow : OpenClaim := { program := "ytbjcphefaciihaa", sum := "436ca44b2d2352a5f32aa66f3bcbc316118c6926927ad8dfa3853d713d44f14a", func := "postroom/postroomlaw5.EntryOne", spec := "entryOne", unfollowed := true, recurses := true, apart := false }
def EntryOneSaid : Prop := entryOneRow.holds Try.pinned (OpenSpec.ofChange entryOneSpec)

/-- ITS FALSE NEIGHBOUR: 'it returns false'. Refute it at one input. -/
def entryOneWrong : ChangeSpec := { name := "entryOne", fn := fun _ => fun
  | [d1, d2, d3, d4, d5, d6] => { results := [.lit (.bool false)], args := [d1, d2, d3, d4, d5, d6] }
  | _ => none }
def EntryOneWrongFalsely : Prop := entryOneRow.holds Try.pinned (OpenSpec.ofChange entryOneWrong)

/-- 'postroomlaw5.EntrySeries': WHATEVER THE INPUT: true; the input reads as it did. -/
def entrySeriesSpec : ChangeSpec := { name := "entrySeries", fn := fun _ => fun
  | [d1, d2, d3, d4, d5] => { results := [.lit (.bool true)], args := [d1, d2, d3, d4, d5] }
  | _ => none }
def entrySeriesRow : OpenClaim := { program := "ytbjcphefaciihaa", sum := "436ca44b2d2352a5f32aa66f3bcbc316118c6926927ad8dfa3853d713d44f14a", func := "postroom/postroomlaw5.EntrySeries", spec := "entrySeries", unfollowed := true, recurses := true, apart := false }
def EntrySeriesSaid : Prop := entrySeriesRow.holds Try.pinned (OpenSpec.ofChange entrySeriesSpec)

/-- ITS FALSE NEIGHBOUR: 'it returns false'. Refute it at one input. -/
def entrySeriesWrong : ChangeSpec := { name := "entrySeries", fn := fun _ => fun
  | [d1, d2, d3, d4, d5] => { results := [.lit (.bool false)], args := [d1, d2, d3, d4, d5] }
  | _ => none }
def EntrySeriesWrongFalsely : Prop := entrySeriesRow.holds Try.pinned (OpenSpec.ofChange entrySeriesWrong)

/-- 'postroomlaw5.EntryParts': WHATEVER THE INPUT: true; the input reads as it did. -/
def entryPartsSpec : ChangeSpec := { name := "entryParts", fn := fun _ => fun
  | [d1, d2, d3, d4] => { results := [.lit (.bool true)], args := [d1, d2, d3, d4] }
  | _ => none }
def entryPartsRow : OpenClaim := { program := "ytbjcphefaciihaa", sum := "436ca44b2d2352a5f32aa66f3bcbc316118c6926927ad8dfa3853d713d44f14a", func := "postroom/postroomlaw5.EntryParts", spec := "entryParts", unfollowed := true, recurses := true, apart := false }
def EntryPartsSaid : Prop := entryPartsRow.holds Try.pinned (OpenSpec.ofChange entryPartsSpec)

/-- ITS FALSE NEIGHBOUR: 'it returns false'. Refute it at one input. -/
def entryPartsWrong : ChangeSpec := { name := "entryParts", fn := fun _ => fun
  | [d1, d2, d3, d4] => { results := [.lit (.bool false)], args := [d1, d2, d3, d4] }
  | _ => none }
def EntryPartsWrongFalsely : Prop := entryPartsRow.holds Try.pinned (OpenSpec.ofChange entryPartsWrong)

/-- 'postroomlaw5.EntryJoins': WHATEVER THE INPUT: true; the input reads as it did. -/
def entryJoinsSpec : ChangeSpec := { name := "entryJoins", fn := fun _ => fun
  | [d1, d2, d3] => { results := [.lit (.bool true)], args := [d1, d2, d3] }
  | _ => none }
def entryJoinsRow : OpenClaim := { program := "ytbjcphefaciihaa", sum := "436ca44b2d2352a5f32aa66f3bcbc316118c6926927ad8dfa3853d713d44f14a", func := "postroom/postroomlaw5.EntryJoins", spec := "entryJoins", unfollowed := true, recurses := true, apart := false }
def EntryJoinsSaid : Prop := entryJoinsRow.holds Try.pinned (OpenSpec.ofChange entryJoinsSpec)

/-- ITS FALSE NEIGHBOUR: 'it returns false'. Refute it at one input. -/
def entryJoinsWrong : ChangeSpec := { name := "entryJoins", fn := fun _ => fun
  | [d1, d2, d3] => { results := [.lit (.bool false)], args := [d1, d2, d3] }
  | _ => none }
def EntryJoinsWrongFalsely : Prop := entryJoinsRow.holds Try.pinned (OpenSpec.ofChange entryJoinsWrong)

/- THE SECOND FORM. 'bulk': how many values and letters a reading holds, each counted each time it is reached (what is shared counts as often as it is met; a slice's spare places count too). A statement '..UptoSaid' is the law's where the arguments, and the package variables that the reading takes, are together of bulk at most 1048576: NARROWER than '..Said'. Prove '..Said' where nothing that the law and all that it calls make is longer than what came in: it says more and counts as full. Else prove '..UptoSaid'. A law counts once. -/
mutual
def uptoBulk {H : Type} : DataW H → Nat
  | .lit (.string bytes) => bytes.length + 1
  | .lit _ => 1
  | .nil => 1
  | .ptr d => uptoBulk d + 1
  | .slice elems spare => uptoBulkAll elems + uptoBulkAll spare + 1
  | .agg parts => uptoBulkAll parts + 1
  | .iface _ d => uptoBulk d + 1
  | .map entries => uptoBulkEntries entries + 1
  | .held _ => 1
def uptoBulkAll {H : Type} : List (DataW H) → Nat
  | [] => 0
  | d :: r => uptoBulk d + uptoBulkAll r
def uptoBulkEntries {H : Type} : List (Lit × DataW H) → Nat
  | [] => 0
  | x :: r => uptoBulkEntry x + uptoBulkEntries r
def uptoBulkEntry {H : Type} : Lit × DataW H → Nat
  | (.string bytes, d) => bytes.length + uptoBulk d + 1
  | (_, d) => uptoBulk d + 1
 end
def uptoSmall : (H : Type) → List (DataW H) → Bool := fun _ ds => decide (uptoBulkAll ds ≤ 1048576)
def OpenSpec.upto (s : _root_.Go.ChangeSpec) : _root_.Go.OpenSpec := { _root_.Go.OpenSpec.ofChange s with cond := some uptoSmall }

/-- 'postroomlaw5.EntryTells', WHERE WHAT IT READS IS OF BULK AT MOST 1048576: true; the input reads as it did. -/
def entryTellsUptoRow : OpenClaim := { program := "ytbjcphefaciihaa", sum := "436ca44b2d2352a5f32aa66f3bcbc316118c6926927ad8dfa3853d713d44f14a", func := "postroom/postroomlaw5.EntryTells", spec := "entryTells", unfollowed := true, recurses := true, apart := false, narrowed := true }
def EntryTellsUptoSaid : Prop := entryTellsUptoRow.holds Try.pinned (OpenSpec.upto entryTellsSpec)

/-- 'postroomlaw5.EntryOnly', WHERE WHAT IT READS IS OF BULK AT MOST 1048576: true; the input reads as it did. -/
def entryOnlyUptoRow : OpenClaim := { program := "ytbjcphefaciihaa", sum := "436ca44b2d2352a5f32aa66f3bcbc316118c6926927ad8dfa3853d713d44f14a", func := "postroom/postroomlaw5.EntryOnly", spec := "entryOnly", unfollowed := true, recurses := true, apart := false, narrowed := true }
def EntryOnlyUptoSaid : Prop := entryOnlyUptoRow.holds Try.pinned (OpenSpec.upto entryOnlySpec)

/-- 'postroomlaw5.EntryBack', WHERE WHAT IT READS IS OF BULK AT MOST 1048576: true; the input reads as it did. -/
def entryBackUptoRow : OpenClaim := { program := "ytbjcphefaciihaa", sum := "436ca44b2d2352a5f32aa66f3bcbc316118c6926927ad8dfa3853d713d44f14a", func := "postroom/postroomlaw5.EntryBack", spec := "entryBack", unfollowed := true, recurses := true, apart := false, narrowed := true }
def EntryBackUptoSaid : Prop := entryBackUptoRow.holds Try.pinned (OpenSpec.upto entryBackSpec)

/-- 'postroomlaw5.EntryOne', WHERE WHAT IT READS IS OF BULK AT MOST 1048576: true; the input reads as it did. -/
def entryOneUptoRow : OpenClaim := { program := "ytbjcphefaciihaa", sum := "436ca44b2d2352a5f32aa66f3bcbc316118c6926927ad8dfa3853d713d44f14a", func := "postroom/postroomlaw5.EntryOne", spec := "entryOne", unfollowed := true, recurses := true, apart := false, narrowed := true }
def EntryOneUptoSaid : Prop := entryOneUptoRow.holds Try.pinned (OpenSpec.upto entryOneSpec)

/-- 'postroomlaw5.EntrySeries', WHERE WHAT IT READS IS OF BULK AT MOST 1048576: true; the input reads as it did. -/
def entrySeriesUptoRow : OpenClaim := { program := "ytbjcphefaciihaa", sum := "436ca44b2d2352a5f32aa66f3bcbc316118c6926927ad8dfa3853d713d44f14a", func := "postroom/postroomlaw5.EntrySeries", spec := "entrySeries", unfollowed := true, recurses := true, apart := false, narrowed := true }
def EntrySeriesUptoSaid : Prop := entrySeriesUptoRow.holds Try.pinned (OpenSpec.upto entrySeriesSpec)

/-- 'postroomlaw5.EntryParts', WHERE WHAT IT READS IS OF BULK AT MOST 1048576: true; the input reads as it did. -/
def entryPartsUptoRow : OpenClaim := { program := "ytbjcphefaciihaa", sum := "436ca44b2d2352a5f32aa66f3bcbc316118c6926927ad8dfa3853d713d44f14a", func := "postroom/postroomlaw5.EntryParts", spec := "entryParts", unfollowed := true, recurses := true, apart := false, narrowed := true }
def EntryPartsUptoSaid : Prop := entryPartsUptoRow.holds Try.pinned (OpenSpec.upto entryPartsSpec)

/-- 'postroomlaw5.EntryJoins', WHERE WHAT IT READS IS OF BULK AT MOST 1048576: true; the input reads as it did. -/
def entryJoinsUptoRow : OpenClaim := { program := "ytbjcphefaciihaa", sum := "436ca44b2d2352a5f32aa66f3bcbc316118c6926927ad8dfa3853d713d44f14a", func := "postroom/postroomlaw5.EntryJoins", spec := "entryJoins", unfollowed := true, recurses := true, apart := false, narrowed := true }
def EntryJoinsUptoSaid : Prop := entryJoinsUptoRow.holds Try.pinned (OpenSpec.upto entryJoinsSpec)

end Rows
end Go.Proofs.Ytbjcphefaciihaa
