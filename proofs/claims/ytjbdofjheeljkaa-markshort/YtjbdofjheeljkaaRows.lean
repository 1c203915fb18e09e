/-
  No cell of these rows narrows 'for every input' (looked for: loops, veiled, ifaces, maps, wideKeys, modest, calm, conditions, laid).
  DERIVED. THE GIVEN ROWS OF THIS SEAT. 12 by the template 'for every input the law returns true; each argument reads behind the call as it read before'; 0 by the template 'total and deterministic' (their statements: YtjbdofjheeljkaaTotals.lean).
  GIVEN WITH THE SEED: the statements are not yours to turn. If you find one false, say at which input.
  Laid BY PROGRAM, IN A SANDBOX (cutbox-rows.mjs): the forced cells as the released guide's own fill.sh prints them over the translation 9b0d930576cf5f3c… (all of the seat's roots in one cut). By AI agents, Wed Nov 11 2026. No macro, syntax, notation, axiom, sorry.
-/
import Derived.Test.YtjbdofjheeljkaaChecked
import GoSem.Claim
import GoSem.ClaimJoined
import GoSem.ClaimMapViews
import Derived.JoinedTies
import Derived.KernelRfl
namespace Go.Proofs.Ytjbdofjheeljkaa
/- THE CELL 'sum', in the pinned program and in every row, IS THE sha256 OF THE DUMP (.gsa) THAT YtjbdofjheeljkaaProg.lean LOADS. Nothing in Lean hashes anything: it is a label: what it is worth is what the hold of that sum in a sandbox is worth. -/
noncomputable def Try.pinned : Pinned := { name := "ytjbdofjheeljkaa", sum := "9b0d930576cf5f3ce977b37adae5b47f3102b7f99575121b2d9583ee37c6f80f", checked := Try.checked }
namespace Rows
def none {H : Type} : Left H := { results := [], args := [] }

/-- 'postroomlaw10.LedgerPlays': WHATEVER THE INPUT: true; the input reads as it did. -/
def ledgerPlaysSpec : ChangeSpec := { name := "ledgerPlays", fn := fun _ => fun
  | [d1, d2, d3] => { results := [.lit (.bool true)], args := [d1, d2, d3] }
  | _ => none }
def ledgerPlaysRow : OpenClaim := { program := "ytjbdofjheeljkaa", sum := "9b0d930576cf5f3ce977b37adae5b47f3102b7f99575121b2d9583ee37c6f80f", func := "postroom/postroomlaw10.LedgerPlays", spec := "ledgerPlays", apart := false }
def LedgerPlaysSaid : Prop := ledgerPlaysRow.holds Try.pinned (OpenSpec.ofChange ledgerPlaysSpec)

/-- ITS FALSE NEIGHBOUR: 'it returns false'. Refute it at one input. -/
def ledgerPlaysWrong : ChangeSpec := { name := "ledgerPlays", fn := fun _ => fun
  | [d1, d2, d3] => { results := [.lit (.bool false)], args := [d1, d2, d3] }
  | _ => none }
def LedgerPlaysWrongFalsely : Prop := ledgerPlaysRow.holds Try.pinned (OpenSpec.ofChange ledgerPlaysWrong)

/-- 'postroomlaw10.LedgerCounts': WHATEVER THE INPUT: true; the input reads as it did. -/
def ledgerCountsSpec : ChangeSpec := { name := "ledgerCounts", fn := fun _ => fun
  | [d1, d2] => { results := [.lit (.bool true)], args := [d1, d2] }
  | _ => none }
def ledgerCountsRow : OpenClaim := { program := "ytjbdofjheeljkaa", sum := "9b0d930576cf5f3ce977b37adae5b47f3102b7f99575121b2d9583ee37c6f80f", func := "postroom/postroomlaw10.LedgerCounts", spec := "ledgerCounts", apart := false }
def LedgerCountsSaid : Prop := ledgerCountsRow.holds Try.pinned (OpenSpec.ofChange ledgerCountsSpec)

/-- ITS FALSE NEIGHBOUR: 'it returns false'. Refute it at one input. -/
def ledgerCountsWrong : ChangeSpec := { name := "ledgerCounts", fn := fun _ => fun
  | [d1, d2] => { results := [.lit (.bool false)], args := [d1, d2] }
  | _ => none }
def LedgerCountsWrongFalsely : Prop := ledgerCountsRow.holds Try.pinned (OpenSpec.ofChange ledgerCountsWrong)

/-- 'postroomlaw10.LedgerDone': WHATEVER THE INPUT: true; the input reads as it did. -/
def ledgerDoneSpec : ChangeSpec := { name := "ledgerDone", fn := fun _ => fun
  | [d1, d2, d3, d4] => { results := [.lit (.bool true)], args := [d1, d2, d3, d4] }
  | _ => none }
def ledgerDoneRow : OpenClaim := { program := "ytjbdofjheeljkaa", sum := "9b0d930576cf5f3ce977b37adae5b47f3102b7f99575121b2d9583ee37c6f80f", func := "postroom/postroomlaw10.LedgerDone", spec := "ledgerDone", apart := false }
def LedgerDoneSaid : Prop := ledgerDoneRow.holds Try.pinned (OpenSpec.ofChange ledgerDoneSpec)

/-- ITS FALSE NEIGHBOUR: 'it returns false'. Refute it at one input. -/
def ledgerDoneWrong : ChangeSpec := { name := "ledgerDone", fn := fun _ => fun
  | [d1, d2, d3, d4] => { results := [.lit (.bool false)], args := [d1, d2, d3, d4] }
  | _ => none }
def LedgerDoneWrongFalsely : Prop := ledgerDoneRow.holds Try.pinned (OpenSpec.ofChange ledgerDoneWrong)

/-- 'postroomlaw10.LedgerOrder': WHATEVER THE INPUT: true; the input reads as it did. -/
def ledgerOrderSpec : ChangeSpec := { name := "ledgerOrder", fn := fun _ => fun
  | [d1, d2, d3, d4, d5, d6] => { results := [.lit (.bool true)], args := [d1, d2, d3, d4, d5, d6] }
  | _ => none }
def ledgerOrderRow : OpenClaim := { program := "ytjbdofjheeljkaa", sum := "9b0d930576cf5f3ce977b37adae5b47f3102b7f99575121b2d9583ee37c6f80f", func := "postroom/postroomlaw10.LedgerOrder", spec := "ledgerOrder", apart := false }
def LedgerOrderSaid : Prop := ledgerOrderRow.holds Try.pinned (OpenSpec.ofChange ledgerOrderSpec)

/-- ITS FALSE NEIGHBOUR: 'it returns false'. Refute it at one input. -/
def ledgerOrderWrong : ChangeSpec := { name := "ledgerOrder", fn := fun _ => fun
  | [d1, d2, d3, d4, d5, d6] => { results := [.lit (.bool false)], args := [d1, d2, d3, d4, d5, d6] }
  | _ => none }
def LedgerOrderWrongFalsely : Prop := ledgerOrderRow.holds Try.pinned (OpenSpec.ofChange ledgerOrderWrong)

/-- 'postroomlaw10.LedgerEvicts': WHATEVER THE INPUT: true; the input reads as it did. -/
def ledgerEvictsSpec : ChangeSpec := { name := "ledgerEvicts", fn := fun _ => fun
  | [d1, d2] => { results := [.lit (.bool true)], args := [d1, d2] }
  | _ => none }
def ledgerEvictsRow : OpenClaim := { program := "ytjbdofjheeljkaa", sum := "9b0d930576cf5f3ce977b37adae5b47f3102b7f99575121b2d9583ee37c6f80f", func := "postroom/postroomlaw10.LedgerEvicts", spec := "ledgerEvicts", apart := false }
def LedgerEvictsSaid : Prop := ledgerEvictsRow.holds Try.pinned (OpenSpec.ofChange ledgerEvictsSpec)

/-- ITS FALSE NEIGHBOUR: 'it returns false'. Refute it at one input. -/
def ledgerEvictsWrong : ChangeSpec := { name := "ledgerEvicts", fn := fun _ => fun
  | [d1, d2] => { results := [.lit (.bool false)], args := [d1, d2] }
  | _ => none }
def LedgerEvictsWrongFalsely : Prop := ledgerEvictsRow.holds Try.pinned (OpenSpec.ofChange ledgerEvictsWrong)

/-- 'postroomlaw10.LedgerJoins': WHATEVER THE INPUT: true; the input reads as it did. -/
def ledgerJoinsSpec : ChangeSpec := { name := "ledgerJoins", fn := fun _ => fun
  | [d1, d2, d3] => { results := [.lit (.bool true)], args := [d1, d2, d3] }
  | _ => none }
def ledgerJoinsRow : OpenClaim := { program := "ytjbdofjheeljkaa", sum := "9b0d930576cf5f3ce977b37adae5b47f3102b7f99575121b2d9583ee37c6f80f", func := "postroom/postroomlaw10.LedgerJoins", spec := "ledgerJoins", apart := false }
def LedgerJoinsSaid : Prop := ledgerJoinsRow.holds Try.pinned (OpenSpec.ofChange ledgerJoinsSpec)

/-- ITS FALSE NEIGHBOUR: 'it returns false'. Refute it at one input. -/
def ledgerJoinsWrong : ChangeSpec := { name := "ledgerJoins", fn := fun _ => fun
  | [d1, d2, d3] => { results := [.lit (.bool false)], args := [d1, d2, d3] }
  | _ => none }
def LedgerJoinsWrongFalsely : Prop := ledgerJoinsRow.holds Try.pinned (OpenSpec.ofChange ledgerJoinsWrong)

/-- 'postroomlaw10.LedgerRight': WHATEVER THE INPUT: true; the input reads as it did. -/
def ledgerRightSpec : ChangeSpec := { name := "ledgerRight", fn := fun _ => fun
  | [d1, d2, d3] => { results := [.lit (.bool true)], args := [d1, d2, d3] }
  | _ => none }
def ledgerRightRow : OpenClaim := { program := "ytjbdofjheeljkaa", sum := "9b0d930576cf5f3ce977b37adae5b47f3102b7f99575121b2d9583ee37c6f80f", func := "postroom/postroomlaw10.LedgerRight", spec := "ledgerRight", apart := false }
def LedgerRightSaid : Prop := ledgerRightRow.holds Try.pinned (OpenSpec.ofChange ledgerRightSpec)

/-- ITS FALSE NEIGHBOUR: 'it returns false'. Refute it at one input. -/
def ledgerRightWrong : ChangeSpec := { name := "ledgerRight", fn := fun _ => fun
  | [d1, d2, d3] => { results := [.lit (.bool false)], args := [d1, d2, d3] }
  | _ => none }
def LedgerRightWrongFalsely : Prop := ledgerRightRow.holds Try.pinned (OpenSpec.ofChange ledgerRightWrong)

/-- 'postroomlaw11.MarkTells': WHATEVER THE INPUT: true; the input reads as it did. -/
def markTellsSpec : ChangeSpec := { name := "markTells", fn := fun _ => fun
  | [d1, d2] => { results := [.lit (.bool true)], args := [d1, d2] }
  | _ => none }
def markTellsRow : OpenClaim := { program := "ytjbdofjheeljkaa", sum := "9b0d930576cf5f3ce977b37adae5b47f3102b7f99575121b2d9583ee37c6f80f", func := "postroom/postroomlaw11.MarkTells", spec := "markTells", inPlace := ["internal/abi.NoEscape"], apart := false }
def MarkTellsSaid : Prop := markTellsRow.holds Try.pinned (OpenSpec.ofChange markTellsSpec)

/-- ITS FALSE NEIGHBOUR: 'it returns false'. Refute it at one input. -/
def markTellsWrong : ChangeSpec := { name := "markTells", fn := fun _ => fun
  | [d1, d2] => { results := [.lit (.bool false)], args := [d1, d2] }
  | _ => none }
def MarkTellsWrongFalsely : Prop := markTellsRow.holds Try.pinned (OpenSpec.ofChange markTellsWrong)

/-- 'postroomlaw11.MarkBack': WHATEVER THE INPUT: true; the input reads as it did. -/
def markBackSpec : ChangeSpec := { name := "markBack", fn := fun _ => fun
  | [d1, d2, d3] => { results := [.lit (.bool true)], args := [d1, d2, d3] }
  | _ => none }
def markBackRow : OpenClaim := { program := "ytjbdofjheeljkaa", sum := "9b0d930576cf5f3ce977b37adae5b47f3102b7f99575121b2d9583ee37c6f80f", func := "postroom/postroomlaw11.MarkBack", spec := "markBack", inPlace := ["internal/abi.NoEscape"], apart := false }
def MarkBackSaid : Prop := markBackRow.holds Try.pinned (OpenSpec.ofChange markBackSpec)

/-- ITS FALSE NEIGHBOUR: 'it returns false'. Refute it at one input. -/
def markBackWrong : ChangeSpec := { name := "markBack", fn := fun _ => fun
  | [d1, d2, d3] => { results := [.lit (.bool false)], args := [d1, d2, d3] }
  | _ => none }
def MarkBackWrongFalsely : Prop := markBackRow.holds Try.pinned (OpenSpec.ofChange markBackWrong)

/-- 'postroomlaw11.MarkOne': WHATEVER THE INPUT: true; the input reads as it did. -/
def markOneSpec : ChangeSpec := { name := "markOne", fn := fun _ => fun
  | [d1, d2, d3] => { results := [.lit (.bool true)], args := [d1, d2, d3] }
  | _ => none }
def markOneRow : OpenClaim := { program := "ytjbdofjheeljkaa", sum := "9b0d930576cf5f3ce977b37adae5b47f3102b7f99575121b2d9583ee37c6f80f", func := "postroom/postroomlaw11.MarkOne", spec := "markOne", inPlace := ["internal/abi.NoEscape"], apart := false }
def MarkOneSaid : Prop := markOneRow.holds Try.pinned (OpenSpec.ofChange markOneSpec)

/-- ITS FALSE NEIGHBOUR: 'it returns false'. Refute it at one input. -/
def markOneWrong : ChangeSpec := { name := "markOne", fn := fun _ => fun
  | [d1, d2, d3] => { results := [.lit (.bool false)], args := [d1, d2, d3] }
  | _ => none }
def MarkOneWrongFalsely : Prop := markOneRow.holds Try.pinned (OpenSpec.ofChange markOneWrong)

/-- 'postroomlaw11.MarkGoes': WHATEVER THE INPUT: true; the input reads as it did. -/
def markGoesSpec : ChangeSpec := { name := "markGoes", fn := fun _ => fun
  | [d1, d2, d3] => { results := [.lit (.bool true)], args := [d1, d2, d3] }
  | _ => none }
def markGoesRow : OpenClaim := { program := "ytjbdofjheeljkaa", sum := "9b0d930576cf5f3ce977b37adae5b47f3102b7f99575121b2d9583ee37c6f80f", func := "postroom/postroomlaw11.MarkGoes", spec := "markGoes", inPlace := ["internal/abi.NoEscape"], apart := false }
def MarkGoesSaid : Prop := markGoesRow.holds Try.pinned (OpenSpec.ofChange markGoesSpec)

/-- ITS FALSE NEIGHBOUR: 'it returns false'. Refute it at one input. -/
def markGoesWrong : ChangeSpec := { name := "markGoes", fn := fun _ => fun
  | [d1, d2, d3] => { results := [.lit (.bool false)], args := [d1, d2, d3] }
  | _ => none }
def MarkGoesWrongFalsely : Prop := markGoesRow.holds Try.pinned (OpenSpec.ofChange markGoesWrong)

/-- 'postroomlaw11.MarkShort': WHATEVER THE INPUT: true; the input reads as it did. -/
def markShortSpec : ChangeSpec := { name := "markShort", fn := fun _ => fun
  | [d] => { results := [.lit (.bool true)], args := [d] }
  | _ => none }
def markShortRow : OpenClaim := { program := "ytjbdofjheeljkaa", sum := "9b0d930576cf5f3ce977b37adae5b47f3102b7f99575121b2d9583ee37c6f80f", func := "postroom/postroomlaw11.MarkShort", spec := "markShort", inPlace := ["internal/abi.NoEscape"], apart := false }
def MarkShortSaid : Prop := markShortRow.holds Try.pinned (OpenSpec.ofChange markShortSpec)

/-- ITS FALSE NEIGHBOUR: 'it returns false'. Refute it at one input. -/
def markShortWrong : ChangeSpec := { name := "markShort", fn := fun _ => fun
  | [d] => { results := [.lit (.bool false)], args := [d] }
  | _ => none }
def MarkShortWrongFalsely : Prop := markShortRow.holds Try.pinned (OpenSpec.ofChange markShortWrong)

/- THE SECOND FORM. 'bulk': how many values and letters a reading holds, each counted each time it is reached (what is shared counts as often as it is met; a slice's spare places count too). A statement '..UptoSaid' is the law's where the arguments, and the package variables that the reading takes, are together of bulk at most 1048576: NARROWER than '..Said'. Prove '..Said' where nothing that the law and all that it calls make is longer than what came in: it says more and counts as full. Else prove '..UptoSaid'. A law counts once. -/
mutual
def uptoBulk {H : Type} : DataW H → Nat
  | .lit (.string bytes) => bytes.length + 1
  | .lit _ => 1
  | .nil => 1
  | .ptr d => uptoBulk d + 1
  | .slice elems spare => uptoBulkAll elems + uptoBulkAll spare + 1
  | .agg parts => uptoBulkAll parts + 1
  | .iface _ d => uptoBulk d + 1
  | .map entries => uptoBulkEntries entries + 1
  | .held _ => 1
def uptoBulkAll {H : Type} : List (DataW H) → Nat
  | [] => 0
  | d :: r => uptoBulk d + uptoBulkAll r
def uptoBulkEntries {H : Type} : List (Lit × DataW H) → Nat
  | [] => 0
  | x :: r => uptoBulkEntry x + uptoBulkEntries r
def uptoBulkEntry {H : Type} : Lit × DataW H → Nat
  | (.string bytes, d) => bytes.length + uptoBulk d + 1
  | (_, d) => uptoBulk d + 1
 end
def uptoSmall : (H : Type) → List (DataW H) → Bool := fun _ ds => decide (uptoBulkAll ds ≤ 1048576)
def OpenSpec.upto (s : _root_.Go.ChangeSpec) : _root_.Go.OpenSpec := { _root_.Go.OpenSpec.ofChange s with cond := some uptoSmall }

/-- 'postroomlaw10.LedgerPlays', WHERE WHAT IT READS IS OF BULK AT MOST 1048576: true; the input reads as it did. -/
def ledgerPlaysUptoRow : OpenClaim := { program := "ytjbdofjheeljkaa", sum := "9b0d930576cf5f3ce977b37adae5b47f3102b7f99575121b2d9583ee37c6f80f", func := "postroom/postroomlaw10.LedgerPlays", spec := "ledgerPlays", apart := false, narrowed := true }
def LedgerPlaysUptoSaid : Prop := ledgerPlaysUptoRow.holds Try.pinned (OpenSpec.upto ledgerPlaysSpec)

/-- 'postroomlaw10.LedgerCounts', WHERE WHAT IT READS IS OF BULK AT MOST 1048576: true; the input reads as it did. -/
def ledgerCountsUptoRow : OpenClaim := { program := "ytjbdofjheeljkaa", sum := "9b0d930576cf5f3ce977b37adae5b47f3102b7f99575121b2d9583ee37c6f80f", func := "postroom/postroomlaw10.LedgerCounts", spec := "ledgerCounts", apart := false, narrowed := true }
def LedgerCountsUptoSaid : Prop := ledgerCountsUptoRow.holds Try.pinned (OpenSpec.upto ledgerCountsSpec)

/-- 'postroomlaw10.LedgerDone', WHERE WHAT IT READS IS OF BULK AT MOST 1048576: true; the input reads as it did. -/
def ledgerDoneUptoRow : OpenClaim := { program := "ytjbdofjheeljkaa", sum := "9b0d930576cf5f3ce977b37adae5b47f3102b7f99575121b2d9583ee37c6f80f", func := "postroom/postroomlaw10.LedgerDone", spec := "ledgerDone", apart := false, narrowed := true }
def LedgerDoneUptoSaid : Prop := ledgerDoneUptoRow.holds Try.pinned (OpenSpec.upto ledgerDoneSpec)

/-- 'postroomlaw10.LedgerOrder', WHERE WHAT IT READS IS OF BULK AT MOST 1048576: true; the input reads as it did. -/
def ledgerOrderUptoRow : OpenClaim := { program := "ytjbdofjheeljkaa", sum := "9b0d930576cf5f3ce977b37adae5b47f3102b7f99575121b2d9583ee37c6f80f", func := "postroom/postroomlaw10.LedgerOrder", spec := "ledgerOrder", apart := false, narrowed := true }
def LedgerOrderUptoSaid : Prop := ledgerOrderUptoRow.holds Try.pinned (OpenSpec.upto ledgerOrderSpec)

/-- 'postroomlaw10.LedgerEvicts', WHERE WHAT IT READS IS OF BULK AT MOST 1048576: true; the input reads as it did. -/
def ledgerEvictsUptoRow : OpenClaim := { program := "ytjbdofjheeljkaa", sum := "9b0d930576cf5f3ce977b37adae5b47f3102b7f99575121b2d9583ee37c6f80f", func := "postroom/postroomlaw10.LedgerEvicts", spec := "ledgerEvicts", apart := false, narrowed := true }
def LedgerEvictsUptoSaid : Prop := ledgerEvictsUptoRow.holds Try.pinned (OpenSpec.upto ledgerEvictsSpec)

/-- 'postroomlaw10.LedgerJoins', WHERE WHAT IT READS IS OF BULK AT MOST 1048576: true; the input reads as it did. -/
def ledgerJoinsUptoRow : OpenClaim := { program := "ytjbdofjheeljkaa", sum := "9b0d930576cf5f3ce977b37adae5b47f3102b7f99575121b2d9583ee37c6f80f", func := "postroom/postroomlaw10.LedgerJoins", spec := "ledgerJoins", apart := false, narrowed := true }
def LedgerJoinsUptoSaid : Prop := ledgerJoinsUptoRow.holds Try.pinned (OpenSpec.upto ledgerJoinsSpec)

/-- 'postroomlaw10.LedgerRight', WHERE WHAT IT READS IS OF BULK AT MOST 1048576: true; the input reads as it did. -/
def ledgerRightUptoRow : OpenClaim := { program := "ytjbdofjheeljkaa", sum := "9b0d930576cf5f3ce977b37adae5b47f3102b7f99575121b2d9583ee37c6f80f", func := "postroom/postroomlaw10.LedgerRight", spec := "ledgerRight", apart := false, narrowed := true }
def LedgerRightUptoSaid : Prop := ledgerRightUptoRow.holds Try.pinned (OpenSpec.upto ledgerRightSpec)

/-- 'postroomlaw11.MarkTells', WHERE WHAT IT READS IS OF BULK AT MOST 1048576: true; the input reads as it did. -/
def markTellsUptoRow : OpenClaim := { program := "ytjbdofjheeljkaa", sum := "9b0d930576cf5f3ce977b37adae5b47f3102b7f99575121b2d9583ee37c6f80f", func := "postroom/postroomlaw11.MarkTells", spec := "markTells", inPlace := ["internal/abi.NoEscape"], apart := false, narrowed := true }
def MarkTellsUptoSaid : Prop := markTellsUptoRow.holds Try.pinned (OpenSpec.upto markTellsSpec)

/-- 'postroomlaw11.MarkBack', WHERE WHAT IT READS IS OF BULK AT MOST 1048576: true; the input reads as it did. -/
def markBackUptoRow : OpenClaim := { program := "ytjbdofjheeljkaa", sum := "9b0d930576cf5f3ce977b37adae5b47f3102b7f99575121b2d9583ee37c6f80f", func := "postroom/postroomlaw11.MarkBack", spec := "markBack", inPlace := ["internal/abi.NoEscape"], apart := false, narrowed := true }
def MarkBackUptoSaid : Prop := markBackUptoRow.holds Try.pinned (OpenSpec.upto markBackSpec)

/-- 'postroomlaw11.MarkOne', WHERE WHAT IT READS IS OF BULK AT MOST 1048576: true; the input reads as it did. -/
def markOneUptoRow : OpenClaim := { program := "ytjbdofjheeljkaa", sum := "9b0d930576cf5f3ce977b37adae5b47f3102b7f99575121b2d9583ee37c6f80f", func := "postroom/postroomlaw11.MarkOne", spec := "markOne", inPlace := ["internal/abi.NoEscape"], apart := false, narrowed := true }
def MarkOneUptoSaid : Prop := markOneUptoRow.holds Try.pinned (OpenSpec.upto markOneSpec)

/-- 'postroomlaw11.MarkGoes', WHERE WHAT IT READS IS OF BULK AT MOST 1048576: true; the input reads as it did. -/
def markGoesUptoRow : OpenClaim := { program := "ytjbdofjheeljkaa", sum := "9b0d930576cf5f3ce977b37adae5b47f3102b7f99575121b2d9583ee37c6f80f", func := "postroom/postroomlaw11.MarkGoes", spec := "markGoes", inPlace := ["internal/abi.NoEscape"], apart := false, narrowed := true }
def MarkGoesUptoSaid : Prop := markGoesUptoRow.holds Try.pinned (OpenSpec.upto markGoesSpec)

/-- 'postroomlaw11.MarkShort', WHERE WHAT IT READS IS OF BULK AT MOST 1048576: true; the input reads as it did. -/
def markShortUptoRow : OpenClaim := { program := "ytjbdofjheeljkaa", sum := "9b0d930576cf5f3ce977b37adae5b47f3102b7f99575121b2d9583ee37c6f80f", func := "postroom/postroomlaw11.MarkShort", spec := "markShort", inPlace := ["internal/abi.NoEscape"], apart := false, narrowed := true }
def MarkShortUptoSaid : Prop := markShortUptoRow.holds Try.pinned (OpenSpec.upto markShortSpec)

end Rows
end Go.Proofs.Ytjbdofjheeljkaa
