/-
  No cell of these rows narrows 'for every input' (looked for: loops, veiled, ifaces, maps, wideKeys, modest, calm, conditions, laid).
  DERIVED. THE GIVEN ROWS OF THIS SEAT. 4 by the template 'for every input the law returns true; each argument reads behind the call as it read before'; 0 by the template 'total and deterministic' (their statements: YtaheckbdmkendaaTotals.lean).
  GIVEN WITH THE SEED: the statements are not yours to turn. If you find one false, say at which input.
  Laid BY PROGRAM, IN A SANDBOX (cutbox-rows.mjs): the forced cells as the released guide's own fill.sh prints them over the translation 6ae081be87df1761… (all of the seat's roots in one cut). By AI agents, Wed Nov 11 2026. No macro, syntax, notation, axiom, sorry.
-/
import Derived.Test.YtaheckbdmkendaaChecked
import GoSem.Claim
import GoSem.ClaimJoined
import GoSem.ClaimMapViews
import Derived.JoinedTies
import Derived.KernelRfl
namespace Go.Proofs.Ytaheckbdmkendaa
/- THE CELL 'sum', in the pinned program and in every row, IS THE sha256 OF THE DUMP (.gsa) THAT YtaheckbdmkendaaProg.lean LOADS. Nothing in Lean hashes anything: it is a label: what it is worth is what the hold of that sum in a sandbox is worth. -/
noncomputable def Try.pinned : Pinned := { name := "ytaheckbdmkendaa", sum := "6ae081be87df1761df91cb405eb60cf4e92f19ef03a83c91f52d37c63ce497db", checked := Try.checked }
namespace Rows
def none {H : Type} : Left H := { results := [], args := [] }

/-- 'postroomlaw8.SwapWhole': WHATEVER THE INPUT: true; the input reads as it did. -/
def swapWholeSpec : ChangeSpec := { name := "swapWhole", fn := fun _ => fun
  | [d1, d2, d3] => { results := [.lit (.bool true)], args := [d1, d2, d3] }
  | _ => none }
def swapWholeRow : OpenClaim := { program := "ytaheckbdmkendaa", sum := "6ae081be87df1761df91cb405eb60cf4e92f19ef03a83c91f52d37c63ce497db", func := "postroom/postroomlaw8.SwapWhole", spec := "swapWhole", inPlace := ["maps.clone"], unfollowed := true, recurses := true, apart := false }
def SwapWholeSaid : Prop := swapWholeRow.holds Try.pinned (OpenSpec.ofChange swapWholeSpec)

/-- ITS FALSE NEIGHBOUR: 'it returns false'. Refute it at one input. -/
def swapWholeWrong : ChangeSpec := { name := "swapWhole", fn := fun _ => fun
  | [d1, d2, d3] => { results := [.lit (.bool false)], args := [d1, d2, d3] }
  | _ => none }
def SwapWholeWrongFalsely : Prop := swapWholeRow.holds Try.pinned (OpenSpec.ofChange swapWholeWrong)

/-- 'postroomlaw8.SwapFails': WHATEVER THE INPUT: true; the input reads as it did. -/
def swapFailsSpec : ChangeSpec := { name := "swapFails", fn := fun _ => fun
  | [d1, d2, d3, d4] => { results := [.lit (.bool true)], args := [d1, d2, d3, d4] }
  | _ => none }
def swapFailsRow : OpenClaim := { program := "ytaheckbdmkendaa", sum := "6ae081be87df1761df91cb405eb60cf4e92f19ef03a83c91f52d37c63ce497db", func := "postroom/postroomlaw8.SwapFails", spec := "swapFails", inPlace := ["maps.clone"], unfollowed := true, recurses := true, apart := false }
def SwapFailsSaid : Prop := swapFailsRow.holds Try.pinned (OpenSpec.ofChange swapFailsSpec)

/-- ITS FALSE NEIGHBOUR: 'it returns false'. Refute it at one input. -/
def swapFailsWrong : ChangeSpec := { name := "swapFails", fn := fun _ => fun
  | [d1, d2, d3, d4] => { results := [.lit (.bool false)], args := [d1, d2, d3, d4] }
  | _ => none }
def SwapFailsWrongFalsely : Prop := swapFailsRow.holds Try.pinned (OpenSpec.ofChange swapFailsWrong)

/-- 'postroomlaw8.SwapNames': WHATEVER THE INPUT: true; the input reads as it did. -/
def swapNamesSpec : ChangeSpec := { name := "swapNames", fn := fun _ => fun
  | [d1, d2] => { results := [.lit (.bool true)], args := [d1, d2] }
  | _ => none }
def swapNamesRow : OpenClaim := { program := "ytaheckbdmkendaa", sum := "6ae081be87df1761df91cb405eb60cf4e92f19ef03a83c91f52d37c63ce497db", func := "postroom/postroomlaw8.SwapNames", spec := "swapNames", unfollowed := true, recurses := true, apart := false }
def SwapNamesSaid : Prop := swapNamesRow.holds Try.pinned (OpenSpec.ofChange swapNamesSpec)

/-- ITS FALSE NEIGHBOUR: 'it returns false'. Refute it at one input. -/
def swapNamesWrong : ChangeSpec := { name := "swapNames", fn := fun _ => fun
  | [d1, d2] => { results := [.lit (.bool false)], args := [d1, d2] }
  | _ => none }
def SwapNamesWrongFalsely : Prop := swapNamesRow.holds Try.pinned (OpenSpec.ofChange swapNamesWrong)

/-- 'postroomlaw8.SwapTwo': WHATEVER THE INPUT: true; the input reads as it did. -/
def swapTwoSpec : ChangeSpec := { name := "swapTwo", fn := fun _ => fun
  | [d1, d2, d3] => { results := [.lit (.bool true)], args := [d1, d2, d3] }
  | _ => none }
def swapTwoRow : OpenClaim := { program := "ytaheckbdmkendaa", sum := "6ae081be87df1761df91cb405eb60cf4e92f19ef03a83c91f52d37c63ce497db", func := "postroom/postroomlaw8.SwapTwo", spec := "swapTwo", inPlace := ["maps.clone"], unfollowed := true, recurses := true, apart := false }
def SwapTwoSaid : Prop := swapTwoRow.holds Try.pinned (OpenSpec.ofChange swapTwoSpec)

/-- ITS FALSE NEIGHBOUR: 'it returns false'. Refute it at one input. -/
def swapTwoWrong : ChangeSpec := { name := "swapTwo", fn := fun _ => fun
  | [d1, d2, d3] => { results := [.lit (.bool false)], args := [d1, d2, d3] }
  | _ => none }
def SwapTwoWrongFalsely : Prop := swapTwoRow.holds Try.pinned (OpenSpec.ofChange swapTwoWrong)

/- THE SECOND FORM. 'bulk': how many values and letters a reading holds, each counted each time it is reached (what is shared counts as often as it is met; a slice's spare places count too). A statement '..UptoSaid' is the law's where the arguments, and the package variables that the reading takes, are together of bulk at most 1048576: NARROWER than '..Said'. Prove '..Said' where nothing that the law and all that it calls make is longer than what came in: it says more and counts as full. Else prove '..UptoSaid'. A law counts once. -/
mutual
def uptoBulk {H : Type} : DataW H → Nat
  | .lit (.string bytes) => bytes.length + 1
  | .lit _ => 1
  | .nil => 1
  | .ptr d => uptoBulk d + 1
  | .slice elems spare => uptoBulkAll elems + uptoBulkAll spare + 1
  | .agg parts => uptoBulkAll parts + 1
  | .iface _ d => uptoBulk d + 1
  | .map entries => uptoBulkEntries entries + 1
  | .held _ => 1
def uptoBulkAll {H : Type} : List (DataW H) → Nat
  | [] => 0
  | d :: r => uptoBulk d + uptoBulkAll r
def uptoBulkEntries {H : Type} : List (Lit × DataW H) → Nat
  | [] => 0
  | x :: r => uptoBulkEntry x + uptoBulkEntries r
def uptoBulkEntry {H : Type} : Lit × DataW H → Nat
  | (.string bytes, d) => bytes.length + uptoBulk d + 1
  | (_, d) => uptoBulk d + 1
 end
def uptoSmall : (H : Type) → List (DataW H) → Bool := fun _ ds => decide (uptoBulkAll ds ≤ 1048576)
def OpenSpec.upto (s : _root_.Go.ChangeSpec) : _root_.Go.OpenSpec := { _root_.Go.OpenSpec.ofChange s with cond := some uptoSmall }

/-- 'postroomlaw8.SwapWhole', WHERE WHAT IT READS IS OF BULK AT MOST 1048576: true; the input reads as it did. -/
def swapWholeUptoRow : OpenClaim := { program := "ytaheckbdmkendaa", sum := "6ae081be87df1761df91cb405eb60cf4e92f19ef03a83c91f52d37c63ce497db", func := "postroom/postroomlaw8.SwapWhole", spec := "swapWhole", inPlace := ["maps.clone"], unfollowed := true, recurses := true, apart := false, narrowed := true }
def SwapWholeUptoSaid : Prop := swapWholeUptoRow.holds Try.pinned (OpenSpec.upto swapWholeSpec)

/-- 'postroomlaw8.SwapFails', WHERE WHAT IT READS IS OF BULK AT MOST 1048576: true; the input reads as it did. -/
def swapFailsUptoRow : OpenClaim := { program := "ytaheckbdmkendaa", sum := "6ae081be87df1761df91cb405eb60cf4e92f19ef03a83c91f52d37c63ce497db", func := "postroom/postroomlaw8.SwapFails", spec := "swapFails", inPlace := ["maps.clone"], unfollowed := true, recurses := true, apart := false, narrowed := true }
def SwapFailsUptoSaid : Prop := swapFailsUptoRow.holds Try.pinned (OpenSpec.upto swapFailsSpec)

/-- 'postroomlaw8.SwapNames', WHERE WHAT IT READS IS OF BULK AT MOST 1048576: true; the input reads as it did. -/
def swapNamesUptoRow : OpenClaim := { program := "ytaheckbdmkendaa", sum := "6ae081be87df1761df91cb405eb60cf4e92f19ef03a83c91f52d37c63ce497db", func := "postroom/postroomlaw8.SwapNames", spec := "swapNames", unfollowed := true, recurses := true, apart := false, narrowed := true }
def SwapNamesUptoSaid : Prop := swapNamesUptoRow.holds Try.pinned (OpenSpec.upto swapNamesSpec)

/-- 'postroomlaw8.SwapTwo', WHERE WHAT IT READS IS OF BULK AT MOST 1048576: true; the input reads as it did. -/
def swapTwoUptoRow : OpenClaim := { program := "ytaheckbdmkendaa", sum := "6ae081be87df1761df91cb405eb60cf4e92f19ef03a83c91f52d37c63ce497db", func := "postroom/postroomlaw8.SwapTwo", spec := "swapTwo", inPlace := ["maps.clone"], unfollowed := true, recurses := true, apart := false, narrowed := true }
def SwapTwoUptoSaid : Prop := swapTwoUptoRow.holds Try.pinned (OpenSpec.upto swapTwoSpec)

end Rows
end Go.Proofs.Ytaheckbdmkendaa
