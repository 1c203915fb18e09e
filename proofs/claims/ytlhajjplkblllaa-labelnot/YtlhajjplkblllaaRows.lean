/-
  No cell of these rows narrows 'for every input' (looked for: loops, veiled, ifaces, maps, wideKeys, modest, calm, conditions, laid).
  DERIVED. THE GIVEN ROWS OF THIS SEAT. 7 by the template 'for every input the law returns true; each argument reads behind the call as it read before'; 0 by the template 'total and deterministic' (their statements: YtlhajjplkblllaaTotals.lean).
  GIVEN WITH THE SEED: the statements are not yours to turn. If you find one false, say at which input.
  Laid BY PROGRAM, IN A SANDBOX (cutbox-rows.mjs): the forced cells as the released guide's own fill.sh prints them over the translation a50604315e0c1d0f… (all of the seat's roots in one cut). By AI agents, Wed Nov 11 2026. No macro, syntax, notation, axiom, sorry.
-/
import Derived.Test.YtlhajjplkblllaaChecked
import GoSem.Claim
import GoSem.ClaimJoined
import GoSem.ClaimMapViews
import Derived.JoinedTies
import Derived.KernelRfl
namespace Go.Proofs.Ytlhajjplkblllaa
/- THE CELL 'sum', in the pinned program and in every row, IS THE sha256 OF THE DUMP (.gsa) THAT YtlhajjplkblllaaProg.lean LOADS. Nothing in Lean hashes anything: it is a label: what it is worth is what the hold of that sum in a sandbox is worth. -/
noncomputable def Try.pinned : Pinned := { name := "ytlhajjplkblllaa", sum := "a50604315e0c1d0f925be7d280bbbfee02156d0cfd3e2e47cb400523e5dc88a5", checked := Try.checked }
namespace Rows
def none {H : Type} : Left H := { results := [], args := [] }

/-- 'postroomlaw3.LabelTells': WHATEVER THE INPUT: true; the input reads as it did. -/
def labelTellsSpec : ChangeSpec := { name := "labelTells", fn := fun _ => fun
  | [d1, d2] => { results := [.lit (.bool true)], args := [d1, d2] }
  | _ => none }
def labelTellsRow : OpenClaim := { program := "ytlhajjplkblllaa", sum := "a50604315e0c1d0f925be7d280bbbfee02156d0cfd3e2e47cb400523e5dc88a5", func := "postroom/postroomlaw3.LabelTells", spec := "labelTells", unfollowed := true, recurses := true, apart := false }
def LabelTellsSaid : Prop := labelTellsRow.holds Try.pinned (OpenSpec.ofChange labelTellsSpec)

/-- ITS FALSE NEIGHBOUR: 'it returns false'. Refute it at one input. -/
def labelTellsWrong : ChangeSpec := { name := "labelTells", fn := fun _ => fun
  | [d1, d2] => { results := [.lit (.bool false)], args := [d1, d2] }
  | _ => none }
def LabelTellsWrongFalsely : Prop := labelTellsRow.holds Try.pinned (OpenSpec.ofChange labelTellsWrong)

/-- 'postroomlaw3.LabelMatches': WHATEVER THE INPUT: true; the input reads as it did. -/
def labelMatchesSpec : ChangeSpec := { name := "labelMatches", fn := fun _ => fun
  | [d1, d2, d3] => { results := [.lit (.bool true)], args := [d1, d2, d3] }
  | _ => none }
def labelMatchesRow : OpenClaim := { program := "ytlhajjplkblllaa", sum := "a50604315e0c1d0f925be7d280bbbfee02156d0cfd3e2e47cb400523e5dc88a5", func := "postroom/postroomlaw3.LabelMatches", spec := "labelMatches", unfollowed := true, recurses := true, apart := false }
def LabelMatchesSaid : Prop := labelMatchesRow.holds Try.pinned (OpenSpec.ofChange labelMatchesSpec)

/-- ITS FALSE NEIGHBOUR: 'it returns false'. Refute it at one input. -/
def labelMatchesWrong : ChangeSpec := { name := "labelMatches", fn := fun _ => fun
  | [d1, d2, d3] => { results := [.lit (.bool false)], args := [d1, d2, d3] }
  | _ => none }
def LabelMatchesWrongFalsely : Prop := labelMatchesRow.holds Try.pinned (OpenSpec.ofChange labelMatchesWrong)

/-- 'postroomlaw3.LabelBack': WHATEVER THE INPUT: true; the input reads as it did. -/
def labelBackSpec : ChangeSpec := { name := "labelBack", fn := fun _ => fun
  | [d1, d2, d3] => { results := [.lit (.bool true)], args := [d1, d2, d3] }
  | _ => none }
def labelBackRow : OpenClaim := { program := "ytlhajjplkblllaa", sum := "a50604315e0c1d0f925be7d280bbbfee02156d0cfd3e2e47cb400523e5dc88a5", func := "postroom/postroomlaw3.LabelBack", spec := "labelBack", unfollowed := true, recurses := true, apart := false }
def LabelBackSaid : Prop := labelBackRow.holds Try.pinned (OpenSpec.ofChange labelBackSpec)

/-- ITS FALSE NEIGHBOUR: 'it returns false'. Refute it at one input. -/
def labelBackWrong : ChangeSpec := { name := "labelBack", fn := fun _ => fun
  | [d1, d2, d3] => { results := [.lit (.bool false)], args := [d1, d2, d3] }
  | _ => none }
def LabelBackWrongFalsely : Prop := labelBackRow.holds Try.pinned (OpenSpec.ofChange labelBackWrong)

/-- 'postroomlaw3.LabelOne': WHATEVER THE INPUT: true; the input reads as it did. -/
def labelOneSpec : ChangeSpec := { name := "labelOne", fn := fun _ => fun
  | [d1, d2, d3] => { results := [.lit (.bool true)], args := [d1, d2, d3] }
  | _ => none }
def labelOneRow : OpenClaim := { program := "ytlhajjplkblllaa", sum := "a50604315e0c1d0f925be7d280bbbfee02156d0cfd3e2e47cb400523e5dc88a5", func := "postroom/postroomlaw3.LabelOne", spec := "labelOne", unfollowed := true, recurses := true, apart := false }
def LabelOneSaid : Prop := labelOneRow.holds Try.pinned (OpenSpec.ofChange labelOneSpec)

/-- ITS FALSE NEIGHBOUR: 'it returns false'. Refute it at one input. -/
def labelOneWrong : ChangeSpec := { name := "labelOne", fn := fun _ => fun
  | [d1, d2, d3] => { results := [.lit (.bool false)], args := [d1, d2, d3] }
  | _ => none }
def LabelOneWrongFalsely : Prop := labelOneRow.holds Try.pinned (OpenSpec.ofChange labelOneWrong)

/-- 'postroomlaw3.LabelErrs': WHATEVER THE INPUT: true; the input reads as it did. -/
def labelErrsSpec : ChangeSpec := { name := "labelErrs", fn := fun _ => fun
  | [d1, d2, d3] => { results := [.lit (.bool true)], args := [d1, d2, d3] }
  | _ => none }
def labelErrsRow : OpenClaim := { program := "ytlhajjplkblllaa", sum := "a50604315e0c1d0f925be7d280bbbfee02156d0cfd3e2e47cb400523e5dc88a5", func := "postroom/postroomlaw3.LabelErrs", spec := "labelErrs", unfollowed := true, recurses := true, apart := false }
def LabelErrsSaid : Prop := labelErrsRow.holds Try.pinned (OpenSpec.ofChange labelErrsSpec)

/-- ITS FALSE NEIGHBOUR: 'it returns false'. Refute it at one input. -/
def labelErrsWrong : ChangeSpec := { name := "labelErrs", fn := fun _ => fun
  | [d1, d2, d3] => { results := [.lit (.bool false)], args := [d1, d2, d3] }
  | _ => none }
def LabelErrsWrongFalsely : Prop := labelErrsRow.holds Try.pinned (OpenSpec.ofChange labelErrsWrong)

/-- 'postroomlaw3.LabelNot': WHATEVER THE INPUT: true; the input reads as it did. -/
def labelNotSpec : ChangeSpec := { name := "labelNot", fn := fun _ => fun
  | [d1, d2, d3] => { results := [.lit (.bool true)], args := [d1, d2, d3] }
  | _ => none }
def labelNotRow : OpenClaim := { program := "ytlhajjplkblllaa", sum := "a50604315e0c1d0f925be7d280bbbfee02156d0cfd3e2e47cb400523e5dc88a5", func := "postroom/postroomlaw3.LabelNot", spec := "labelNot", unfollowed := true, recurses := true, apart := false }
def LabelNotSaid : Prop := labelNotRow.holds Try.pinned (OpenSpec.ofChange labelNotSpec)

/-- ITS FALSE NEIGHBOUR: 'it returns false'. Refute it at one input. -/
def labelNotWrong : ChangeSpec := { name := "labelNot", fn := fun _ => fun
  | [d1, d2, d3] => { results := [.lit (.bool false)], args := [d1, d2, d3] }
  | _ => none }
def LabelNotWrongFalsely : Prop := labelNotRow.holds Try.pinned (OpenSpec.ofChange labelNotWrong)

/-- 'postroomlaw3.LabelOrder': WHATEVER THE INPUT: true; the input reads as it did. -/
def labelOrderSpec : ChangeSpec := { name := "labelOrder", fn := fun _ => fun
  | [d1, d2, d3, d4] => { results := [.lit (.bool true)], args := [d1, d2, d3, d4] }
  | _ => none }
def labelOrderRow : OpenClaim := { program := "ytlhajjplkblllaa", sum := "a50604315e0c1d0f925be7d280bbbfee02156d0cfd3e2e47cb400523e5dc88a5", func := "postroom/postroomlaw3.LabelOrder", spec := "labelOrder", unfollowed := true, recurses := true, apart := false }
def LabelOrderSaid : Prop := labelOrderRow.holds Try.pinned (OpenSpec.ofChange labelOrderSpec)

/-- ITS FALSE NEIGHBOUR: 'it returns false'. Refute it at one input. -/
def labelOrderWrong : ChangeSpec := { name := "labelOrder", fn := fun _ => fun
  | [d1, d2, d3, d4] => { results := [.lit (.bool false)], args := [d1, d2, d3, d4] }
  | _ => none }
def LabelOrderWrongFalsely : Prop := labelOrderRow.holds Try.pinned (OpenSpec.ofChange labelOrderWrong)

/- THE SECOND FORM. 'bulk': how many values and letters a reading holds, each counted each time it is reached (what is shared counts as often as it is met; a slice's spare places count too). A statement '..UptoSaid' is the law's where the arguments, and the package variables that the reading takes, are together of bulk at most 1048576: NARROWER than '..Said'. Prove '..Said' where nothing that the law and all that it calls make is longer than what came in: it says more and counts as full. Else prove '..UptoSaid'. A law counts once. -/
mutual
def uptoBulk {H : Type} : DataW H → Nat
  | .lit (.string bytes) => bytes.length + 1
  | .lit _ => 1
  | .nil => 1
  | .ptr d => uptoBulk d + 1
  | .slice elems spare => uptoBulkAll elems + uptoBulkAll spare + 1
  | .agg parts => uptoBulkAll parts + 1
  | .iface _ d => uptoBulk d + 1
  | .map entries => uptoBulkEntries entries + 1
  | .held _ => 1
def uptoBulkAll {H : Type} : List (DataW H) → Nat
  | [] => 0
  | d :: r => uptoBulk d + uptoBulkAll r
def uptoBulkEntries {H : Type} : List (Lit × DataW H) → Nat
  | [] => 0
  | x :: r => uptoBulkEntry x + uptoBulkEntries r
def uptoBulkEntry {H : Type} : Lit × DataW H → Nat
  | (.string bytes, d) => bytes.length + uptoBulk d + 1
  | (_, d) => uptoBulk d + 1
 end
def uptoSmall : (H : Type) → List (DataW H) → Bool := fun _ ds => decide (uptoBulkAll ds ≤ 1048576)
def OpenSpec.upto (s : _root_.Go.ChangeSpec) : _root_.Go.OpenSpec := { _root_.Go.OpenSpec.ofChange s with cond := some uptoSmall }

/-- 'postroomlaw3.LabelTells', WHERE WHAT IT READS IS OF BULK AT MOST 1048576: true; the input reads as it did. -/
def labelTellsUptoRow : OpenClaim := { program := "ytlhajjplkblllaa", sum := "a50604315e0c1d0f925be7d280bbbfee02156d0cfd3e2e47cb400523e5dc88a5", func := "postroom/postroomlaw3.LabelTells", spec := "labelTells", unfollowed := true, recurses := true, apart := false, narrowed := true }
def LabelTellsUptoSaid : Prop := labelTellsUptoRow.holds Try.pinned (OpenSpec.upto labelTellsSpec)

/-- 'postroomlaw3.LabelMatches', WHERE WHAT IT READS IS OF BULK AT MOST 1048576: true; the input reads as it did. -/
def labelMatchesUptoRow : OpenClaim := { program := "ytlhajjplkblllaa", sum := "a50604315e0c1d0f925be7d280bbbfee02156d0cfd3e2e47cb400523e5dc88a5", func := "postroom/postroomlaw3.LabelMatches", spec := "labelMatches", unfollowed := true, recurses := true, apart := false, narrowed := true }
def LabelMatchesUptoSaid : Prop := labelMatchesUptoRow.holds Try.pinned (OpenSpec.upto labelMatchesSpec)

/-- 'postroomlaw3.LabelBack', WHERE WHAT IT READS IS OF BULK AT MOST 1048576: true; the input reads as it did. -/
def labelBackUptoRow : OpenClaim := { program := "ytlhajjplkblllaa", sum := "a50604315e0c1d0f925be7d280bbbfee02156d0cfd3e2e47cb400523e5dc88a5", func := "postroom/postroomlaw3.LabelBack", spec := "labelBack", unfollowed := true, recurses := true, apart := false, narrowed := true }
def LabelBackUptoSaid : Prop := labelBackUptoRow.holds Try.pinned (OpenSpec.upto labelBackSpec)

/-- 'postroomlaw3.LabelOne', WHERE WHAT IT READS IS OF BULK AT MOST 1048576: true; the input reads as it did. -/
def labelOneUptoRow : OpenClaim := { program := "ytlhajjplkblllaa", sum := "a50604315e0c1d0f925be7d280bbbfee02156d0cfd3e2e47cb400523e5dc88a5", func := "postroom/postroomlaw3.LabelOne", spec := "labelOne", unfollowed := true, recurses := true, apart := false, narrowed := true }
def LabelOneUptoSaid : Prop := labelOneUptoRow.holds Try.pinned (OpenSpec.upto labelOneSpec)

/-- 'postroomlaw3.LabelErrs', WHERE WHAT IT READS IS OF BULK AT MOST 1048576: true; the input reads as it did. -/
def labelErrsUptoRow : OpenClaim := { program := "ytlhajjplkblllaa", sum := "a50604315e0c1d0f925be7d280bbbfee02156d0cfd3e2e47cb400523e5dc88a5", func := "postroom/postroomlaw3.LabelErrs", spec := "labelErrs", unfollowed := true, recurses := true, apart := false, narrowed := true }
def LabelErrsUptoSaid : Prop := labelErrsUptoRow.holds Try.pinned (OpenSpec.upto labelErrsSpec)

/-- 'postroomlaw3.LabelNot', WHERE WHAT IT READS IS OF BULK AT MOST 1048576: true; the input reads as it did. -/
def labelNotUptoRow : OpenClaim := { program := "ytlhajjplkblllaa", sum := "a50604315e0c1d0f925be7d280bbbfee02156d0cfd3e2e47cb400523e5dc88a5", func := "postroom/postroomlaw3.LabelNot", spec := "labelNot", unfollowed := true, recurses := true, apart := false, narrowed := true }
def LabelNotUptoSaid : Prop := labelNotUptoRow.holds Try.pinned (OpenSpec.upto labelNotSpec)

/-- 'postroomlaw3.LabelOrder', WHERE WHAT IT READS IS OF BULK AT MOST 1048576: true; the input reads as it did. -/
def labelOrderUptoRow : OpenClaim := { program := "ytlhajjplkblllaa", sum := "a50604315e0c1d0f925be7d280bbbfee02156d0cfd3e2e47cb400523e5dc88a5", func := "postroom/postroomlaw3.LabelOrder", spec := "labelOrder", unfollowed := true, recurses := true, apart := false, narrowed := true }
def LabelOrderUptoSaid : Prop := labelOrderUptoRow.holds Try.pinned (OpenSpec.upto labelOrderSpec)

end Rows
end Go.Proofs.Ytlhajjplkblllaa
