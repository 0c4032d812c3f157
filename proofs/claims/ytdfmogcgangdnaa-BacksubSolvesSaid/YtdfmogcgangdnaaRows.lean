/-
  No cell of these rows narrows 'for every input' (looked for: loops, veiled, ifaces, maps, wideKeys, modest, calm, conditions, laid).
  DERIVED. THE GIVEN ROWS OF THIS SEAT. 4 by the template 'for every input the law returns true; each argument reads behind the call as it read before'; 0 by the template 'total and deterministic' (their statements: YtdfmogcgangdnaaTotals.lean).
  GIVEN WITH THE SEED: the statements are not yours to turn. If you find one false, say at which input.
  Laid BY PROGRAM, IN A SANDBOX (cutbox-rows.mjs): the forced cells as the released guide's own fill.sh prints them over the translation e506217654de6ead… (all of the seat's roots in one cut). By AI agents, Wed Nov 11 2026. No macro, syntax, notation, axiom, sorry.
-/
import Derived.Test.YtdfmogcgangdnaaChecked
import GoSem.Claim
import GoSem.ClaimJoined
import GoSem.ClaimMapViews
import Derived.JoinedTies
import Derived.KernelRfl
namespace Go.Proofs.Ytdfmogcgangdnaa
/- THE CELL 'sum', in the pinned program and in every row, IS THE sha256 OF THE DUMP (.gsa) THAT YtdfmogcgangdnaaProg.lean LOADS. Nothing in Lean hashes anything: it is a label: what it is worth is what the hold of that sum in a sandbox is worth. -/
noncomputable def Try.pinned : Pinned := { name := "ytdfmogcgangdnaa", sum := "e506217654de6ead278aea1bce3003df617899ab093edb6d5a425a135ba444bd", checked := Try.checked }
namespace Rows
def none {H : Type} : Left H := { results := [], args := [] }

/-- 'downpourlaw04.ReduceRows': WHATEVER THE INPUT: true; the input reads as it did. -/
def reduceRowsSpec : ChangeSpec := { name := "reduceRows", fn := fun _ => fun
  | [d] => { results := [.lit (.bool true)], args := [d] }
  | _ => none }
def reduceRowsRow : OpenClaim := { program := "ytdfmogcgangdnaa", sum := "e506217654de6ead278aea1bce3003df617899ab093edb6d5a425a135ba444bd", func := "downpour/downpourlaw04.ReduceRows", spec := "reduceRows", unfollowed := true, recurses := true, apart := false }
def ReduceRowsSaid : Prop := reduceRowsRow.holds Try.pinned (OpenSpec.ofChange reduceRowsSpec)

/-- ITS FALSE NEIGHBOUR: 'it returns false'. Refute it at one input. -/
def reduceRowsWrong : ChangeSpec := { name := "reduceRows", fn := fun _ => fun
  | [d] => { results := [.lit (.bool false)], args := [d] }
  | _ => none }
def ReduceRowsWrongFalsely : Prop := reduceRowsRow.holds Try.pinned (OpenSpec.ofChange reduceRowsWrong)

/-- 'downpourlaw04.ReduceSpans': WHATEVER THE INPUT: true; the input reads as it did. -/
def reduceSpansSpec : ChangeSpec := { name := "reduceSpans", fn := fun _ => fun
  | [d1, d2] => { results := [.lit (.bool true)], args := [d1, d2] }
  | _ => none }
def reduceSpansRow : OpenClaim := { program := "ytdfmogcgangdnaa", sum := "e506217654de6ead278aea1bce3003df617899ab093edb6d5a425a135ba444bd", func := "downpour/downpourlaw04.ReduceSpans", spec := "reduceSpans", unfollowed := true, recurses := true, apart := false }
def ReduceSpansSaid : Prop := reduceSpansRow.holds Try.pinned (OpenSpec.ofChange reduceSpansSpec)

/-- ITS FALSE NEIGHBOUR: 'it returns false'. Refute it at one input. -/
def reduceSpansWrong : ChangeSpec := { name := "reduceSpans", fn := fun _ => fun
  | [d1, d2] => { results := [.lit (.bool false)], args := [d1, d2] }
  | _ => none }
def ReduceSpansWrongFalsely : Prop := reduceSpansRow.holds Try.pinned (OpenSpec.ofChange reduceSpansWrong)

/-- 'downpourlaw04.ReduceUnique': WHATEVER THE INPUT: true; the input reads as it did. -/
def reduceUniqueSpec : ChangeSpec := { name := "reduceUnique", fn := fun _ => fun
  | [d1, d2, d3] => { results := [.lit (.bool true)], args := [d1, d2, d3] }
  | _ => none }
def reduceUniqueRow : OpenClaim := { program := "ytdfmogcgangdnaa", sum := "e506217654de6ead278aea1bce3003df617899ab093edb6d5a425a135ba444bd", func := "downpour/downpourlaw04.ReduceUnique", spec := "reduceUnique", unfollowed := true, recurses := true, apart := false }
def ReduceUniqueSaid : Prop := reduceUniqueRow.holds Try.pinned (OpenSpec.ofChange reduceUniqueSpec)

/-- ITS FALSE NEIGHBOUR: 'it returns false'. Refute it at one input. -/
def reduceUniqueWrong : ChangeSpec := { name := "reduceUnique", fn := fun _ => fun
  | [d1, d2, d3] => { results := [.lit (.bool false)], args := [d1, d2, d3] }
  | _ => none }
def ReduceUniqueWrongFalsely : Prop := reduceUniqueRow.holds Try.pinned (OpenSpec.ofChange reduceUniqueWrong)

/-- 'downpourlaw05.BacksubSolves': WHATEVER THE INPUT: true; the input reads as it did. -/
def backsubSolvesSpec : ChangeSpec := { name := "backsubSolves", fn := fun _ => fun
  | [d1, d2, d3] => { results := [.lit (.bool true)], args := [d1, d2, d3] }
  | _ => none }
def backsubSolvesRow : OpenClaim := { program := "ytdfmogcgangdnaa", sum := "e506217654de6ead278aea1bce3003df617899ab093edb6d5a425a135ba444bd", func := "downpour/downpourlaw05.BacksubSolves", spec := "backsubSolves", unfollowed := true, recurses := true, apart := false }
def BacksubSolvesSaid : Prop := backsubSolvesRow.holds Try.pinned (OpenSpec.ofChange backsubSolvesSpec)

/-- ITS FALSE NEIGHBOUR: 'it returns false'. Refute it at one input. -/
def backsubSolvesWrong : ChangeSpec := { name := "backsubSolves", fn := fun _ => fun
  | [d1, d2, d3] => { results := [.lit (.bool false)], args := [d1, d2, d3] }
  | _ => none }
def BacksubSolvesWrongFalsely : Prop := backsubSolvesRow.holds Try.pinned (OpenSpec.ofChange backsubSolvesWrong)

/- THE SECOND FORM. 'bulk': how many values and letters a reading holds, each counted each time it is reached (what is shared counts as often as it is met; a slice's spare places count too). A statement '..UptoSaid' is the law's where the arguments, and the package variables that the reading takes, are together of bulk at most 1048576: NARROWER than '..Said'. Prove '..Said' where nothing that the law and all that it calls make is longer than what came in: it says more and counts as full. Else prove '..UptoSaid'. A law counts once. -/
mutual
def uptoBulk {H : Type} : DataW H → Nat
  | .lit (.string bytes) => bytes.length + 1
  | .lit _ => 1
  | .nil => 1
  | .ptr d => uptoBulk d + 1
  | .slice elems spare => uptoBulkAll elems + uptoBulkAll spare + 1
  | .agg parts => uptoBulkAll parts + 1
  | .iface _ d => uptoBulk d + 1
  | .map entries => uptoBulkEntries entries + 1
  | .held _ => 1
def uptoBulkAll {H : Type} : List (DataW H) → Nat
  | [] => 0
  | d :: r => uptoBulk d + uptoBulkAll r
def uptoBulkEntries {H : Type} : List (Lit × DataW H) → Nat
  | [] => 0
  | x :: r => uptoBulkEntry x + uptoBulkEntries r
def uptoBulkEntry {H : Type} : Lit × DataW H → Nat
  | (.string bytes, d) => bytes.length + uptoBulk d + 1
  | (_, d) => uptoBulk d + 1
 end
def uptoSmall : (H : Type) → List (DataW H) → Bool := fun _ ds => decide (uptoBulkAll ds ≤ 1048576)
def OpenSpec.upto (s : _root_.Go.ChangeSpec) : _root_.Go.OpenSpec := { _root_.Go.OpenSpec.ofChange s with cond := some uptoSmall }

/-- 'downpourlaw04.ReduceRows', WHERE WHAT IT READS IS OF BULK AT MOST 1048576: true; the input reads as it did. -/
def reduceRowsUptoRow : OpenClaim := { program := "ytdfmogcgangdnaa", sum := "e506217654de6ead278aea1bce3003df617899ab093edb6d5a425a135ba444bd", func := "downpour/downpourlaw04.ReduceRows", spec := "reduceRows", unfollowed := true, recurses := true, apart := false, narrowed := true }
def ReduceRowsUptoSaid : Prop := reduceRowsUptoRow.holds Try.pinned (OpenSpec.upto reduceRowsSpec)

/-- 'downpourlaw04.ReduceSpans', WHERE WHAT IT READS IS OF BULK AT MOST 1048576: true; the input reads as it did. -/
def reduceSpansUptoRow : OpenClaim := { program := "ytdfmogcgangdnaa", sum := "e506217654de6ead278aea1bce3003df617899ab093edb6d5a425a135ba444bd", func := "downpour/downpourlaw04.ReduceSpans", spec := "reduceSpans", unfollowed := true, recurses := true, apart := false, narrowed := true }
def ReduceSpansUptoSaid : Prop := reduceSpansUptoRow.holds Try.pinned (OpenSpec.upto reduceSpansSpec)

/-- 'downpourlaw04.ReduceUnique', WHERE WHAT IT READS IS OF BULK AT MOST 1048576: true; the input reads as it did. -/
def reduceUniqueUptoRow : OpenClaim := { program := "ytdfmogcgangdnaa", sum := "e506217654de6ead278aea1bce3003df617899ab093edb6d5a425a135ba444bd", func := "downpour/downpourlaw04.ReduceUnique", spec := "reduceUnique", unfollowed := true, recurses := true, apart := false, narrowed := true }
def ReduceUniqueUptoSaid : Prop := reduceUniqueUptoRow.holds Try.pinned (OpenSpec.upto reduceUniqueSpec)

/-- 'downpourlaw05.BacksubSolves', WHERE WHAT IT READS IS OF BULK AT MOST 1048576: true; the input reads as it did. -/
def backsubSolvesUptoRow : OpenClaim := { program := "ytdfmogcgangdnaa", sum := "e506217654de6ead278aea1bce3003df617899ab093edb6d5a425a135ba444bd", func := "downpour/downpourlaw05.BacksubSolves", spec := "backsubSolves", unfollowed := true, recurses := true, apart := false, narrowed := true }
def BacksubSolvesUptoSaid : Prop := backsubSolvesUptoRow.holds Try.pinned (OpenSpec.upto backsubSolvesSpec)

end Rows
end Go.Proofs.Ytdfmogcgangdnaa
