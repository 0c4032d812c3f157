/-
  No cell of these rows narrows 'for every input' (looked for: loops, veiled, ifaces, maps, wideKeys, modest, calm, conditions, laid).
  DERIVED. THE GIVEN ROWS OF THIS SEAT. 5 by the template 'for every input the law returns true; each argument reads behind the call as it read before'; 0 by the template 'total and deterministic' (their statements: YtcamoigcfiemhaaTotals.lean).
  GIVEN WITH THE SEED: the statements are not yours to turn. If you find one false, say at which input.
  Laid BY PROGRAM, IN A SANDBOX (cutbox-rows.mjs): the forced cells as the released guide's own fill.sh prints them over the translation 5b5e52e9a32a6bdc… (all of the seat's roots in one cut). By AI agents, Wed Nov 11 2026. No macro, syntax, notation, axiom, sorry.
-/
import Derived.Test.YtcamoigcfiemhaaChecked
import GoSem.Claim
import GoSem.ClaimJoined
import GoSem.ClaimMapViews
import Derived.JoinedTies
import Derived.KernelRfl
namespace Go.Proofs.Ytcamoigcfiemhaa
/- THE CELL 'sum', in the pinned program and in every row, IS THE sha256 OF THE DUMP (.gsa) THAT YtcamoigcfiemhaaProg.lean LOADS. Nothing in Lean hashes anything: it is a label: what it is worth is what the hold of that sum in a sandbox is worth. -/
noncomputable def Try.pinned : Pinned := { name := "ytcamoigcfiemhaa", sum := "5b5e52e9a32a6bdc9374c139298ec371e789eeac150d918a10aaad0c00b6dd83", checked := Try.checked }
namespace Rows
def none {H : Type} : Left H := { results := [], args := [] }

/-- 'downpourlaw20.SchedMakes': WHATEVER THE INPUT: true; the input reads as it did. -/
def schedMakesSpec : ChangeSpec := { name := "schedMakes", fn := fun _ => fun
  | [d1, d2, d3] => { results := [.lit (.bool true)], args := [d1, d2, d3] }
  | _ => none }
def schedMakesRow : OpenClaim := { program := "ytcamoigcfiemhaa", sum := "5b5e52e9a32a6bdc9374c139298ec371e789eeac150d918a10aaad0c00b6dd83", func := "downpour/downpourlaw20.SchedMakes", spec := "schedMakes", unfollowed := true, recurses := true, apart := false }
def SchedMakesSaid : Prop := schedMakesRow.holds Try.pinned (OpenSpec.ofChange schedMakesSpec)

/-- ITS FALSE NEIGHBOUR: 'it returns false'. Refute it at one input. -/
def schedMakesWrong : ChangeSpec := { name := "schedMakes", fn := fun _ => fun
  | [d1, d2, d3] => { results := [.lit (.bool false)], args := [d1, d2, d3] }
  | _ => none }
def SchedMakesWrongFalsely : Prop := schedMakesRow.holds Try.pinned (OpenSpec.ofChange schedMakesWrong)

/-- 'downpourlaw20.SchedSteps': WHATEVER THE INPUT: true; the input reads as it did. -/
def schedStepsSpec : ChangeSpec := { name := "schedSteps", fn := fun _ => fun
  | [d1, d2] => { results := [.lit (.bool true)], args := [d1, d2] }
  | _ => none }
def schedStepsRow : OpenClaim := { program := "ytcamoigcfiemhaa", sum := "5b5e52e9a32a6bdc9374c139298ec371e789eeac150d918a10aaad0c00b6dd83", func := "downpour/downpourlaw20.SchedSteps", spec := "schedSteps", unfollowed := true, recurses := true, apart := false }
def SchedStepsSaid : Prop := schedStepsRow.holds Try.pinned (OpenSpec.ofChange schedStepsSpec)

/-- ITS FALSE NEIGHBOUR: 'it returns false'. Refute it at one input. -/
def schedStepsWrong : ChangeSpec := { name := "schedSteps", fn := fun _ => fun
  | [d1, d2] => { results := [.lit (.bool false)], args := [d1, d2] }
  | _ => none }
def SchedStepsWrongFalsely : Prop := schedStepsRow.holds Try.pinned (OpenSpec.ofChange schedStepsWrong)

/-- 'downpourlaw20.SchedRuns': WHATEVER THE INPUT: true; the input reads as it did. -/
def schedRunsSpec : ChangeSpec := { name := "schedRuns", fn := fun _ => fun
  | [d1, d2] => { results := [.lit (.bool true)], args := [d1, d2] }
  | _ => none }
def schedRunsRow : OpenClaim := { program := "ytcamoigcfiemhaa", sum := "5b5e52e9a32a6bdc9374c139298ec371e789eeac150d918a10aaad0c00b6dd83", func := "downpour/downpourlaw20.SchedRuns", spec := "schedRuns", unfollowed := true, recurses := true, apart := false }
def SchedRunsSaid : Prop := schedRunsRow.holds Try.pinned (OpenSpec.ofChange schedRunsSpec)

/-- ITS FALSE NEIGHBOUR: 'it returns false'. Refute it at one input. -/
def schedRunsWrong : ChangeSpec := { name := "schedRuns", fn := fun _ => fun
  | [d1, d2] => { results := [.lit (.bool false)], args := [d1, d2] }
  | _ => none }
def SchedRunsWrongFalsely : Prop := schedRunsRow.holds Try.pinned (OpenSpec.ofChange schedRunsWrong)

/-- 'downpourlaw20.SchedRises': WHATEVER THE INPUT: true; the input reads as it did. -/
def schedRisesSpec : ChangeSpec := { name := "schedRises", fn := fun _ => fun
  | [d1, d2, d3] => { results := [.lit (.bool true)], args := [d1, d2, d3] }
  | _ => none }
def schedRisesRow : OpenClaim := { program := "ytcamoigcfiemhaa", sum := "5b5e52e9a32a6bdc9374c139298ec371e789eeac150d918a10aaad0c00b6dd83", func := "downpour/downpourlaw20.SchedRises", spec := "schedRises", unfollowed := true, recurses := true, apart := false }
def SchedRisesSaid : Prop := schedRisesRow.holds Try.pinned (OpenSpec.ofChange schedRisesSpec)

/-- ITS FALSE NEIGHBOUR: 'it returns false'. Refute it at one input. -/
def schedRisesWrong : ChangeSpec := { name := "schedRises", fn := fun _ => fun
  | [d1, d2, d3] => { results := [.lit (.bool false)], args := [d1, d2, d3] }
  | _ => none }
def SchedRisesWrongFalsely : Prop := schedRisesRow.holds Try.pinned (OpenSpec.ofChange schedRisesWrong)

/-- 'downpourlaw20.SchedParts': WHATEVER THE INPUT: true; the input reads as it did. -/
def schedPartsSpec : ChangeSpec := { name := "schedParts", fn := fun _ => fun
  | [d1, d2, d3] => { results := [.lit (.bool true)], args := [d1, d2, d3] }
  | _ => none }
def schedPartsRow : OpenClaim := { program := "ytcamoigcfiemhaa", sum := "5b5e52e9a32a6bdc9374c139298ec371e789eeac150d918a10aaad0c00b6dd83", func := "downpour/downpourlaw20.SchedParts", spec := "schedParts", unfollowed := true, recurses := true, apart := false }
def SchedPartsSaid : Prop := schedPartsRow.holds Try.pinned (OpenSpec.ofChange schedPartsSpec)

/-- ITS FALSE NEIGHBOUR: 'it returns false'. Refute it at one input. -/
def schedPartsWrong : ChangeSpec := { name := "schedParts", fn := fun _ => fun
  | [d1, d2, d3] => { results := [.lit (.bool false)], args := [d1, d2, d3] }
  | _ => none }
def SchedPartsWrongFalsely : Prop := schedPartsRow.holds Try.pinned (OpenSpec.ofChange schedPartsWrong)

/- THE SECOND FORM. 'bulk': how many values and letters a reading holds, each counted each time it is reached (what is shared counts as often as it is met; a slice's spare places count too). A statement '..UptoSaid' is the law's where the arguments, and the package variables that the reading takes, are together of bulk at most 1048576: NARROWER than '..Said'. Prove '..Said' where nothing that the law and all that it calls make is longer than what came in: it says more and counts as full. Else prove '..UptoSaid'. A law counts once. -/
mutual
def uptoBulk {H : Type} : DataW H → Nat
  | .lit (.string bytes) => bytes.length + 1
  | .lit _ => 1
  | .nil => 1
  | .ptr d => uptoBulk d + 1
  | .slice elems spare => uptoBulkAll elems + uptoBulkAll spare + 1
  | .agg parts => uptoBulkAll parts + 1
  | .iface _ d => uptoBulk d + 1
  | .map entries => uptoBulkEntries entries + 1
  | .held _ => 1
def uptoBulkAll {H : Type} : List (DataW H) → Nat
  | [] => 0
  | d :: r => uptoBulk d + uptoBulkAll r
def uptoBulkEntries {H : Type} : List (Lit × DataW H) → Nat
  | [] => 0
  | x :: r => uptoBulkEntry x + uptoBulkEntries r
def uptoBulkEntry {H : Type} : Lit × DataW H → Nat
  | (.string bytes, d) => bytes.length + uptoBulk d + 1
  | (_, d) => uptoBulk d + 1
 end
def uptoSmall : (H : Type) → List (DataW H) → Bool := fun _ ds => decide (uptoBulkAll ds ≤ 1048576)
def OpenSpec.upto (s : _root_.Go.ChangeSpec) : _root_.Go.OpenSpec := { _root_.Go.OpenSpec.ofChange s with cond := some uptoSmall }

/-- 'downpourlaw20.SchedMakes', WHERE WHAT IT READS IS OF BULK AT MOST 1048576: true; the input reads as it did. -/
def schedMakesUptoRow : OpenClaim := { program := "ytcamoigcfiemhaa", sum := "5b5e52e9a32a6bdc9374c139298ec371e789eeac150d918a10aaad0c00b6dd83", func := "downpour/downpourlaw20.SchedMakes", spec := "schedMakes", unfollowed := true, recurses := true, apart := false, narrowed := true }
def SchedMakesUptoSaid : Prop := schedMakesUptoRow.holds Try.pinned (OpenSpec.upto schedMakesSpec)

/-- 'downpourlaw20.SchedSteps', WHERE WHAT IT READS IS OF BULK AT MOST 1048576: true; the input reads as it did. -/
def schedStepsUptoRow : OpenClaim := { program := "ytcamoigcfiemhaa", sum := "5b5e52e9a32a6bdc9374c139298ec371e789eeac150d918a10aaad0c00b6dd83", func := "downpour/downpourlaw20.SchedSteps", spec := "schedSteps", unfollowed := true, recurses := true, apart := false, narrowed := true }
def SchedStepsUptoSaid : Prop := schedStepsUptoRow.holds Try.pinned (OpenSpec.upto schedStepsSpec)

/-- 'downpourlaw20.SchedRuns', WHERE WHAT IT READS IS OF BULK AT MOST 1048576: true; the input reads as it did. -/
def schedRunsUptoRow : OpenClaim := { program := "ytcamoigcfiemhaa", sum := "5b5e52e9a32a6bdc9374c139298ec371e789eeac150d918a10aaad0c00b6dd83", func := "downpour/downpourlaw20.SchedRuns", spec := "schedRuns", unfollowed := true, recurses := true, apart := false, narrowed := true }
def SchedRunsUptoSaid : Prop := schedRunsUptoRow.holds Try.pinned (OpenSpec.upto schedRunsSpec)

/-- 'downpourlaw20.SchedRises', WHERE WHAT IT READS IS OF BULK AT MOST 1048576: true; the input reads as it did. -/
def schedRisesUptoRow : OpenClaim := { program := "ytcamoigcfiemhaa", sum := "5b5e52e9a32a6bdc9374c139298ec371e789eeac150d918a10aaad0c00b6dd83", func := "downpour/downpourlaw20.SchedRises", spec := "schedRises", unfollowed := true, recurses := true, apart := false, narrowed := true }
def SchedRisesUptoSaid : Prop := schedRisesUptoRow.holds Try.pinned (OpenSpec.upto schedRisesSpec)

/-- 'downpourlaw20.SchedParts', WHERE WHAT IT READS IS OF BULK AT MOST 1048576: true; the input reads as it did. -/
def schedPartsUptoRow : OpenClaim := { program := "ytcamoigcfiemhaa", sum := "5b5e52e9a32a6bdc9374c139298ec371e789eeac150d918a10aaad0c00b6dd83", func := "downpour/downpourlaw20.SchedParts", spec := "schedParts", unfollowed := true, recurses := true, apart := false, narrowed := true }
def SchedPartsUptoSaid : Prop := schedPartsUptoRow.holds Try.pinned (OpenSpec.upto schedPartsSpec)

end Rows
end Go.Proofs.Ytcamoigcfiemhaa
