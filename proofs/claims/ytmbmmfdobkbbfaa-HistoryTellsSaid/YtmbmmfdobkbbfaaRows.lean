/-
  No cell of these rows narrows 'for every input' (looked for: loops, veiled, ifaces, maps, wideKeys, modest, calm, conditions, laid).
  DERIVED. THE GIVEN ROWS OF THIS SEAT. 4 by the template 'for every input the law returns true; each argument reads behind the call as it read before'; 0 by the template 'total and deterministic' (their statements: YtmbmmfdobkbbfaaTotals.lean).
  GIVEN WITH THE SEED: the statements are not yours to turn. If you find one false, say at which input.
  Laid BY PROGRAM, IN A SANDBOX (cutbox-rows.mjs): the forced cells as the released guide's own fill.sh prints them over the translation 7de56066ed0b4bab… (all of the seat's roots in one cut). By AI agents, Wed Nov 11 2026. No macro, syntax, notation, axiom, sorry.
-/
import Derived.Test.YtmbmmfdobkbbfaaChecked
import GoSem.Claim
import GoSem.ClaimJoined
import GoSem.ClaimMapViews
import Derived.JoinedTies
import Derived.KernelRfl
namespace Go.Proofs.Ytmbmmfdobkbbfaa
/- THE CELL 'sum', in the pinned program and in every row, IS THE sha256 OF THE DUMP (.gsa) THAT YtmbmmfdobkbbfaaProg.lean LOADS. Nothing in Lean hashes anything: it is a label: what it is worth is what the hold of that sum in a sandbox is worth. -/
noncomputable def Try.pinned : Pinned := { name := "ytmbmmfdobkbbfaa", sum := "7de56066ed0b4bab87fb7f49121c511a531c524a9ce9d5c233cdfd01f69813b3", checked := Try.checked }
namespace Rows
def none {H : Type} : Left H := { results := [], args := [] }

/-- 'downpourlaw22.HistorySpans': WHATEVER THE INPUT: true; the input reads as it did. -/
def historySpansSpec : ChangeSpec := { name := "historySpans", fn := fun _ => fun
  | [d] => { results := [.lit (.bool true)], args := [d] }
  | _ => none }
def historySpansRow : OpenClaim := { program := "ytmbmmfdobkbbfaa", sum := "7de56066ed0b4bab87fb7f49121c511a531c524a9ce9d5c233cdfd01f69813b3", func := "downpour/downpourlaw22.HistorySpans", spec := "historySpans", unfollowed := true, recurses := true, apart := false }
def HistorySpansSaid : Prop := historySpansRow.holds Try.pinned (OpenSpec.ofChange historySpansSpec)

/-- ITS FALSE NEIGHBOUR: 'it returns false'. Refute it at one input. -/
def historySpansWrong : ChangeSpec := { name := "historySpans", fn := fun _ => fun
  | [d] => { results := [.lit (.bool false)], args := [d] }
  | _ => none }
def HistorySpansWrongFalsely : Prop := historySpansRow.holds Try.pinned (OpenSpec.ofChange historySpansWrong)

/-- 'downpourlaw22.HistoryTells': WHATEVER THE INPUT: true; the input reads as it did. -/
def historyTellsSpec : ChangeSpec := { name := "historyTells", fn := fun _ => fun
  | [d1, d2, d3] => { results := [.lit (.bool true)], args := [d1, d2, d3] }
  | _ => none }
def historyTellsRow : OpenClaim := { program := "ytmbmmfdobkbbfaa", sum := "7de56066ed0b4bab87fb7f49121c511a531c524a9ce9d5c233cdfd01f69813b3", func := "downpour/downpourlaw22.HistoryTells", spec := "historyTells", unfollowed := true, recurses := true, apart := false }
def HistoryTellsSaid : Prop := historyTellsRow.holds Try.pinned (OpenSpec.ofChange historyTellsSpec)

/-- ITS FALSE NEIGHBOUR: 'it returns false'. Refute it at one input. -/
def historyTellsWrong : ChangeSpec := { name := "historyTells", fn := fun _ => fun
  | [d1, d2, d3] => { results := [.lit (.bool false)], args := [d1, d2, d3] }
  | _ => none }
def HistoryTellsWrongFalsely : Prop := historyTellsRow.holds Try.pinned (OpenSpec.ofChange historyTellsWrong)

/-- 'downpourlaw22.HistoryOrder': WHATEVER THE INPUT: true; the input reads as it did. -/
def historyOrderSpec : ChangeSpec := { name := "historyOrder", fn := fun _ => fun
  | [d] => { results := [.lit (.bool true)], args := [d] }
  | _ => none }
def historyOrderRow : OpenClaim := { program := "ytmbmmfdobkbbfaa", sum := "7de56066ed0b4bab87fb7f49121c511a531c524a9ce9d5c233cdfd01f69813b3", func := "downpour/downpourlaw22.HistoryOrder", spec := "historyOrder", unfollowed := true, recurses := true, apart := false }
def HistoryOrderSaid : Prop := historyOrderRow.holds Try.pinned (OpenSpec.ofChange historyOrderSpec)

/-- ITS FALSE NEIGHBOUR: 'it returns false'. Refute it at one input. -/
def historyOrderWrong : ChangeSpec := { name := "historyOrder", fn := fun _ => fun
  | [d] => { results := [.lit (.bool false)], args := [d] }
  | _ => none }
def HistoryOrderWrongFalsely : Prop := historyOrderRow.holds Try.pinned (OpenSpec.ofChange historyOrderWrong)

/-- 'downpourlaw22.HistoryCut': WHATEVER THE INPUT: true; the input reads as it did. -/
def historyCutSpec : ChangeSpec := { name := "historyCut", fn := fun _ => fun
  | [d1, d2] => { results := [.lit (.bool true)], args := [d1, d2] }
  | _ => none }
def historyCutRow : OpenClaim := { program := "ytmbmmfdobkbbfaa", sum := "7de56066ed0b4bab87fb7f49121c511a531c524a9ce9d5c233cdfd01f69813b3", func := "downpour/downpourlaw22.HistoryCut", spec := "historyCut", unfollowed := true, recurses := true, apart := false }
def HistoryCutSaid : Prop := historyCutRow.holds Try.pinned (OpenSpec.ofChange historyCutSpec)

/-- ITS FALSE NEIGHBOUR: 'it returns false'. Refute it at one input. -/
def historyCutWrong : ChangeSpec := { name := "historyCut", fn := fun _ => fun
  | [d1, d2] => { results := [.lit (.bool false)], args := [d1, d2] }
  | _ => none }
def HistoryCutWrongFalsely : Prop := historyCutRow.holds Try.pinned (OpenSpec.ofChange historyCutWrong)

/- THE SECOND FORM. 'bulk': how many values and letters a reading holds, each counted each time it is reached (what is shared counts as often as it is met; a slice's spare places count too). A statement '..UptoSaid' is the law's where the arguments, and the package variables that the reading takes, are together of bulk at most 1048576: NARROWER than '..Said'. Prove '..Said' where nothing that the law and all that it calls make is longer than what came in: it says more and counts as full. Else prove '..UptoSaid'. A law counts once. -/
mutual
def uptoBulk {H : Type} : DataW H → Nat
  | .lit (.string bytes) => bytes.length + 1
  | .lit _ => 1
  | .nil => 1
  | .ptr d => uptoBulk d + 1
  | .slice elems spare => uptoBulkAll elems + uptoBulkAll spare + 1
  | .agg parts => uptoBulkAll parts + 1
  | .iface _ d => uptoBulk d + 1
  | .map entries => uptoBulkEntries entries + 1
  | .held _ => 1
def uptoBulkAll {H : Type} : List (DataW H) → Nat
  | [] => 0
  | d :: r => uptoBulk d + uptoBulkAll r
def uptoBulkEntries {H : Type} : List (Lit × DataW H) → Nat
  | [] => 0
  | x :: r => uptoBulkEntry x + uptoBulkEntries r
def uptoBulkEntry {H : Type} : Lit × DataW H → Nat
  | (.string bytes, d) => bytes.length + uptoBulk d + 1
  | (_, d) => uptoBulk d + 1
 end
def uptoSmall : (H : Type) → List (DataW H) → Bool := fun _ ds => decide (uptoBulkAll ds ≤ 1048576)
def OpenSpec.upto (s : _root_.Go.ChangeSpec) : _root_.Go.OpenSpec := { _root_.Go.OpenSpec.ofChange s with cond := some uptoSmall }

/-- 'downpourlaw22.HistorySpans', WHERE WHAT IT READS IS OF BULK AT MOST 1048576: true; the input reads as it did. -/
def historySpansUptoRow : OpenClaim := { program := "ytmbmmfdobkbbfaa", sum := "7de56066ed0b4bab87fb7f49121c511a531c524a9ce9d5c233cdfd01f69813b3", func := "downpour/downpourlaw22.HistorySpans", spec := "historySpans", unfollowed := true, recurses := true, apart := false, narrowed := true }
def HistorySpansUptoSaid : Prop := historySpansUptoRow.holds Try.pinned (OpenSpec.upto historySpansSpec)

/-- 'downpourlaw22.HistoryTells', WHERE WHAT IT READS IS OF BULK AT MOST 1048576: true; the input reads as it did. -/
def historyTellsUptoRow : OpenClaim := { program := "ytmbmmfdobkbbfaa", sum := "7de56066ed0b4bab87fb7f49121c511a531c524a9ce9d5c233cdfd01f69813b3", func := "downpour/downpourlaw22.HistoryTells", spec := "historyTells", unfollowed := true, recurses := true, apart := false, narrowed := true }
def HistoryTellsUptoSaid : Prop := historyTellsUptoRow.holds Try.pinned (OpenSpec.upto historyTellsSpec)

/-- 'downpourlaw22.HistoryOrder', WHERE WHAT IT READS IS OF BULK AT MOST 1048576: true; the input reads as it did. -/
def historyOrderUptoRow : OpenClaim := { program := "ytmbmmfdobkbbfaa", sum := "7de56066ed0b4bab87fb7f49121c511a531c524a9ce9d5c233cdfd01f69813b3", func := "downpour/downpourlaw22.HistoryOrder", spec := "historyOrder", unfollowed := true, recurses := true, apart := false, narrowed := true }
def HistoryOrderUptoSaid : Prop := historyOrderUptoRow.holds Try.pinned (OpenSpec.upto historyOrderSpec)

/-- 'downpourlaw22.HistoryCut', WHERE WHAT IT READS IS OF BULK AT MOST 1048576: true; the input reads as it did. -/
def historyCutUptoRow : OpenClaim := { program := "ytmbmmfdobkbbfaa", sum := "7de56066ed0b4bab87fb7f49121c511a531c524a9ce9d5c233cdfd01f69813b3", func := "downpour/downpourlaw22.HistoryCut", spec := "historyCut", unfollowed := true, recurses := true, apart := false, narrowed := true }
def HistoryCutUptoSaid : Prop := historyCutUptoRow.holds Try.pinned (OpenSpec.upto historyCutSpec)

end Rows
end Go.Proofs.Ytmbmmfdobkbbfaa
