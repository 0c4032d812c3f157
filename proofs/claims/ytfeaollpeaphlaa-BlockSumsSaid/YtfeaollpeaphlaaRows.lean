/-
  No cell of these rows narrows 'for every input' (looked for: loops, veiled, ifaces, maps, wideKeys, modest, calm, conditions, laid).
  DERIVED. THE GIVEN ROWS OF THIS SEAT. 5 by the template 'for every input the law returns true; each argument reads behind the call as it read before'; 0 by the template 'total and deterministic' (their statements: YtfeaollpeaphlaaTotals.lean).
  GIVEN WITH THE SEED: the statements are not yours to turn. If you find one false, say at which input.
  Laid BY PROGRAM, IN A SANDBOX (cutbox-rows.mjs): the forced cells as the released guide's own fill.sh prints them over the translation 4d10827556e04cce… (all of the seat's roots in one cut). By AI agents, Wed Nov 11 2026. No macro, syntax, notation, axiom, sorry.
-/
import Derived.Test.YtfeaollpeaphlaaChecked
import GoSem.Claim
import GoSem.ClaimJoined
import GoSem.ClaimMapViews
import Derived.JoinedTies
import Derived.KernelRfl
namespace Go.Proofs.Ytfeaollpeaphlaa
/- THE CELL 'sum', in the pinned program and in every row, IS THE sha256 OF THE DUMP (.gsa) THAT YtfeaollpeaphlaaProg.lean LOADS. Nothing in Lean hashes anything: it is a label: what it is worth is what the hold of that sum in a sandbox is worth. -/
noncomputable def Try.pinned : Pinned := { name := "ytfeaollpeaphlaa", sum := "4d10827556e04cce4a8f1a0752ad94eb27bb052e69492275d846466ec3894230", checked := Try.checked }
namespace Rows
def none {H : Type} : Left H := { results := [], args := [] }

/-- 'downpourlaw01.BitrowMakes': WHATEVER THE INPUT: true; the input reads as it did. -/
def bitrowMakesSpec : ChangeSpec := { name := "bitrowMakes", fn := fun _ => fun
  | [d1, d2, d3, d4] => { results := [.lit (.bool true)], args := [d1, d2, d3, d4] }
  | _ => none }
def bitrowMakesRow : OpenClaim := { program := "ytfeaollpeaphlaa", sum := "4d10827556e04cce4a8f1a0752ad94eb27bb052e69492275d846466ec3894230", func := "downpour/downpourlaw01.BitrowMakes", spec := "bitrowMakes", apart := false }
def BitrowMakesSaid : Prop := bitrowMakesRow.holds Try.pinned (OpenSpec.ofChange bitrowMakesSpec)

/-- ITS FALSE NEIGHBOUR: 'it returns false'. Refute it at one input. -/
def bitrowMakesWrong : ChangeSpec := { name := "bitrowMakes", fn := fun _ => fun
  | [d1, d2, d3, d4] => { results := [.lit (.bool false)], args := [d1, d2, d3, d4] }
  | _ => none }
def BitrowMakesWrongFalsely : Prop := bitrowMakesRow.holds Try.pinned (OpenSpec.ofChange bitrowMakesWrong)

/-- 'downpourlaw01.BitrowJoins': WHATEVER THE INPUT: true; the input reads as it did. -/
def bitrowJoinsSpec : ChangeSpec := { name := "bitrowJoins", fn := fun _ => fun
  | [d1, d2] => { results := [.lit (.bool true)], args := [d1, d2] }
  | _ => none }
def bitrowJoinsRow : OpenClaim := { program := "ytfeaollpeaphlaa", sum := "4d10827556e04cce4a8f1a0752ad94eb27bb052e69492275d846466ec3894230", func := "downpour/downpourlaw01.BitrowJoins", spec := "bitrowJoins", unfollowed := true, recurses := true, apart := false }
def BitrowJoinsSaid : Prop := bitrowJoinsRow.holds Try.pinned (OpenSpec.ofChange bitrowJoinsSpec)

/-- ITS FALSE NEIGHBOUR: 'it returns false'. Refute it at one input. -/
def bitrowJoinsWrong : ChangeSpec := { name := "bitrowJoins", fn := fun _ => fun
  | [d1, d2] => { results := [.lit (.bool false)], args := [d1, d2] }
  | _ => none }
def BitrowJoinsWrongFalsely : Prop := bitrowJoinsRow.holds Try.pinned (OpenSpec.ofChange bitrowJoinsWrong)

/-- 'downpourlaw01.BitrowOrder': WHATEVER THE INPUT: true; the input reads as it did. -/
def bitrowOrderSpec : ChangeSpec := { name := "bitrowOrder", fn := fun _ => fun
  | [d1, d2, d3] => { results := [.lit (.bool true)], args := [d1, d2, d3] }
  | _ => none }
def bitrowOrderRow : OpenClaim := { program := "ytfeaollpeaphlaa", sum := "4d10827556e04cce4a8f1a0752ad94eb27bb052e69492275d846466ec3894230", func := "downpour/downpourlaw01.BitrowOrder", spec := "bitrowOrder", unfollowed := true, recurses := true, apart := false }
def BitrowOrderSaid : Prop := bitrowOrderRow.holds Try.pinned (OpenSpec.ofChange bitrowOrderSpec)

/-- ITS FALSE NEIGHBOUR: 'it returns false'. Refute it at one input. -/
def bitrowOrderWrong : ChangeSpec := { name := "bitrowOrder", fn := fun _ => fun
  | [d1, d2, d3] => { results := [.lit (.bool false)], args := [d1, d2, d3] }
  | _ => none }
def BitrowOrderWrongFalsely : Prop := bitrowOrderRow.holds Try.pinned (OpenSpec.ofChange bitrowOrderWrong)

/-- 'downpourlaw02.BlockSums': WHATEVER THE INPUT: true; the input reads as it did. -/
def blockSumsSpec : ChangeSpec := { name := "blockSums", fn := fun _ => fun
  | [d1, d2, d3, d4] => { results := [.lit (.bool true)], args := [d1, d2, d3, d4] }
  | _ => none }
def blockSumsRow : OpenClaim := { program := "ytfeaollpeaphlaa", sum := "4d10827556e04cce4a8f1a0752ad94eb27bb052e69492275d846466ec3894230", func := "downpour/downpourlaw02.BlockSums", spec := "blockSums", apart := false }
def BlockSumsSaid : Prop := blockSumsRow.holds Try.pinned (OpenSpec.ofChange blockSumsSpec)

/-- ITS FALSE NEIGHBOUR: 'it returns false'. Refute it at one input. -/
def blockSumsWrong : ChangeSpec := { name := "blockSums", fn := fun _ => fun
  | [d1, d2, d3, d4] => { results := [.lit (.bool false)], args := [d1, d2, d3, d4] }
  | _ => none }
def BlockSumsWrongFalsely : Prop := blockSumsRow.holds Try.pinned (OpenSpec.ofChange blockSumsWrong)

/-- 'downpourlaw02.BlockZero': WHATEVER THE INPUT: true; the input reads as it did. -/
def blockZeroSpec : ChangeSpec := { name := "blockZero", fn := fun _ => fun
  | [d] => { results := [.lit (.bool true)], args := [d] }
  | _ => none }
def blockZeroRow : OpenClaim := { program := "ytfeaollpeaphlaa", sum := "4d10827556e04cce4a8f1a0752ad94eb27bb052e69492275d846466ec3894230", func := "downpour/downpourlaw02.BlockZero", spec := "blockZero", apart := false }
def BlockZeroSaid : Prop := blockZeroRow.holds Try.pinned (OpenSpec.ofChange blockZeroSpec)

/-- ITS FALSE NEIGHBOUR: 'it returns false'. Refute it at one input. -/
def blockZeroWrong : ChangeSpec := { name := "blockZero", fn := fun _ => fun
  | [d] => { results := [.lit (.bool false)], args := [d] }
  | _ => none }
def BlockZeroWrongFalsely : Prop := blockZeroRow.holds Try.pinned (OpenSpec.ofChange blockZeroWrong)

/- THE SECOND FORM. 'bulk': how many values and letters a reading holds, each counted each time it is reached (what is shared counts as often as it is met; a slice's spare places count too). A statement '..UptoSaid' is the law's where the arguments, and the package variables that the reading takes, are together of bulk at most 1048576: NARROWER than '..Said'. Prove '..Said' where nothing that the law and all that it calls make is longer than what came in: it says more and counts as full. Else prove '..UptoSaid'. A law counts once. -/
mutual
def uptoBulk {H : Type} : DataW H → Nat
  | .lit (.string bytes) => bytes.length + 1
  | .lit _ => 1
  | .nil => 1
  | .ptr d => uptoBulk d + 1
  | .slice elems spare => uptoBulkAll elems + uptoBulkAll spare + 1
  | .agg parts => uptoBulkAll parts + 1
  | .iface _ d => uptoBulk d + 1
  | .map entries => uptoBulkEntries entries + 1
  | .held _ => 1
def uptoBulkAll {H : Type} : List (DataW H) → Nat
  | [] => 0
  | d :: r => uptoBulk d + uptoBulkAll r
def uptoBulkEntries {H : Type} : List (Lit × DataW H) → Nat
  | [] => 0
  | x :: r => uptoBulkEntry x + uptoBulkEntries r
def uptoBulkEntry {H : Type} : Lit × DataW H → Nat
  | (.string bytes, d) => bytes.length + uptoBulk d + 1
  | (_, d) => uptoBulk d + 1
 end
def uptoSmall : (H : Type) → List (DataW H) → Bool := fun _ ds => decide (uptoBulkAll ds ≤ 1048576)
def OpenSpec.upto (s : _root_.Go.ChangeSpec) : _root_.Go.OpenSpec := { _root_.Go.OpenSpec.ofChange s with cond := some uptoSmall }

/-- 'downpourlaw01.BitrowMakes', WHERE WHAT IT READS IS OF BULK AT MOST 1048576: true; the input reads as it did. -/
def bitrowMakesUptoRow : OpenClaim := { program := "ytfeaollpeaphlaa", sum := "4d10827556e04cce4a8f1a0752ad94eb27bb052e69492275d846466ec3894230", func := "downpour/downpourlaw01.BitrowMakes", spec := "bitrowMakes", apart := false, narrowed := true }
def BitrowMakesUptoSaid : Prop := bitrowMakesUptoRow.holds Try.pinned (OpenSpec.upto bitrowMakesSpec)

/-- 'downpourlaw01.BitrowJoins', WHERE WHAT IT READS IS OF BULK AT MOST 1048576: true; the input reads as it did. -/
def bitrowJoinsUptoRow : OpenClaim := { program := "ytfeaollpeaphlaa", sum := "4d10827556e04cce4a8f1a0752ad94eb27bb052e69492275d846466ec3894230", func := "downpour/downpourlaw01.BitrowJoins", spec := "bitrowJoins", unfollowed := true, recurses := true, apart := false, narrowed := true }
def BitrowJoinsUptoSaid : Prop := bitrowJoinsUptoRow.holds Try.pinned (OpenSpec.upto bitrowJoinsSpec)

/-- 'downpourlaw01.BitrowOrder', WHERE WHAT IT READS IS OF BULK AT MOST 1048576: true; the input reads as it did. -/
def bitrowOrderUptoRow : OpenClaim := { program := "ytfeaollpeaphlaa", sum := "4d10827556e04cce4a8f1a0752ad94eb27bb052e69492275d846466ec3894230", func := "downpour/downpourlaw01.BitrowOrder", spec := "bitrowOrder", unfollowed := true, recurses := true, apart := false, narrowed := true }
def BitrowOrderUptoSaid : Prop := bitrowOrderUptoRow.holds Try.pinned (OpenSpec.upto bitrowOrderSpec)

/-- 'downpourlaw02.BlockSums', WHERE WHAT IT READS IS OF BULK AT MOST 1048576: true; the input reads as it did. -/
def blockSumsUptoRow : OpenClaim := { program := "ytfeaollpeaphlaa", sum := "4d10827556e04cce4a8f1a0752ad94eb27bb052e69492275d846466ec3894230", func := "downpour/downpourlaw02.BlockSums", spec := "blockSums", apart := false, narrowed := true }
def BlockSumsUptoSaid : Prop := blockSumsUptoRow.holds Try.pinned (OpenSpec.upto blockSumsSpec)

/-- 'downpourlaw02.BlockZero', WHERE WHAT IT READS IS OF BULK AT MOST 1048576: true; the input reads as it did. -/
def blockZeroUptoRow : OpenClaim := { program := "ytfeaollpeaphlaa", sum := "4d10827556e04cce4a8f1a0752ad94eb27bb052e69492275d846466ec3894230", func := "downpour/downpourlaw02.BlockZero", spec := "blockZero", apart := false, narrowed := true }
def BlockZeroUptoSaid : Prop := blockZeroUptoRow.holds Try.pinned (OpenSpec.upto blockZeroSpec)

end Rows
end Go.Proofs.Ytfeaollpeaphlaa
