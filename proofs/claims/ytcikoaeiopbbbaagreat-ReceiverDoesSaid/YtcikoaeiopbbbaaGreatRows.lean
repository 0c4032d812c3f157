/-
  No cell of these rows narrows 'for every input' (looked for: loops, veiled, ifaces, maps, wideKeys, modest, calm, conditions, laid).
  DERIVED. THE GIVEN ROWS OF THIS SEAT. 5 by the template 'for every input the law returns true; each argument reads behind the call as it read before'; 0 by the template 'total and deterministic' (their statements: YtcikoaeiopbbbaaGreatTotals.lean).
  GIVEN WITH THE SEED: the statements are not yours to turn. If you find one false, say at which input.
  Laid BY PROGRAM, IN A SANDBOX (cutbox-rows.mjs): the forced cells as the released guide's own fill.sh prints them over the translation a89caa812c52a6ed… (all of the seat's roots in one cut). By AI agents, Wed Nov 11 2026. No macro, syntax, notation, axiom, sorry.
-/
import Derived.Test.YtcikoaeiopbbbaaGreatChecked
import GoSem.Claim
import GoSem.ClaimJoined
import GoSem.ClaimMapViews
import Derived.JoinedTies
import Derived.KernelRfl
namespace Go.Proofs.YtcikoaeiopbbbaaGreat
/- THE CELL 'sum', in the pinned program and in every row, IS THE sha256 OF THE DUMP (.gsa) THAT YtcikoaeiopbbbaaGreatProg.lean LOADS. Nothing in Lean hashes anything: it is a label: what it is worth is what the hold of that sum in a sandbox is worth. -/
noncomputable def Tryz.pinned : Pinned := { name := "ytcikoaeiopbbbaagreat", sum := "a89caa812c52a6eddee7f7d27a0b3a7f1b19ec7a99b1538d270ad15d213fd973", checked := Tryz.checked }
namespace Rows
def none {H : Type} : Left H := { results := [], args := [] }

/-- 'downpourlaw18.ObjectDoes': WHATEVER THE INPUT: true; the input reads as it did. -/
def objectDoesSpec : ChangeSpec := { name := "objectDoes", fn := fun _ => fun
  | [d1, d2] => { results := [.lit (.bool true)], args := [d1, d2] }
  | _ => none }
def objectDoesRow : OpenClaim := { program := "ytcikoaeiopbbbaagreat", sum := "a89caa812c52a6eddee7f7d27a0b3a7f1b19ec7a99b1538d270ad15d213fd973", func := "downpour/downpourlaw18.ObjectDoes", spec := "objectDoes", unfollowed := true, recurses := true, apart := false }
def ObjectDoesSaid : Prop := objectDoesRow.holds Tryz.pinned (OpenSpec.ofChange objectDoesSpec)

/-- ITS FALSE NEIGHBOUR: 'it returns false'. Refute it at one input. -/
def objectDoesWrong : ChangeSpec := { name := "objectDoes", fn := fun _ => fun
  | [d1, d2] => { results := [.lit (.bool false)], args := [d1, d2] }
  | _ => none }
def ObjectDoesWrongFalsely : Prop := objectDoesRow.holds Tryz.pinned (OpenSpec.ofChange objectDoesWrong)

/-- 'downpourlaw19.ReceiverDoes': WHATEVER THE INPUT: true; the input reads as it did. -/
def receiverDoesSpec : ChangeSpec := { name := "receiverDoes", fn := fun _ => fun
  | [d1, d2, d3] => { results := [.lit (.bool true)], args := [d1, d2, d3] }
  | _ => none }
def receiverDoesRow : OpenClaim := { program := "ytcikoaeiopbbbaagreat", sum := "a89caa812c52a6eddee7f7d27a0b3a7f1b19ec7a99b1538d270ad15d213fd973", func := "downpour/downpourlaw19.ReceiverDoes", spec := "receiverDoes", inPlace := ["slices.overlaps[downpour/api.Object]"], unfollowed := true, recurses := true, apart := false }
def ReceiverDoesSaid : Prop := receiverDoesRow.holds Tryz.pinned (OpenSpec.ofChange receiverDoesSpec)

/-- ITS FALSE NEIGHBOUR: 'it returns false'. Refute it at one input. -/
def receiverDoesWrong : ChangeSpec := { name := "receiverDoes", fn := fun _ => fun
  | [d1, d2, d3] => { results := [.lit (.bool false)], args := [d1, d2, d3] }
  | _ => none }
def ReceiverDoesWrongFalsely : Prop := receiverDoesRow.holds Tryz.pinned (OpenSpec.ofChange receiverDoesWrong)

/-- 'downpourlaw19.ReceiverTakes': WHATEVER THE INPUT: true; the input reads as it did. -/
def receiverTakesSpec : ChangeSpec := { name := "receiverTakes", fn := fun _ => fun
  | [d1, d2] => { results := [.lit (.bool true)], args := [d1, d2] }
  | _ => none }
def receiverTakesRow : OpenClaim := { program := "ytcikoaeiopbbbaagreat", sum := "a89caa812c52a6eddee7f7d27a0b3a7f1b19ec7a99b1538d270ad15d213fd973", func := "downpour/downpourlaw19.ReceiverTakes", spec := "receiverTakes", inPlace := ["slices.overlaps[downpour/api.Object]"], unfollowed := true, recurses := true, apart := false }
def ReceiverTakesSaid : Prop := receiverTakesRow.holds Tryz.pinned (OpenSpec.ofChange receiverTakesSpec)

/-- ITS FALSE NEIGHBOUR: 'it returns false'. Refute it at one input. -/
def receiverTakesWrong : ChangeSpec := { name := "receiverTakes", fn := fun _ => fun
  | [d1, d2] => { results := [.lit (.bool false)], args := [d1, d2] }
  | _ => none }
def ReceiverTakesWrongFalsely : Prop := receiverTakesRow.holds Tryz.pinned (OpenSpec.ofChange receiverTakesWrong)

/-- 'downpourlaw19.ReceiverApart': WHATEVER THE INPUT: true; the input reads as it did. -/
def receiverApartSpec : ChangeSpec := { name := "receiverApart", fn := fun _ => fun
  | [d1, d2, d3] => { results := [.lit (.bool true)], args := [d1, d2, d3] }
  | _ => none }
def receiverApartRow : OpenClaim := { program := "ytcikoaeiopbbbaagreat", sum := "a89caa812c52a6eddee7f7d27a0b3a7f1b19ec7a99b1538d270ad15d213fd973", func := "downpour/downpourlaw19.ReceiverApart", spec := "receiverApart", inPlace := ["slices.overlaps[downpour/api.Object]"], unfollowed := true, recurses := true, apart := false }
def ReceiverApartSaid : Prop := receiverApartRow.holds Tryz.pinned (OpenSpec.ofChange receiverApartSpec)

/-- ITS FALSE NEIGHBOUR: 'it returns false'. Refute it at one input. -/
def receiverApartWrong : ChangeSpec := { name := "receiverApart", fn := fun _ => fun
  | [d1, d2, d3] => { results := [.lit (.bool false)], args := [d1, d2, d3] }
  | _ => none }
def ReceiverApartWrongFalsely : Prop := receiverApartRow.holds Tryz.pinned (OpenSpec.ofChange receiverApartWrong)

/-- 'downpourlaw19.ReceiverCloses': WHATEVER THE INPUT: true; the input reads as it did. -/
def receiverClosesSpec : ChangeSpec := { name := "receiverCloses", fn := fun _ => fun
  | [d1, d2] => { results := [.lit (.bool true)], args := [d1, d2] }
  | _ => none }
def receiverClosesRow : OpenClaim := { program := "ytcikoaeiopbbbaagreat", sum := "a89caa812c52a6eddee7f7d27a0b3a7f1b19ec7a99b1538d270ad15d213fd973", func := "downpour/downpourlaw19.ReceiverCloses", spec := "receiverCloses", inPlace := ["slices.overlaps[downpour/api.Object]"], unfollowed := true, recurses := true, apart := false }
def ReceiverClosesSaid : Prop := receiverClosesRow.holds Tryz.pinned (OpenSpec.ofChange receiverClosesSpec)

/-- ITS FALSE NEIGHBOUR: 'it returns false'. Refute it at one input. -/
def receiverClosesWrong : ChangeSpec := { name := "receiverCloses", fn := fun _ => fun
  | [d1, d2] => { results := [.lit (.bool false)], args := [d1, d2] }
  | _ => none }
def ReceiverClosesWrongFalsely : Prop := receiverClosesRow.holds Tryz.pinned (OpenSpec.ofChange receiverClosesWrong)

/- THE SECOND FORM. 'bulk': how many values and letters a reading holds, each counted each time it is reached (what is shared counts as often as it is met; a slice's spare places count too). A statement '..UptoSaid' is the law's where the arguments, and the package variables that the reading takes, are together of bulk at most 1048576: NARROWER than '..Said'. Prove '..Said' where nothing that the law and all that it calls make is longer than what came in: it says more and counts as full. Else prove '..UptoSaid'. A law counts once. -/
mutual
def uptoBulk {H : Type} : DataW H → Nat
  | .lit (.string bytes) => bytes.length + 1
  | .lit _ => 1
  | .nil => 1
  | .ptr d => uptoBulk d + 1
  | .slice elems spare => uptoBulkAll elems + uptoBulkAll spare + 1
  | .agg parts => uptoBulkAll parts + 1
  | .iface _ d => uptoBulk d + 1
  | .map entries => uptoBulkEntries entries + 1
  | .held _ => 1
def uptoBulkAll {H : Type} : List (DataW H) → Nat
  | [] => 0
  | d :: r => uptoBulk d + uptoBulkAll r
def uptoBulkEntries {H : Type} : List (Lit × DataW H) → Nat
  | [] => 0
  | x :: r => uptoBulkEntry x + uptoBulkEntries r
def uptoBulkEntry {H : Type} : Lit × DataW H → Nat
  | (.string bytes, d) => bytes.length + uptoBulk d + 1
  | (_, d) => uptoBulk d + 1
 end
def uptoSmall : (H : Type) → List (DataW H) → Bool := fun _ ds => decide (uptoBulkAll ds ≤ 1048576)
def OpenSpec.upto (s : _root_.Go.ChangeSpec) : _root_.Go.OpenSpec := { _root_.Go.OpenSpec.ofChange s with cond := some uptoSmall }

/-- 'downpourlaw18.ObjectDoes', WHERE WHAT IT READS IS OF BULK AT MOST 1048576: true; the input reads as it did. -/
def objectDoesUptoRow : OpenClaim := { program := "ytcikoaeiopbbbaagreat", sum := "a89caa812c52a6eddee7f7d27a0b3a7f1b19ec7a99b1538d270ad15d213fd973", func := "downpour/downpourlaw18.ObjectDoes", spec := "objectDoes", unfollowed := true, recurses := true, apart := false, narrowed := true }
def ObjectDoesUptoSaid : Prop := objectDoesUptoRow.holds Tryz.pinned (OpenSpec.upto objectDoesSpec)

/-- 'downpourlaw19.ReceiverDoes', WHERE WHAT IT READS IS OF BULK AT MOST 1048576: true; the input reads as it did. -/
def receiverDoesUptoRow : OpenClaim := { program := "ytcikoaeiopbbbaagreat", sum := "a89caa812c52a6eddee7f7d27a0b3a7f1b19ec7a99b1538d270ad15d213fd973", func := "downpour/downpourlaw19.ReceiverDoes", spec := "receiverDoes", inPlace := ["slices.overlaps[downpour/api.Object]"], unfollowed := true, recurses := true, apart := false, narrowed := true }
def ReceiverDoesUptoSaid : Prop := receiverDoesUptoRow.holds Tryz.pinned (OpenSpec.upto receiverDoesSpec)

/-- 'downpourlaw19.ReceiverTakes', WHERE WHAT IT READS IS OF BULK AT MOST 1048576: true; the input reads as it did. -/
def receiverTakesUptoRow : OpenClaim := { program := "ytcikoaeiopbbbaagreat", sum := "a89caa812c52a6eddee7f7d27a0b3a7f1b19ec7a99b1538d270ad15d213fd973", func := "downpour/downpourlaw19.ReceiverTakes", spec := "receiverTakes", inPlace := ["slices.overlaps[downpour/api.Object]"], unfollowed := true, recurses := true, apart := false, narrowed := true }
def ReceiverTakesUptoSaid : Prop := receiverTakesUptoRow.holds Tryz.pinned (OpenSpec.upto receiverTakesSpec)

/-- 'downpourlaw19.ReceiverApart', WHERE WHAT IT READS IS OF BULK AT MOST 1048576: true; the input reads as it did. -/
def receiverApartUptoRow : OpenClaim := { program := "ytcikoaeiopbbbaagreat", sum := "a89caa812c52a6eddee7f7d27a0b3a7f1b19ec7a99b1538d270ad15d213fd973", func := "downpour/downpourlaw19.ReceiverApart", spec := "receiverApart", inPlace := ["slices.overlaps[downpour/api.Object]"], unfollowed := true, recurses := true, apart := false, narrowed := true }
def ReceiverApartUptoSaid : Prop := receiverApartUptoRow.holds Tryz.pinned (OpenSpec.upto receiverApartSpec)

/-- 'downpourlaw19.ReceiverCloses', WHERE WHAT IT READS IS OF BULK AT MOST 1048576: true; the input reads as it did. -/
def receiverClosesUptoRow : OpenClaim := { program := "ytcikoaeiopbbbaagreat", sum := "a89caa812c52a6eddee7f7d27a0b3a7f1b19ec7a99b1538d270ad15d213fd973", func := "downpour/downpourlaw19.ReceiverCloses", spec := "receiverCloses", inPlace := ["slices.overlaps[downpour/api.Object]"], unfollowed := true, recurses := true, apart := false, narrowed := true }
def ReceiverClosesUptoSaid : Prop := receiverClosesUptoRow.holds Tryz.pinned (OpenSpec.upto receiverClosesSpec)

end Rows
end Go.Proofs.YtcikoaeiopbbbaaGreat
