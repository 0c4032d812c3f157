/-
  No cell of these rows narrows 'for every input' (looked for: loops, veiled, ifaces, maps, wideKeys, modest, calm, conditions, laid).
  DERIVED. THE GIVEN ROWS OF THIS SEAT. 8 by the template 'for every input the law returns true; each argument reads behind the call as it read before'; 0 by the template 'total and deterministic' (their statements: YtjfiaeoknmfniaaTotals.lean).
  GIVEN WITH THE SEED: the statements are not yours to turn. If you find one false, say at which input.
  Laid BY PROGRAM, IN A SANDBOX (cutbox-rows.mjs): the forced cells as the released guide's own fill.sh prints them over the translation 28e85670ea9da1c3… (all of the seat's roots in one cut). By AI agents, Wed Nov 11 2026. No macro, syntax, notation, axiom, sorry.
-/
import Derived.Test.YtjfiaeoknmfniaaChecked
import GoSem.Claim
import GoSem.ClaimJoined
import GoSem.ClaimMapViews
import Derived.JoinedTies
import Derived.KernelRfl
namespace Go.Proofs.Ytjfiaeoknmfniaa
/- THE CELL 'sum', in the pinned program and in every row, IS THE sha256 OF THE DUMP (.gsa) THAT YtjfiaeoknmfniaaProg.lean LOADS. Nothing in Lean hashes anything: it is a label: what it is worth is what the hold of that sum in a sandbox is worth. -/
noncomputable def Try.pinned : Pinned := { name := "ytjfiaeoknmfniaa", sum := "28e85670ea9da1c3962268039cbf6fc4929cbb99a81dfbf0c83e6d389453ebcd", checked := Try.checked }
namespace Rows
def none {H : Type} : Left H := { results := [], args := [] }

/-- 'downpourlaw06.RandomNumbers': WHATEVER THE INPUT: true; the input reads as it did. -/
def randomNumbersSpec : ChangeSpec := { name := "randomNumbers", fn := fun _ => fun
  | [d1, d2, d3] => { results := [.lit (.bool true)], args := [d1, d2, d3] }
  | _ => none }
def randomNumbersRow : OpenClaim := { program := "ytjfiaeoknmfniaa", sum := "28e85670ea9da1c3962268039cbf6fc4929cbb99a81dfbf0c83e6d389453ebcd", func := "downpour/downpourlaw06.RandomNumbers", spec := "randomNumbers", unfollowed := true, recurses := true, apart := false }
def RandomNumbersSaid : Prop := randomNumbersRow.holds Try.pinned (OpenSpec.ofChange randomNumbersSpec)

/-- ITS FALSE NEIGHBOUR: 'it returns false'. Refute it at one input. -/
def randomNumbersWrong : ChangeSpec := { name := "randomNumbers", fn := fun _ => fun
  | [d1, d2, d3] => { results := [.lit (.bool false)], args := [d1, d2, d3] }
  | _ => none }
def RandomNumbersWrongFalsely : Prop := randomNumbersRow.holds Try.pinned (OpenSpec.ofChange randomNumbersWrong)

/-- 'downpourlaw06.RandomOrders': WHATEVER THE INPUT: true; the input reads as it did. -/
def randomOrdersSpec : ChangeSpec := { name := "randomOrders", fn := fun _ => fun
  | [d1, d2, d3] => { results := [.lit (.bool true)], args := [d1, d2, d3] }
  | _ => none }
def randomOrdersRow : OpenClaim := { program := "ytjfiaeoknmfniaa", sum := "28e85670ea9da1c3962268039cbf6fc4929cbb99a81dfbf0c83e6d389453ebcd", func := "downpour/downpourlaw06.RandomOrders", spec := "randomOrders", unfollowed := true, recurses := true, apart := false }
def RandomOrdersSaid : Prop := randomOrdersRow.holds Try.pinned (OpenSpec.ofChange randomOrdersSpec)

/-- ITS FALSE NEIGHBOUR: 'it returns false'. Refute it at one input. -/
def randomOrdersWrong : ChangeSpec := { name := "randomOrders", fn := fun _ => fun
  | [d1, d2, d3] => { results := [.lit (.bool false)], args := [d1, d2, d3] }
  | _ => none }
def RandomOrdersWrongFalsely : Prop := randomOrdersRow.holds Try.pinned (OpenSpec.ofChange randomOrdersWrong)

/-- 'downpourlaw06.RandomOnce': WHATEVER THE INPUT: true; the input reads as it did. -/
def randomOnceSpec : ChangeSpec := { name := "randomOnce", fn := fun _ => fun
  | [d1, d2, d3] => { results := [.lit (.bool true)], args := [d1, d2, d3] }
  | _ => none }
def randomOnceRow : OpenClaim := { program := "ytjfiaeoknmfniaa", sum := "28e85670ea9da1c3962268039cbf6fc4929cbb99a81dfbf0c83e6d389453ebcd", func := "downpour/downpourlaw06.RandomOnce", spec := "randomOnce", unfollowed := true, recurses := true, apart := false }
def RandomOnceSaid : Prop := randomOnceRow.holds Try.pinned (OpenSpec.ofChange randomOnceSpec)

/-- ITS FALSE NEIGHBOUR: 'it returns false'. Refute it at one input. -/
def randomOnceWrong : ChangeSpec := { name := "randomOnce", fn := fun _ => fun
  | [d1, d2, d3] => { results := [.lit (.bool false)], args := [d1, d2, d3] }
  | _ => none }
def RandomOnceWrongFalsely : Prop := randomOnceRow.holds Try.pinned (OpenSpec.ofChange randomOnceWrong)

/-- 'downpourlaw06.RandomFew': WHATEVER THE INPUT: true; the input reads as it did. -/
def randomFewSpec : ChangeSpec := { name := "randomFew", fn := fun _ => fun
  | [d1, d2, d3] => { results := [.lit (.bool true)], args := [d1, d2, d3] }
  | _ => none }
def randomFewRow : OpenClaim := { program := "ytjfiaeoknmfniaa", sum := "28e85670ea9da1c3962268039cbf6fc4929cbb99a81dfbf0c83e6d389453ebcd", func := "downpour/downpourlaw06.RandomFew", spec := "randomFew", unfollowed := true, recurses := true, apart := false }
def RandomFewSaid : Prop := randomFewRow.holds Try.pinned (OpenSpec.ofChange randomFewSpec)

/-- ITS FALSE NEIGHBOUR: 'it returns false'. Refute it at one input. -/
def randomFewWrong : ChangeSpec := { name := "randomFew", fn := fun _ => fun
  | [d1, d2, d3] => { results := [.lit (.bool false)], args := [d1, d2, d3] }
  | _ => none }
def RandomFewWrongFalsely : Prop := randomFewRow.holds Try.pinned (OpenSpec.ofChange randomFewWrong)

/-- 'downpourlaw07.DegreeTables': WHATEVER THE INPUT: true; the input reads as it did. -/
def degreeTablesSpec : ChangeSpec := { name := "degreeTables", fn := fun _ => fun
  | [d1, d2] => { results := [.lit (.bool true)], args := [d1, d2] }
  | _ => none }
def degreeTablesRow : OpenClaim := { program := "ytjfiaeoknmfniaa", sum := "28e85670ea9da1c3962268039cbf6fc4929cbb99a81dfbf0c83e6d389453ebcd", func := "downpour/downpourlaw07.DegreeTables", spec := "degreeTables", unfollowed := true, recurses := true, apart := false }
def DegreeTablesSaid : Prop := degreeTablesRow.holds Try.pinned (OpenSpec.ofChange degreeTablesSpec)

/-- ITS FALSE NEIGHBOUR: 'it returns false'. Refute it at one input. -/
def degreeTablesWrong : ChangeSpec := { name := "degreeTables", fn := fun _ => fun
  | [d1, d2] => { results := [.lit (.bool false)], args := [d1, d2] }
  | _ => none }
def DegreeTablesWrongFalsely : Prop := degreeTablesRow.holds Try.pinned (OpenSpec.ofChange degreeTablesWrong)

/-- 'downpourlaw07.DegreePicks': WHATEVER THE INPUT: true; the input reads as it did. -/
def degreePicksSpec : ChangeSpec := { name := "degreePicks", fn := fun _ => fun
  | [d1, d2] => { results := [.lit (.bool true)], args := [d1, d2] }
  | _ => none }
def degreePicksRow : OpenClaim := { program := "ytjfiaeoknmfniaa", sum := "28e85670ea9da1c3962268039cbf6fc4929cbb99a81dfbf0c83e6d389453ebcd", func := "downpour/downpourlaw07.DegreePicks", spec := "degreePicks", unfollowed := true, recurses := true, apart := false }
def DegreePicksSaid : Prop := degreePicksRow.holds Try.pinned (OpenSpec.ofChange degreePicksSpec)

/-- ITS FALSE NEIGHBOUR: 'it returns false'. Refute it at one input. -/
def degreePicksWrong : ChangeSpec := { name := "degreePicks", fn := fun _ => fun
  | [d1, d2] => { results := [.lit (.bool false)], args := [d1, d2] }
  | _ => none }
def DegreePicksWrongFalsely : Prop := degreePicksRow.holds Try.pinned (OpenSpec.ofChange degreePicksWrong)

/-- 'downpourlaw07.DegreeSums': WHATEVER THE INPUT: true; the input reads as it did. -/
def degreeSumsSpec : ChangeSpec := { name := "degreeSums", fn := fun _ => fun
  | [d1, d2] => { results := [.lit (.bool true)], args := [d1, d2] }
  | _ => none }
def degreeSumsRow : OpenClaim := { program := "ytjfiaeoknmfniaa", sum := "28e85670ea9da1c3962268039cbf6fc4929cbb99a81dfbf0c83e6d389453ebcd", func := "downpour/downpourlaw07.DegreeSums", spec := "degreeSums", unfollowed := true, recurses := true, apart := false }
def DegreeSumsSaid : Prop := degreeSumsRow.holds Try.pinned (OpenSpec.ofChange degreeSumsSpec)

/-- ITS FALSE NEIGHBOUR: 'it returns false'. Refute it at one input. -/
def degreeSumsWrong : ChangeSpec := { name := "degreeSums", fn := fun _ => fun
  | [d1, d2] => { results := [.lit (.bool false)], args := [d1, d2] }
  | _ => none }
def DegreeSumsWrongFalsely : Prop := degreeSumsRow.holds Try.pinned (OpenSpec.ofChange degreeSumsWrong)

/-- 'downpourlaw07.DegreeRoots': WHATEVER THE INPUT: true; the input reads as it did. -/
def degreeRootsSpec : ChangeSpec := { name := "degreeRoots", fn := fun _ => fun
  | [d] => { results := [.lit (.bool true)], args := [d] }
  | _ => none }
def degreeRootsRow : OpenClaim := { program := "ytjfiaeoknmfniaa", sum := "28e85670ea9da1c3962268039cbf6fc4929cbb99a81dfbf0c83e6d389453ebcd", func := "downpour/downpourlaw07.DegreeRoots", spec := "degreeRoots", unfollowed := true, recurses := true, apart := false }
def DegreeRootsSaid : Prop := degreeRootsRow.holds Try.pinned (OpenSpec.ofChange degreeRootsSpec)

/-- ITS FALSE NEIGHBOUR: 'it returns false'. Refute it at one input. -/
def degreeRootsWrong : ChangeSpec := { name := "degreeRoots", fn := fun _ => fun
  | [d] => { results := [.lit (.bool false)], args := [d] }
  | _ => none }
def DegreeRootsWrongFalsely : Prop := degreeRootsRow.holds Try.pinned (OpenSpec.ofChange degreeRootsWrong)

/- THE SECOND FORM. 'bulk': how many values and letters a reading holds, each counted each time it is reached (what is shared counts as often as it is met; a slice's spare places count too). A statement '..UptoSaid' is the law's where the arguments, and the package variables that the reading takes, are together of bulk at most 1048576: NARROWER than '..Said'. Prove '..Said' where nothing that the law and all that it calls make is longer than what came in: it says more and counts as full. Else prove '..UptoSaid'. A law counts once. -/
mutual
def uptoBulk {H : Type} : DataW H → Nat
  | .lit (.string bytes) => bytes.length + 1
  | .lit _ => 1
  | .nil => 1
  | .ptr d => uptoBulk d + 1
  | .slice elems spare => uptoBulkAll elems + uptoBulkAll spare + 1
  | .agg parts => uptoBulkAll parts + 1
  | .iface _ d => uptoBulk d + 1
  | .map entries => uptoBulkEntries entries + 1
  | .held _ => 1
def uptoBulkAll {H : Type} : List (DataW H) → Nat
  | [] => 0
  | d :: r => uptoBulk d + uptoBulkAll r
def uptoBulkEntries {H : Type} : List (Lit × DataW H) → Nat
  | [] => 0
  | x :: r => uptoBulkEntry x + uptoBulkEntries r
def uptoBulkEntry {H : Type} : Lit × DataW H → Nat
  | (.string bytes, d) => bytes.length + uptoBulk d + 1
  | (_, d) => uptoBulk d + 1
 end
def uptoSmall : (H : Type) → List (DataW H) → Bool := fun _ ds => decide (uptoBulkAll ds ≤ 1048576)
def OpenSpec.upto (s : _root_.Go.ChangeSpec) : _root_.Go.OpenSpec := { _root_.Go.OpenSpec.ofChange s with cond := some uptoSmall }

/-- 'downpourlaw06.RandomNumbers', WHERE WHAT IT READS IS OF BULK AT MOST 1048576: true; the input reads as it did. -/
def randomNumbersUptoRow : OpenClaim := { program := "ytjfiaeoknmfniaa", sum := "28e85670ea9da1c3962268039cbf6fc4929cbb99a81dfbf0c83e6d389453ebcd", func := "downpour/downpourlaw06.RandomNumbers", spec := "randomNumbers", unfollowed := true, recurses := true, apart := false, narrowed := true }
def RandomNumbersUptoSaid : Prop := randomNumbersUptoRow.holds Try.pinned (OpenSpec.upto randomNumbersSpec)

/-- 'downpourlaw06.RandomOrders', WHERE WHAT IT READS IS OF BULK AT MOST 1048576: true; the input reads as it did. -/
def randomOrdersUptoRow : OpenClaim := { program := "ytjfiaeoknmfniaa", sum := "28e85670ea9da1c3962268039cbf6fc4929cbb99a81dfbf0c83e6d389453ebcd", func := "downpour/downpourlaw06.RandomOrders", spec := "randomOrders", unfollowed := true, recurses := true, apart := false, narrowed := true }
def RandomOrdersUptoSaid : Prop := randomOrdersUptoRow.holds Try.pinned (OpenSpec.upto randomOrdersSpec)

/-- 'downpourlaw06.RandomOnce', WHERE WHAT IT READS IS OF BULK AT MOST 1048576: true; the input reads as it did. -/
def randomOnceUptoRow : OpenClaim := { program := "ytjfiaeoknmfniaa", sum := "28e85670ea9da1c3962268039cbf6fc4929cbb99a81dfbf0c83e6d389453ebcd", func := "downpour/downpourlaw06.RandomOnce", spec := "randomOnce", unfollowed := true, recurses := true, apart := false, narrowed := true }
def RandomOnceUptoSaid : Prop := randomOnceUptoRow.holds Try.pinned (OpenSpec.upto randomOnceSpec)

/-- 'downpourlaw06.RandomFew', WHERE WHAT IT READS IS OF BULK AT MOST 1048576: true; the input reads as it did. -/
def randomFewUptoRow : OpenClaim := { program := "ytjfiaeoknmfniaa", sum := "28e85670ea9da1c3962268039cbf6fc4929cbb99a81dfbf0c83e6d389453ebcd", func := "downpour/downpourlaw06.RandomFew", spec := "randomFew", unfollowed := true, recurses := true, apart := false, narrowed := true }
def RandomFewUptoSaid : Prop := randomFewUptoRow.holds Try.pinned (OpenSpec.upto randomFewSpec)

/-- 'downpourlaw07.DegreeTables', WHERE WHAT IT READS IS OF BULK AT MOST 1048576: true; the input reads as it did. -/
def degreeTablesUptoRow : OpenClaim := { program := "ytjfiaeoknmfniaa", sum := "28e85670ea9da1c3962268039cbf6fc4929cbb99a81dfbf0c83e6d389453ebcd", func := "downpour/downpourlaw07.DegreeTables", spec := "degreeTables", unfollowed := true, recurses := true, apart := false, narrowed := true }
def DegreeTablesUptoSaid : Prop := degreeTablesUptoRow.holds Try.pinned (OpenSpec.upto degreeTablesSpec)

/-- 'downpourlaw07.DegreePicks', WHERE WHAT IT READS IS OF BULK AT MOST 1048576: true; the input reads as it did. -/
def degreePicksUptoRow : OpenClaim := { program := "ytjfiaeoknmfniaa", sum := "28e85670ea9da1c3962268039cbf6fc4929cbb99a81dfbf0c83e6d389453ebcd", func := "downpour/downpourlaw07.DegreePicks", spec := "degreePicks", unfollowed := true, recurses := true, apart := false, narrowed := true }
def DegreePicksUptoSaid : Prop := degreePicksUptoRow.holds Try.pinned (OpenSpec.upto degreePicksSpec)

/-- 'downpourlaw07.DegreeSums', WHERE WHAT IT READS IS OF BULK AT MOST 1048576: true; the input reads as it did. -/
def degreeSumsUptoRow : OpenClaim := { program := "ytjfiaeoknmfniaa", sum := "28e85670ea9da1c3962268039cbf6fc4929cbb99a81dfbf0c83e6d389453ebcd", func := "downpour/downpourlaw07.DegreeSums", spec := "degreeSums", unfollowed := true, recurses := true, apart := false, narrowed := true }
def DegreeSumsUptoSaid : Prop := degreeSumsUptoRow.holds Try.pinned (OpenSpec.upto degreeSumsSpec)

/-- 'downpourlaw07.DegreeRoots', WHERE WHAT IT READS IS OF BULK AT MOST 1048576: true; the input reads as it did. -/
def degreeRootsUptoRow : OpenClaim := { program := "ytjfiaeoknmfniaa", sum := "28e85670ea9da1c3962268039cbf6fc4929cbb99a81dfbf0c83e6d389453ebcd", func := "downpour/downpourlaw07.DegreeRoots", spec := "degreeRoots", unfollowed := true, recurses := true, apart := false, narrowed := true }
def DegreeRootsUptoSaid : Prop := degreeRootsUptoRow.holds Try.pinned (OpenSpec.upto degreeRootsSpec)

end Rows
end Go.Proofs.Ytjfiaeoknmfniaa
