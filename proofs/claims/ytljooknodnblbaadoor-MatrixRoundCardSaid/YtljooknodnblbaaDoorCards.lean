/-
  DERIVED. GIVEN WITH THE SEED: THE CARDS: each row of YtljooknodnblbaaDoorRows.lean that lists a variable, with what it lists TIED to the program's text (the seventh form; the later family's looks); each row that meets fmt, with fmt's text TOLD by the authors' own Lean function (tested against real Go, not proved from fmt's source: count such statements apart). THE CARD IS WHAT COUNTS. Prove the row's statement (the work); the ties are given (YtljooknodnblbaaDoorTie.lean); close each card by the builder's one call (the guide's Derived/Test/ToyasCard.lean, 'card_holds'). Laid BY PROGRAM, IN A SANDBOX (cutbox-door.mjs). By AI agents, Wed Nov 11 2026. No macro, syntax, notation, axiom, sorry.
-/
import Derived.Test.YtljooknodnblbaaDoorRows
import GoSem.ClaimSeven
namespace Go.Proofs.YtljooknodnblbaaDoor
namespace Rows

/-- THE TIED CARD OF 'downpourlaw03.MatrixMuls'. -/
def matrixMulsCard : Claim7 := { stood := { row := matrixMulsRow, standIns := [], harness := (true, "690c4f2b0deac4b427abf451928a191693443e958e6421f0bfa3a028a8f1d6bd"), looks := false }, kinds := [], alts := [], laidByText := true, laidKinds := [.data], laidTests := true, laidLooks := .later }
def MatrixMulsCardSaid : Prop := Claim7.holds Tryd.pinned (.plain (OpenSpec.ofChange matrixMulsSpec)) matrixMulsCard

/-- THE TIED CARD OF 'downpourlaw03.MatrixRound'. -/
def matrixRoundCard : Claim7 := { stood := { row := matrixRoundRow, standIns := [], harness := (true, "690c4f2b0deac4b427abf451928a191693443e958e6421f0bfa3a028a8f1d6bd"), looks := false }, kinds := [], alts := [], laidByText := true, laidKinds := [.data], laidTests := true, laidLooks := .later }
def MatrixRoundCardSaid : Prop := Claim7.holds Tryd.pinned (.plain (OpenSpec.ofChange matrixRoundSpec)) matrixRoundCard

/-- THE SECOND FORM's CARD OF 'downpourlaw03.MatrixMuls'. -/
def matrixMulsUptoCard : Claim7 := { stood := { row := matrixMulsUptoRow, standIns := [], harness := (true, "690c4f2b0deac4b427abf451928a191693443e958e6421f0bfa3a028a8f1d6bd"), looks := false }, kinds := [], alts := [], laidByText := true, laidKinds := [.data], laidTests := true, laidLooks := .later }
def MatrixMulsUptoCardSaid : Prop := Claim7.holds Tryd.pinned (.plain (OpenSpec.upto matrixMulsSpec)) matrixMulsUptoCard

/-- THE SECOND FORM's CARD OF 'downpourlaw03.MatrixRound'. -/
def matrixRoundUptoCard : Claim7 := { stood := { row := matrixRoundUptoRow, standIns := [], harness := (true, "690c4f2b0deac4b427abf451928a191693443e958e6421f0bfa3a028a8f1d6bd"), looks := false }, kinds := [], alts := [], laidByText := true, laidKinds := [.data], laidTests := true, laidLooks := .later }
def MatrixRoundUptoCardSaid : Prop := Claim7.holds Tryd.pinned (.plain (OpenSpec.upto matrixRoundSpec)) matrixRoundUptoCard
end Rows
end Go.Proofs.YtljooknodnblbaaDoor
