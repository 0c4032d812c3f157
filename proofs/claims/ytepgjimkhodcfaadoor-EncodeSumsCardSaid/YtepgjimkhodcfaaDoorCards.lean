/-
  DERIVED. GIVEN WITH THE SEED: THE CARDS: each row of YtepgjimkhodcfaaDoorRows.lean that lists a variable, with what it lists TIED to the program's text (the seventh form; the later family's looks); each row that meets fmt, with fmt's text TOLD by the authors' own Lean function (tested against real Go, not proved from fmt's source: count such statements apart). THE CARD IS WHAT COUNTS. Prove the row's statement (the work); the ties are given (YtepgjimkhodcfaaDoorTie.lean); close each card by the builder's one call (the guide's Derived/Test/ToyasCard.lean, 'card_holds'). Laid BY PROGRAM, IN A SANDBOX (cutbox-door.mjs). By AI agents, Wed Nov 11 2026. No macro, syntax, notation, axiom, sorry.
-/
import Derived.Test.YtepgjimkhodcfaaDoorRows
import GoSem.ClaimSeven
namespace Go.Proofs.YtepgjimkhodcfaaDoor
namespace Rows

/-- THE TIED CARD OF 'downpourlaw09.EncodeCuts'. -/
def encodeCutsCard : Claim7 := { stood := { row := encodeCutsRow, standIns := [], harness := (true, "0dcde5a3d87b0720403d1c23a07fb9ba3ecf34001f4716168499343ae8047327"), looks := false }, kinds := [], alts := [], laidByText := true, laidKinds := [.data], laidTests := true, laidLooks := .later }
def EncodeCutsCardSaid : Prop := Claim7.holds Tryd.pinned (.plain (OpenSpec.ofChange encodeCutsSpec)) encodeCutsCard

/-- THE TIED CARD OF 'downpourlaw09.EncodeMakes'. -/
def encodeMakesCard : Claim7 := { stood := { row := encodeMakesRow, standIns := [], harness := (true, "0dcde5a3d87b0720403d1c23a07fb9ba3ecf34001f4716168499343ae8047327"), looks := false }, kinds := [], alts := [], laidByText := true, laidKinds := [.data], laidTests := true, laidLooks := .later }
def EncodeMakesCardSaid : Prop := Claim7.holds Tryd.pinned (.plain (OpenSpec.ofChange encodeMakesSpec)) encodeMakesCard

/-- THE TIED CARD OF 'downpourlaw09.EncodeSums'. -/
def encodeSumsCard : Claim7 := { stood := { row := encodeSumsRow, standIns := [], harness := (true, "0dcde5a3d87b0720403d1c23a07fb9ba3ecf34001f4716168499343ae8047327"), looks := false }, kinds := [], alts := [], laidByText := true, laidKinds := [.data], laidTests := true, laidLooks := .later }
def EncodeSumsCardSaid : Prop := Claim7.holds Tryd.pinned (.plain (OpenSpec.ofChange encodeSumsSpec)) encodeSumsCard

/-- THE SECOND FORM's CARD OF 'downpourlaw09.EncodeCuts'. -/
def encodeCutsUptoCard : Claim7 := { stood := { row := encodeCutsUptoRow, standIns := [], harness := (true, "0dcde5a3d87b0720403d1c23a07fb9ba3ecf34001f4716168499343ae8047327"), looks := false }, kinds := [], alts := [], laidByText := true, laidKinds := [.data], laidTests := true, laidLooks := .later }
def EncodeCutsUptoCardSaid : Prop := Claim7.holds Tryd.pinned (.plain (OpenSpec.upto encodeCutsSpec)) encodeCutsUptoCard

/-- THE SECOND FORM's CARD OF 'downpourlaw09.EncodeMakes'. -/
def encodeMakesUptoCard : Claim7 := { stood := { row := encodeMakesUptoRow, standIns := [], harness := (true, "0dcde5a3d87b0720403d1c23a07fb9ba3ecf34001f4716168499343ae8047327"), looks := false }, kinds := [], alts := [], laidByText := true, laidKinds := [.data], laidTests := true, laidLooks := .later }
def EncodeMakesUptoCardSaid : Prop := Claim7.holds Tryd.pinned (.plain (OpenSpec.upto encodeMakesSpec)) encodeMakesUptoCard

/-- THE SECOND FORM's CARD OF 'downpourlaw09.EncodeSums'. -/
def encodeSumsUptoCard : Claim7 := { stood := { row := encodeSumsUptoRow, standIns := [], harness := (true, "0dcde5a3d87b0720403d1c23a07fb9ba3ecf34001f4716168499343ae8047327"), looks := false }, kinds := [], alts := [], laidByText := true, laidKinds := [.data], laidTests := true, laidLooks := .later }
def EncodeSumsUptoCardSaid : Prop := Claim7.holds Tryd.pinned (.plain (OpenSpec.upto encodeSumsSpec)) encodeSumsUptoCard
end Rows
end Go.Proofs.YtepgjimkhodcfaaDoor
