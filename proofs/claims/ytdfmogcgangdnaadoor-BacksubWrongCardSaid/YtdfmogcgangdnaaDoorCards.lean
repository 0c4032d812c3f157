/-
  DERIVED. GIVEN WITH THE SEED: THE CARDS: each row of YtdfmogcgangdnaaDoorRows.lean that lists a variable, with what it lists TIED to the program's text (the seventh form; the later family's looks); each row that meets fmt, with fmt's text TOLD by the authors' own Lean function (tested against real Go, not proved from fmt's source: count such statements apart). THE CARD IS WHAT COUNTS. Prove the row's statement (the work); the ties are given (YtdfmogcgangdnaaDoorTie.lean); close each card by the builder's one call (the guide's Derived/Test/ToyasCard.lean, 'card_holds'). Laid BY PROGRAM, IN A SANDBOX (cutbox-door.mjs). By AI agents, Wed Nov 11 2026. No macro, syntax, notation, axiom, sorry.
-/
import Derived.Test.YtdfmogcgangdnaaDoorRows
import GoSem.ClaimSeven
namespace Go.Proofs.YtdfmogcgangdnaaDoor
namespace Rows

/-- THE TIED CARD OF 'downpourlaw04.ReduceKeeps'. -/
def reduceKeepsCard : Claim7 := { stood := { row := reduceKeepsRow, standIns := [], harness := (true, "5622ef141f454bfc80b3c18f616f452aae62cc8afc4f55e28a206c7613fd86e3"), looks := false }, kinds := [], alts := [], laidByText := true, laidKinds := [.data], laidTests := true, laidLooks := .later }
def ReduceKeepsCardSaid : Prop := Claim7.holds Tryd.pinned (.plain (OpenSpec.ofChange reduceKeepsSpec)) reduceKeepsCard

/-- THE TIED CARD OF 'downpourlaw05.BacksubTold'. -/
def backsubToldCard : Claim7 := { stood := { row := backsubToldRow, standIns := [], harness := (true, "5622ef141f454bfc80b3c18f616f452aae62cc8afc4f55e28a206c7613fd86e3"), looks := false }, kinds := [], alts := [], laidByText := true, laidKinds := [.data], laidTests := true, laidLooks := .later }
def BacksubToldCardSaid : Prop := Claim7.holds Tryd.pinned (.plain (OpenSpec.ofChange backsubToldSpec)) backsubToldCard

/-- THE TIED CARD OF 'downpourlaw05.BacksubWrong'. -/
def backsubWrongCard : Claim7 := { stood := { row := backsubWrongRow, standIns := [], harness := (true, "5622ef141f454bfc80b3c18f616f452aae62cc8afc4f55e28a206c7613fd86e3"), looks := false }, kinds := [], alts := [], laidByText := true, laidKinds := [.data], laidTests := true, laidLooks := .later }
def BacksubWrongCardSaid : Prop := Claim7.holds Tryd.pinned (.plain (OpenSpec.ofChange backsubWrongSpec)) backsubWrongCard

/-- THE SECOND FORM's CARD OF 'downpourlaw04.ReduceKeeps'. -/
def reduceKeepsUptoCard : Claim7 := { stood := { row := reduceKeepsUptoRow, standIns := [], harness := (true, "5622ef141f454bfc80b3c18f616f452aae62cc8afc4f55e28a206c7613fd86e3"), looks := false }, kinds := [], alts := [], laidByText := true, laidKinds := [.data], laidTests := true, laidLooks := .later }
def ReduceKeepsUptoCardSaid : Prop := Claim7.holds Tryd.pinned (.plain (OpenSpec.upto reduceKeepsSpec)) reduceKeepsUptoCard

/-- THE SECOND FORM's CARD OF 'downpourlaw05.BacksubTold'. -/
def backsubToldUptoCard : Claim7 := { stood := { row := backsubToldUptoRow, standIns := [], harness := (true, "5622ef141f454bfc80b3c18f616f452aae62cc8afc4f55e28a206c7613fd86e3"), looks := false }, kinds := [], alts := [], laidByText := true, laidKinds := [.data], laidTests := true, laidLooks := .later }
def BacksubToldUptoCardSaid : Prop := Claim7.holds Tryd.pinned (.plain (OpenSpec.upto backsubToldSpec)) backsubToldUptoCard

/-- THE SECOND FORM's CARD OF 'downpourlaw05.BacksubWrong'. -/
def backsubWrongUptoCard : Claim7 := { stood := { row := backsubWrongUptoRow, standIns := [], harness := (true, "5622ef141f454bfc80b3c18f616f452aae62cc8afc4f55e28a206c7613fd86e3"), looks := false }, kinds := [], alts := [], laidByText := true, laidKinds := [.data], laidTests := true, laidLooks := .later }
def BacksubWrongUptoCardSaid : Prop := Claim7.holds Tryd.pinned (.plain (OpenSpec.upto backsubWrongSpec)) backsubWrongUptoCard
end Rows
end Go.Proofs.YtdfmogcgangdnaaDoor
