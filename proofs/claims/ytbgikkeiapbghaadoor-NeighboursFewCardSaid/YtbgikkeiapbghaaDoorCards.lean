/-
  DERIVED. GIVEN WITH THE SEED: THE CARDS: each row of YtbgikkeiapbghaaDoorRows.lean that lists a variable, with what it lists TIED to the program's text (the seventh form; the later family's looks); each row that meets fmt, with fmt's text TOLD by the authors' own Lean function (tested against real Go, not proved from fmt's source: count such statements apart). THE CARD IS WHAT COUNTS. Prove the row's statement (the work); the ties are given (YtbgikkeiapbghaaDoorTie.lean); close each card by the builder's one call (the guide's Derived/Test/ToyasCard.lean, 'card_holds'). Laid BY PROGRAM, IN A SANDBOX (cutbox-door.mjs). By AI agents, Wed Nov 11 2026. No macro, syntax, notation, axiom, sorry.
-/
import Derived.Test.YtbgikkeiapbghaaDoorRows
import GoSem.ClaimSeven
namespace Go.Proofs.YtbgikkeiapbghaaDoor
namespace Rows

/-- THE TIED CARD OF 'downpourlaw08.NeighboursFew'. -/
def neighboursFewCard : Claim7 := { stood := { row := neighboursFewRow, standIns := [], harness := (true, "7aeb0e5424274290fc29e1f0113a7428c37e44202fbc9b834653fb334342c97b"), looks := false }, kinds := [], alts := [], laidByText := true, laidKinds := [.data], laidTests := true, laidLooks := .later }
def NeighboursFewCardSaid : Prop := Claim7.holds Tryd.pinned (.plain (OpenSpec.ofChange neighboursFewSpec)) neighboursFewCard

/-- THE SECOND FORM's CARD OF 'downpourlaw08.NeighboursFew'. -/
def neighboursFewUptoCard : Claim7 := { stood := { row := neighboursFewUptoRow, standIns := [], harness := (true, "7aeb0e5424274290fc29e1f0113a7428c37e44202fbc9b834653fb334342c97b"), looks := false }, kinds := [], alts := [], laidByText := true, laidKinds := [.data], laidTests := true, laidLooks := .later }
def NeighboursFewUptoCardSaid : Prop := Claim7.holds Tryd.pinned (.plain (OpenSpec.upto neighboursFewSpec)) neighboursFewUptoCard
end Rows
end Go.Proofs.YtbgikkeiapbghaaDoor
