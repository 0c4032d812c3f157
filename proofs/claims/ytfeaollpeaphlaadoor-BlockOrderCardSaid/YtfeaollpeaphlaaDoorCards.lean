/-
  DERIVED. GIVEN WITH THE SEED: THE CARDS: each row of YtfeaollpeaphlaaDoorRows.lean that lists a variable, with what it lists TIED to the program's text (the seventh form; the later family's looks); each row that meets fmt, with fmt's text TOLD by the authors' own Lean function (tested against real Go, not proved from fmt's source: count such statements apart). THE CARD IS WHAT COUNTS. Prove the row's statement (the work); the ties are given (YtfeaollpeaphlaaDoorTie.lean); close each card by the builder's one call (the guide's Derived/Test/ToyasCard.lean, 'card_holds'). Laid BY PROGRAM, IN A SANDBOX (cutbox-door.mjs). By AI agents, Wed Nov 11 2026. No macro, syntax, notation, axiom, sorry.
-/
import Derived.Test.YtfeaollpeaphlaaDoorRows
import GoSem.ClaimSeven
namespace Go.Proofs.YtfeaollpeaphlaaDoor
namespace Rows

/-- THE TIED CARD OF 'downpourlaw01.BitrowTells'. -/
def bitrowTellsCard : Claim7 := { stood := { row := bitrowTellsRow, standIns := [], harness := (true, "08228705cb9423ad6e8151f0952d559cb8aaf9f4b29442cdb73e5554869e3971"), looks := false }, kinds := [], alts := [], laidByText := true, laidKinds := [.data], laidTests := true, laidLooks := .later }
def BitrowTellsCardSaid : Prop := Claim7.holds Tryd.pinned (.plain (OpenSpec.ofChange bitrowTellsSpec)) bitrowTellsCard

/-- THE TIED CARD OF 'downpourlaw01.BitrowBack'. -/
def bitrowBackCard : Claim7 := { stood := { row := bitrowBackRow, standIns := [], harness := (true, "08228705cb9423ad6e8151f0952d559cb8aaf9f4b29442cdb73e5554869e3971"), looks := false }, kinds := [], alts := [], laidByText := true, laidKinds := [.data], laidTests := true, laidLooks := .later }
def BitrowBackCardSaid : Prop := Claim7.holds Tryd.pinned (.plain (OpenSpec.ofChange bitrowBackSpec)) bitrowBackCard

/-- THE TIED CARD OF 'downpourlaw02.BlockPicks'. -/
def blockPicksCard : Claim7 := { stood := { row := blockPicksRow, standIns := [], harness := (true, "08228705cb9423ad6e8151f0952d559cb8aaf9f4b29442cdb73e5554869e3971"), looks := false }, kinds := [], alts := [], laidByText := true, laidKinds := [.data], laidTests := true, laidLooks := .later }
def BlockPicksCardSaid : Prop := Claim7.holds Tryd.pinned (.plain (OpenSpec.ofChange blockPicksSpec)) blockPicksCard

/-- THE TIED CARD OF 'downpourlaw02.BlockOrder'. -/
def blockOrderCard : Claim7 := { stood := { row := blockOrderRow, standIns := [], harness := (true, "08228705cb9423ad6e8151f0952d559cb8aaf9f4b29442cdb73e5554869e3971"), looks := false }, kinds := [], alts := [], laidByText := true, laidKinds := [.data], laidTests := true, laidLooks := .later }
def BlockOrderCardSaid : Prop := Claim7.holds Tryd.pinned (.plain (OpenSpec.ofChange blockOrderSpec)) blockOrderCard

/-- THE SECOND FORM's CARD OF 'downpourlaw01.BitrowTells'. -/
def bitrowTellsUptoCard : Claim7 := { stood := { row := bitrowTellsUptoRow, standIns := [], harness := (true, "08228705cb9423ad6e8151f0952d559cb8aaf9f4b29442cdb73e5554869e3971"), looks := false }, kinds := [], alts := [], laidByText := true, laidKinds := [.data], laidTests := true, laidLooks := .later }
def BitrowTellsUptoCardSaid : Prop := Claim7.holds Tryd.pinned (.plain (OpenSpec.upto bitrowTellsSpec)) bitrowTellsUptoCard

/-- THE SECOND FORM's CARD OF 'downpourlaw01.BitrowBack'. -/
def bitrowBackUptoCard : Claim7 := { stood := { row := bitrowBackUptoRow, standIns := [], harness := (true, "08228705cb9423ad6e8151f0952d559cb8aaf9f4b29442cdb73e5554869e3971"), looks := false }, kinds := [], alts := [], laidByText := true, laidKinds := [.data], laidTests := true, laidLooks := .later }
def BitrowBackUptoCardSaid : Prop := Claim7.holds Tryd.pinned (.plain (OpenSpec.upto bitrowBackSpec)) bitrowBackUptoCard

/-- THE SECOND FORM's CARD OF 'downpourlaw02.BlockPicks'. -/
def blockPicksUptoCard : Claim7 := { stood := { row := blockPicksUptoRow, standIns := [], harness := (true, "08228705cb9423ad6e8151f0952d559cb8aaf9f4b29442cdb73e5554869e3971"), looks := false }, kinds := [], alts := [], laidByText := true, laidKinds := [.data], laidTests := true, laidLooks := .later }
def BlockPicksUptoCardSaid : Prop := Claim7.holds Tryd.pinned (.plain (OpenSpec.upto blockPicksSpec)) blockPicksUptoCard

/-- THE SECOND FORM's CARD OF 'downpourlaw02.BlockOrder'. -/
def blockOrderUptoCard : Claim7 := { stood := { row := blockOrderUptoRow, standIns := [], harness := (true, "08228705cb9423ad6e8151f0952d559cb8aaf9f4b29442cdb73e5554869e3971"), looks := false }, kinds := [], alts := [], laidByText := true, laidKinds := [.data], laidTests := true, laidLooks := .later }
def BlockOrderUptoCardSaid : Prop := Claim7.holds Tryd.pinned (.plain (OpenSpec.upto blockOrderSpec)) blockOrderUptoCard
end Rows
end Go.Proofs.YtfeaollpeaphlaaDoor
