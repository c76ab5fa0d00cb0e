/-
  DERIVED. GIVEN WITH THE SEED: THE CARDS: each row of YtclbjbhpncpmbaaGreatDoorRows.lean that lists a variable, with what it lists TIED to the program's text (the seventh form; the later family's looks); each row that meets fmt, with fmt's text TOLD by the authors' own Lean function (tested against real Go, not proved from fmt's source: count such statements apart). THE CARD IS WHAT COUNTS. Prove the row's statement (the work); the ties are given (YtclbjbhpncpmbaaGreatDoorTie.lean); close each card by the builder's one call (the guide's Derived/Test/ToyasCard.lean, 'card_holds'). Laid BY PROGRAM, IN A SANDBOX (cutbox-door.mjs). By AI agents, Wed Nov 11 2026. No macro, syntax, notation, axiom, sorry.
-/
import Derived.Test.YtclbjbhpncpmbaaGreatDoorRows
import GoSem.ClaimSeven
namespace Go.Proofs.YtclbjbhpncpmbaaGreatDoor
namespace Rows

/-- THE TIED CARD OF 'foliatelaw11.DeltaTells'. -/
def deltaTellsCard : Claim7 := { stood := { row := deltaTellsRow, standIns := [], harness := (true, "95068af4c507d6009cd9b45b305d2352975d8154e0f61aaf11485f3ae0ede79f"), looks := true }, kinds := [], alts := [], laidByText := true, laidKinds := [.data], laidTests := true, laidLooks := .later }
def DeltaTellsCardSaid : Prop := Claim7.holds Tryz.pinned (.plain (OpenSpec.ofChange deltaTellsSpec)) deltaTellsCard

/-- THE TIED CARD OF 'foliatelaw11.DeltaMakes'. -/
def deltaMakesCard : Claim7 := { stood := { row := deltaMakesRow, standIns := [], harness := (true, "95068af4c507d6009cd9b45b305d2352975d8154e0f61aaf11485f3ae0ede79f"), looks := true }, kinds := [], alts := [], laidByText := true, laidKinds := [.data], laidTests := true, laidLooks := .later }
def DeltaMakesCardSaid : Prop := Claim7.holds Tryz.pinned (.plain (OpenSpec.ofChange deltaMakesSpec)) deltaMakesCard

/-- THE TIED CARD OF 'foliatelaw11.DeltaBase'. -/
def deltaBaseCard : Claim7 := { stood := { row := deltaBaseRow, standIns := [], harness := (true, "95068af4c507d6009cd9b45b305d2352975d8154e0f61aaf11485f3ae0ede79f"), looks := true }, kinds := [], alts := [], laidByText := true, laidKinds := [.data], laidTests := true, laidLooks := .later }
def DeltaBaseCardSaid : Prop := Claim7.holds Tryz.pinned (.plain (OpenSpec.ofChange deltaBaseSpec)) deltaBaseCard

/-- THE TIED CARD OF 'foliatelaw11.DeltaSelf'. -/
def deltaSelfCard : Claim7 := { stood := { row := deltaSelfRow, standIns := [], harness := (true, "95068af4c507d6009cd9b45b305d2352975d8154e0f61aaf11485f3ae0ede79f"), looks := true }, kinds := [], alts := [], laidByText := true, laidKinds := [.data], laidTests := true, laidLooks := .later }
def DeltaSelfCardSaid : Prop := Claim7.holds Tryz.pinned (.plain (OpenSpec.ofChange deltaSelfSpec)) deltaSelfCard

/-- THE TIED CARD OF 'foliatelaw11.DeltaChain'. -/
def deltaChainCard : Claim7 := { stood := { row := deltaChainRow, standIns := [], harness := (true, "95068af4c507d6009cd9b45b305d2352975d8154e0f61aaf11485f3ae0ede79f"), looks := true }, kinds := [], alts := [], laidByText := true, laidKinds := [.data], laidTests := true, laidLooks := .later }
def DeltaChainCardSaid : Prop := Claim7.holds Tryz.pinned (.plain (OpenSpec.ofChange deltaChainSpec)) deltaChainCard

/-- THE TIED CARD OF 'foliatelaw11.DeltaSmall'. -/
def deltaSmallCard : Claim7 := { stood := { row := deltaSmallRow, standIns := [], harness := (true, "95068af4c507d6009cd9b45b305d2352975d8154e0f61aaf11485f3ae0ede79f"), looks := true }, kinds := [], alts := [], laidByText := true, laidKinds := [.data], laidTests := true, laidLooks := .later }
def DeltaSmallCardSaid : Prop := Claim7.holds Tryz.pinned (.plain (OpenSpec.ofChange deltaSmallSpec)) deltaSmallCard

/-- THE SECOND FORM's CARD OF 'foliatelaw11.DeltaTells'. -/
def deltaTellsUptoCard : Claim7 := { stood := { row := deltaTellsUptoRow, standIns := [], harness := (true, "95068af4c507d6009cd9b45b305d2352975d8154e0f61aaf11485f3ae0ede79f"), looks := true }, kinds := [], alts := [], laidByText := true, laidKinds := [.data], laidTests := true, laidLooks := .later }
def DeltaTellsUptoCardSaid : Prop := Claim7.holds Tryz.pinned (.plain (OpenSpec.upto deltaTellsSpec)) deltaTellsUptoCard

/-- THE SECOND FORM's CARD OF 'foliatelaw11.DeltaMakes'. -/
def deltaMakesUptoCard : Claim7 := { stood := { row := deltaMakesUptoRow, standIns := [], harness := (true, "95068af4c507d6009cd9b45b305d2352975d8154e0f61aaf11485f3ae0ede79f"), looks := true }, kinds := [], alts := [], laidByText := true, laidKinds := [.data], laidTests := true, laidLooks := .later }
def DeltaMakesUptoCardSaid : Prop := Claim7.holds Tryz.pinned (.plain (OpenSpec.upto deltaMakesSpec)) deltaMakesUptoCard

/-- THE SECOND FORM's CARD OF 'foliatelaw11.DeltaBase'. -/
def deltaBaseUptoCard : Claim7 := { stood := { row := deltaBaseUptoRow, standIns := [], harness := (true, "95068af4c507d6009cd9b45b305d2352975d8154e0f61aaf11485f3ae0ede79f"), looks := true }, kinds := [], alts := [], laidByText := true, laidKinds := [.data], laidTests := true, laidLooks := .later }
def DeltaBaseUptoCardSaid : Prop := Claim7.holds Tryz.pinned (.plain (OpenSpec.upto deltaBaseSpec)) deltaBaseUptoCard

/-- THE SECOND FORM's CARD OF 'foliatelaw11.DeltaSelf'. -/
def deltaSelfUptoCard : Claim7 := { stood := { row := deltaSelfUptoRow, standIns := [], harness := (true, "95068af4c507d6009cd9b45b305d2352975d8154e0f61aaf11485f3ae0ede79f"), looks := true }, kinds := [], alts := [], laidByText := true, laidKinds := [.data], laidTests := true, laidLooks := .later }
def DeltaSelfUptoCardSaid : Prop := Claim7.holds Tryz.pinned (.plain (OpenSpec.upto deltaSelfSpec)) deltaSelfUptoCard

/-- THE SECOND FORM's CARD OF 'foliatelaw11.DeltaChain'. -/
def deltaChainUptoCard : Claim7 := { stood := { row := deltaChainUptoRow, standIns := [], harness := (true, "95068af4c507d6009cd9b45b305d2352975d8154e0f61aaf11485f3ae0ede79f"), looks := true }, kinds := [], alts := [], laidByText := true, laidKinds := [.data], laidTests := true, laidLooks := .later }
def DeltaChainUptoCardSaid : Prop := Claim7.holds Tryz.pinned (.plain (OpenSpec.upto deltaChainSpec)) deltaChainUptoCard

/-- THE SECOND FORM's CARD OF 'foliatelaw11.DeltaSmall'. -/
def deltaSmallUptoCard : Claim7 := { stood := { row := deltaSmallUptoRow, standIns := [], harness := (true, "95068af4c507d6009cd9b45b305d2352975d8154e0f61aaf11485f3ae0ede79f"), looks := true }, kinds := [], alts := [], laidByText := true, laidKinds := [.data], laidTests := true, laidLooks := .later }
def DeltaSmallUptoCardSaid : Prop := Claim7.holds Tryz.pinned (.plain (OpenSpec.upto deltaSmallSpec)) deltaSmallUptoCard
end Rows
end Go.Proofs.YtclbjbhpncpmbaaGreatDoor
