/-
  DERIVED. GIVEN WITH THE SEED: THE CARDS: each row of YtnmgdaaddfdffaaGreatDoorRows.lean that lists a variable, with what it lists TIED to the program's text (the seventh form; the later family's looks); each row that meets fmt, with fmt's text TOLD by the authors' own Lean function (tested against real Go, not proved from fmt's source: count such statements apart). THE CARD IS WHAT COUNTS. Prove the row's statement (the work); the ties are given (YtnmgdaaddfdffaaGreatDoorTie.lean); close each card by the builder's one call (the guide's Derived/Test/ToyasCard.lean, 'card_holds'). Laid BY PROGRAM, IN A SANDBOX (cutbox-door.mjs). By AI agents, Wed Nov 11 2026. No macro, syntax, notation, axiom, sorry.
-/
import Derived.Test.YtnmgdaaddfdffaaGreatDoorRows
import GoSem.ClaimSeven
namespace Go.Proofs.YtnmgdaaddfdffaaGreatDoor
namespace Rows

/-- THE TIED CARD OF 'foliatelaw10.CodeTells'. -/
def codeTellsCard : Claim7 := { stood := { row := codeTellsRow, standIns := [], harness := (true, "1f582ec740e3ea299da42d39e871e2c8573903b7437be3d0863b35198dfaeb6d"), looks := true }, kinds := [], alts := [], laidByText := true, laidKinds := [.handle, .data], laidTests := true, laidLooks := .later }
def CodeTellsCardSaid : Prop := Claim7.holds Tryz.pinned (.plain (OpenSpec.ofChange codeTellsSpec)) codeTellsCard

/-- THE TIED CARD OF 'foliatelaw10.CodeBack'. -/
def codeBackCard : Claim7 := { stood := { row := codeBackRow, standIns := [], harness := (true, "1f582ec740e3ea299da42d39e871e2c8573903b7437be3d0863b35198dfaeb6d"), looks := true }, kinds := [], alts := [], laidByText := true, laidKinds := [.handle, .data], laidTests := true, laidLooks := .later }
def CodeBackCardSaid : Prop := Claim7.holds Tryz.pinned (.plain (OpenSpec.ofChange codeBackSpec)) codeBackCard

/-- THE TIED CARD OF 'foliatelaw10.CodeAlike'. -/
def codeAlikeCard : Claim7 := { stood := { row := codeAlikeRow, standIns := [], harness := (true, "1f582ec740e3ea299da42d39e871e2c8573903b7437be3d0863b35198dfaeb6d"), looks := true }, kinds := [], alts := [], laidByText := true, laidKinds := [.handle, .data], laidTests := true, laidLooks := .later }
def CodeAlikeCardSaid : Prop := Claim7.holds Tryz.pinned (.plain (OpenSpec.ofChange codeAlikeSpec)) codeAlikeCard

/-- THE TIED CARD OF 'foliatelaw10.CodeBurst'. -/
def codeBurstCard : Claim7 := { stood := { row := codeBurstRow, standIns := [], harness := (true, "1f582ec740e3ea299da42d39e871e2c8573903b7437be3d0863b35198dfaeb6d"), looks := true }, kinds := [], alts := [], laidByText := true, laidKinds := [.handle, .data], laidTests := true, laidLooks := .later }
def CodeBurstCardSaid : Prop := Claim7.holds Tryz.pinned (.plain (OpenSpec.ofChange codeBurstSpec)) codeBurstCard

/-- THE TIED CARD OF 'foliatelaw10.CodeParts'. -/
def codePartsCard : Claim7 := { stood := { row := codePartsRow, standIns := [], harness := (true, "1f582ec740e3ea299da42d39e871e2c8573903b7437be3d0863b35198dfaeb6d"), looks := true }, kinds := [], alts := [], laidByText := true, laidKinds := [.handle, .data], laidTests := true, laidLooks := .later }
def CodePartsCardSaid : Prop := Claim7.holds Tryz.pinned (.plain (OpenSpec.ofChange codePartsSpec)) codePartsCard

/-- THE TIED CARD OF 'foliatelaw10.CodeSwept'. -/
def codeSweptCard : Claim7 := { stood := { row := codeSweptRow, standIns := [], harness := (true, "1f582ec740e3ea299da42d39e871e2c8573903b7437be3d0863b35198dfaeb6d"), looks := true }, kinds := [], alts := [], laidByText := true, laidKinds := [.handle, .data], laidTests := true, laidLooks := .later }
def CodeSweptCardSaid : Prop := Claim7.holds Tryz.pinned (.plain (OpenSpec.ofChange codeSweptSpec)) codeSweptCard

/-- THE TIED CARD OF 'foliatelaw10.CodeSet'. -/
def codeSetCard : Claim7 := { stood := { row := codeSetRow, standIns := [], harness := (true, "1f582ec740e3ea299da42d39e871e2c8573903b7437be3d0863b35198dfaeb6d"), looks := true }, kinds := [], alts := [], laidByText := true, laidKinds := [.handle, .data], laidTests := true, laidLooks := .later }
def CodeSetCardSaid : Prop := Claim7.holds Tryz.pinned (.plain (OpenSpec.ofChange codeSetSpec)) codeSetCard

/-- THE SECOND FORM's CARD OF 'foliatelaw10.CodeTells'. -/
def codeTellsUptoCard : Claim7 := { stood := { row := codeTellsUptoRow, standIns := [], harness := (true, "1f582ec740e3ea299da42d39e871e2c8573903b7437be3d0863b35198dfaeb6d"), looks := true }, kinds := [], alts := [], laidByText := true, laidKinds := [.handle, .data], laidTests := true, laidLooks := .later }
def CodeTellsUptoCardSaid : Prop := Claim7.holds Tryz.pinned (.plain (OpenSpec.upto codeTellsSpec)) codeTellsUptoCard

/-- THE SECOND FORM's CARD OF 'foliatelaw10.CodeBack'. -/
def codeBackUptoCard : Claim7 := { stood := { row := codeBackUptoRow, standIns := [], harness := (true, "1f582ec740e3ea299da42d39e871e2c8573903b7437be3d0863b35198dfaeb6d"), looks := true }, kinds := [], alts := [], laidByText := true, laidKinds := [.handle, .data], laidTests := true, laidLooks := .later }
def CodeBackUptoCardSaid : Prop := Claim7.holds Tryz.pinned (.plain (OpenSpec.upto codeBackSpec)) codeBackUptoCard

/-- THE SECOND FORM's CARD OF 'foliatelaw10.CodeAlike'. -/
def codeAlikeUptoCard : Claim7 := { stood := { row := codeAlikeUptoRow, standIns := [], harness := (true, "1f582ec740e3ea299da42d39e871e2c8573903b7437be3d0863b35198dfaeb6d"), looks := true }, kinds := [], alts := [], laidByText := true, laidKinds := [.handle, .data], laidTests := true, laidLooks := .later }
def CodeAlikeUptoCardSaid : Prop := Claim7.holds Tryz.pinned (.plain (OpenSpec.upto codeAlikeSpec)) codeAlikeUptoCard

/-- THE SECOND FORM's CARD OF 'foliatelaw10.CodeBurst'. -/
def codeBurstUptoCard : Claim7 := { stood := { row := codeBurstUptoRow, standIns := [], harness := (true, "1f582ec740e3ea299da42d39e871e2c8573903b7437be3d0863b35198dfaeb6d"), looks := true }, kinds := [], alts := [], laidByText := true, laidKinds := [.handle, .data], laidTests := true, laidLooks := .later }
def CodeBurstUptoCardSaid : Prop := Claim7.holds Tryz.pinned (.plain (OpenSpec.upto codeBurstSpec)) codeBurstUptoCard

/-- THE SECOND FORM's CARD OF 'foliatelaw10.CodeParts'. -/
def codePartsUptoCard : Claim7 := { stood := { row := codePartsUptoRow, standIns := [], harness := (true, "1f582ec740e3ea299da42d39e871e2c8573903b7437be3d0863b35198dfaeb6d"), looks := true }, kinds := [], alts := [], laidByText := true, laidKinds := [.handle, .data], laidTests := true, laidLooks := .later }
def CodePartsUptoCardSaid : Prop := Claim7.holds Tryz.pinned (.plain (OpenSpec.upto codePartsSpec)) codePartsUptoCard

/-- THE SECOND FORM's CARD OF 'foliatelaw10.CodeSwept'. -/
def codeSweptUptoCard : Claim7 := { stood := { row := codeSweptUptoRow, standIns := [], harness := (true, "1f582ec740e3ea299da42d39e871e2c8573903b7437be3d0863b35198dfaeb6d"), looks := true }, kinds := [], alts := [], laidByText := true, laidKinds := [.handle, .data], laidTests := true, laidLooks := .later }
def CodeSweptUptoCardSaid : Prop := Claim7.holds Tryz.pinned (.plain (OpenSpec.upto codeSweptSpec)) codeSweptUptoCard

/-- THE SECOND FORM's CARD OF 'foliatelaw10.CodeSet'. -/
def codeSetUptoCard : Claim7 := { stood := { row := codeSetUptoRow, standIns := [], harness := (true, "1f582ec740e3ea299da42d39e871e2c8573903b7437be3d0863b35198dfaeb6d"), looks := true }, kinds := [], alts := [], laidByText := true, laidKinds := [.handle, .data], laidTests := true, laidLooks := .later }
def CodeSetUptoCardSaid : Prop := Claim7.holds Tryz.pinned (.plain (OpenSpec.upto codeSetSpec)) codeSetUptoCard
end Rows
end Go.Proofs.YtnmgdaaddfdffaaGreatDoor
