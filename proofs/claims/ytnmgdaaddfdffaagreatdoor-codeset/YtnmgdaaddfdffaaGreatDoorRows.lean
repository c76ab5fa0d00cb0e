/-
  NARROWER THAN 'FOR EVERY INPUT', by the rows' own cells (each row's printed sentence says how): CodeTells: laid · CodeBack: laid · CodeAlike: laid · CodeBurst: laid · CodeParts: laid · CodeSwept: laid · CodeSet: laid.
  DERIVED. THE GIVEN ROWS OF THIS SEAT. 7 by the template 'for every input the law returns true; each argument reads behind the call as it read before'; 0 by the template 'total and deterministic' (their statements: YtnmgdaaddfdffaaGreatDoorTotals.lean).
  GIVEN WITH THE SEED: the statements are not yours to turn. If you find one false, say at which input.
  Laid BY PROGRAM, IN A SANDBOX (cutbox-rows.mjs): the forced cells as the released guide's own fill.sh prints them over the translation 16d29f6a59dd0582… (all of the seat's roots in one cut). By AI agents, Wed Nov 11 2026. No macro, syntax, notation, axiom, sorry.
-/
import Derived.Test.YtnmgdaaddfdffaaGreatDoorChecked
import GoSem.Claim
import GoSem.ClaimJoined
import GoSem.ClaimMapViews
import Derived.JoinedTies
import Derived.KernelRfl
namespace Go.Proofs.YtnmgdaaddfdffaaGreatDoor
/- THE CELL 'sum', in the pinned program and in every row, IS THE sha256 OF THE DUMP (.gsa) THAT YtnmgdaaddfdffaaGreatDoorProg.lean LOADS. Nothing in Lean hashes anything: it is a label: what it is worth is what the hold of that sum in a sandbox is worth. -/
noncomputable def Tryz.pinned : Pinned := { name := "ytnmgdaaddfdffaagreatdoor", sum := "16d29f6a59dd05828efaacf630aa547b2daf75cfd5951b5263b134dd7d8b473b", checked := Tryz.checked }
namespace Rows
def none {H : Type} : Left H := { results := [], args := [] }

/- WHAT THE LISTED PACKAGE-LEVEL VARIABLES READ AS WHEN THE CALL BEGINS. Each datum BY PROGRAM (the guide's laid-datum.mjs) off the statement by which the dump's own 'gosem.cut.vars' lays the variable. In a bare row this is a premise. The card (YtnmgdaaddfdffaaGreatDoorCards.lean) ties it to the program's text. -/
def laid_errors_errorType {H : Type} : DataW H := .iface "internal/reflectlite.rtype" (.agg [.ptr (.lit (.string [101, 114, 114, 111, 114]))])
def laid_foliate_schema_kindTexts {H : Type} : DataW H := .agg [.lit (.string [105, 56]), .lit (.string [105, 49, 54]), .lit (.string [105, 51, 50]), .lit (.string [105, 54, 52]), .lit (.string [116]), .lit (.string [42])]

/-- 'foliatelaw10.CodeTells': WHATEVER THE INPUT: true; the input reads as it did. -/
def codeTellsSpec : ChangeSpec := { name := "codeTells", fn := fun _ => fun
  | [d1, d2] => { results := [.lit (.bool true)], args := [d1, d2] }
  | _ => none }
def codeTellsRow : OpenClaim := { program := "ytnmgdaaddfdffaagreatdoor", sum := "16d29f6a59dd05828efaacf630aa547b2daf75cfd5951b5263b134dd7d8b473b", func := "foliate/foliatelaw10.CodeTells", spec := "codeTells", inPlace := ["internal/reflectlite.ValueOf", "(internal/reflectlite.Value).Type", "(internal/reflectlite.Value).IsNil", "internal/reflectlite.TypeOf", "(internal/reflectlite.Value).Elem", "(internal/reflectlite.Value).Set"], unfollowed := true, recurses := true, named := ["foliate/schema.kindTexts", "errors.errorType"], apart := false, laid := [("errors.errorType", laid_errors_errorType), ("foliate/schema.kindTexts", laid_foliate_schema_kindTexts)] }
def CodeTellsSaid : Prop := codeTellsRow.holds Tryz.pinned (OpenSpec.ofChange codeTellsSpec)

/-- ITS FALSE NEIGHBOUR: 'it returns false'. Refute it at one input. -/
def codeTellsWrong : ChangeSpec := { name := "codeTells", fn := fun _ => fun
  | [d1, d2] => { results := [.lit (.bool false)], args := [d1, d2] }
  | _ => none }
def CodeTellsWrongFalsely : Prop := codeTellsRow.holds Tryz.pinned (OpenSpec.ofChange codeTellsWrong)

/-- 'foliatelaw10.CodeBack': WHATEVER THE INPUT: true; the input reads as it did. -/
def codeBackSpec : ChangeSpec := { name := "codeBack", fn := fun _ => fun
  | [d1, d2] => { results := [.lit (.bool true)], args := [d1, d2] }
  | _ => none }
def codeBackRow : OpenClaim := { program := "ytnmgdaaddfdffaagreatdoor", sum := "16d29f6a59dd05828efaacf630aa547b2daf75cfd5951b5263b134dd7d8b473b", func := "foliate/foliatelaw10.CodeBack", spec := "codeBack", inPlace := ["internal/reflectlite.ValueOf", "(internal/reflectlite.Value).Type", "(internal/reflectlite.Value).IsNil", "internal/reflectlite.TypeOf", "(internal/reflectlite.Value).Elem", "(internal/reflectlite.Value).Set"], unfollowed := true, recurses := true, named := ["foliate/schema.kindTexts", "errors.errorType"], apart := false, laid := [("errors.errorType", laid_errors_errorType), ("foliate/schema.kindTexts", laid_foliate_schema_kindTexts)] }
def CodeBackSaid : Prop := codeBackRow.holds Tryz.pinned (OpenSpec.ofChange codeBackSpec)

/-- ITS FALSE NEIGHBOUR: 'it returns false'. Refute it at one input. -/
def codeBackWrong : ChangeSpec := { name := "codeBack", fn := fun _ => fun
  | [d1, d2] => { results := [.lit (.bool false)], args := [d1, d2] }
  | _ => none }
def CodeBackWrongFalsely : Prop := codeBackRow.holds Tryz.pinned (OpenSpec.ofChange codeBackWrong)

/-- 'foliatelaw10.CodeAlike': WHATEVER THE INPUT: true; the input reads as it did. -/
def codeAlikeSpec : ChangeSpec := { name := "codeAlike", fn := fun _ => fun
  | [d1, d2] => { results := [.lit (.bool true)], args := [d1, d2] }
  | _ => none }
def codeAlikeRow : OpenClaim := { program := "ytnmgdaaddfdffaagreatdoor", sum := "16d29f6a59dd05828efaacf630aa547b2daf75cfd5951b5263b134dd7d8b473b", func := "foliate/foliatelaw10.CodeAlike", spec := "codeAlike", inPlace := ["internal/reflectlite.ValueOf", "(internal/reflectlite.Value).Type", "(internal/reflectlite.Value).IsNil", "internal/reflectlite.TypeOf", "(internal/reflectlite.Value).Elem", "(internal/reflectlite.Value).Set"], unfollowed := true, recurses := true, named := ["foliate/schema.kindTexts", "errors.errorType"], apart := false, laid := [("errors.errorType", laid_errors_errorType), ("foliate/schema.kindTexts", laid_foliate_schema_kindTexts)] }
def CodeAlikeSaid : Prop := codeAlikeRow.holds Tryz.pinned (OpenSpec.ofChange codeAlikeSpec)

/-- ITS FALSE NEIGHBOUR: 'it returns false'. Refute it at one input. -/
def codeAlikeWrong : ChangeSpec := { name := "codeAlike", fn := fun _ => fun
  | [d1, d2] => { results := [.lit (.bool false)], args := [d1, d2] }
  | _ => none }
def CodeAlikeWrongFalsely : Prop := codeAlikeRow.holds Tryz.pinned (OpenSpec.ofChange codeAlikeWrong)

/-- 'foliatelaw10.CodeBurst': WHATEVER THE INPUT: true; the input reads as it did. -/
def codeBurstSpec : ChangeSpec := { name := "codeBurst", fn := fun _ => fun
  | [d1, d2, d3, d4, d5] => { results := [.lit (.bool true)], args := [d1, d2, d3, d4, d5] }
  | _ => none }
def codeBurstRow : OpenClaim := { program := "ytnmgdaaddfdffaagreatdoor", sum := "16d29f6a59dd05828efaacf630aa547b2daf75cfd5951b5263b134dd7d8b473b", func := "foliate/foliatelaw10.CodeBurst", spec := "codeBurst", inPlace := ["internal/reflectlite.ValueOf", "(internal/reflectlite.Value).Type", "(internal/reflectlite.Value).IsNil", "internal/reflectlite.TypeOf", "(internal/reflectlite.Value).Elem", "(internal/reflectlite.Value).Set"], unfollowed := true, recurses := true, named := ["foliate/schema.kindTexts", "errors.errorType"], apart := false, laid := [("errors.errorType", laid_errors_errorType), ("foliate/schema.kindTexts", laid_foliate_schema_kindTexts)] }
def CodeBurstSaid : Prop := codeBurstRow.holds Tryz.pinned (OpenSpec.ofChange codeBurstSpec)

/-- ITS FALSE NEIGHBOUR: 'it returns false'. Refute it at one input. -/
def codeBurstWrong : ChangeSpec := { name := "codeBurst", fn := fun _ => fun
  | [d1, d2, d3, d4, d5] => { results := [.lit (.bool false)], args := [d1, d2, d3, d4, d5] }
  | _ => none }
def CodeBurstWrongFalsely : Prop := codeBurstRow.holds Tryz.pinned (OpenSpec.ofChange codeBurstWrong)

/-- 'foliatelaw10.CodeParts': WHATEVER THE INPUT: true; the input reads as it did. -/
def codePartsSpec : ChangeSpec := { name := "codeParts", fn := fun _ => fun
  | [d] => { results := [.lit (.bool true)], args := [d] }
  | _ => none }
def codePartsRow : OpenClaim := { program := "ytnmgdaaddfdffaagreatdoor", sum := "16d29f6a59dd05828efaacf630aa547b2daf75cfd5951b5263b134dd7d8b473b", func := "foliate/foliatelaw10.CodeParts", spec := "codeParts", inPlace := ["internal/reflectlite.ValueOf", "(internal/reflectlite.Value).Type", "(internal/reflectlite.Value).IsNil", "internal/reflectlite.TypeOf", "(internal/reflectlite.Value).Elem", "(internal/reflectlite.Value).Set"], unfollowed := true, recurses := true, named := ["foliate/schema.kindTexts", "errors.errorType"], apart := false, laid := [("errors.errorType", laid_errors_errorType), ("foliate/schema.kindTexts", laid_foliate_schema_kindTexts)] }
def CodePartsSaid : Prop := codePartsRow.holds Tryz.pinned (OpenSpec.ofChange codePartsSpec)

/-- ITS FALSE NEIGHBOUR: 'it returns false'. Refute it at one input. -/
def codePartsWrong : ChangeSpec := { name := "codeParts", fn := fun _ => fun
  | [d] => { results := [.lit (.bool false)], args := [d] }
  | _ => none }
def CodePartsWrongFalsely : Prop := codePartsRow.holds Tryz.pinned (OpenSpec.ofChange codePartsWrong)

/-- 'foliatelaw10.CodeSwept': WHATEVER THE INPUT: true; the input reads as it did. -/
def codeSweptSpec : ChangeSpec := { name := "codeSwept", fn := fun _ => fun
  | [d1, d2] => { results := [.lit (.bool true)], args := [d1, d2] }
  | _ => none }
def codeSweptRow : OpenClaim := { program := "ytnmgdaaddfdffaagreatdoor", sum := "16d29f6a59dd05828efaacf630aa547b2daf75cfd5951b5263b134dd7d8b473b", func := "foliate/foliatelaw10.CodeSwept", spec := "codeSwept", inPlace := ["internal/reflectlite.ValueOf", "(internal/reflectlite.Value).Type", "(internal/reflectlite.Value).IsNil", "internal/reflectlite.TypeOf", "(internal/reflectlite.Value).Elem", "(internal/reflectlite.Value).Set"], unfollowed := true, recurses := true, named := ["foliate/schema.kindTexts", "errors.errorType"], apart := false, laid := [("errors.errorType", laid_errors_errorType), ("foliate/schema.kindTexts", laid_foliate_schema_kindTexts)] }
def CodeSweptSaid : Prop := codeSweptRow.holds Tryz.pinned (OpenSpec.ofChange codeSweptSpec)

/-- ITS FALSE NEIGHBOUR: 'it returns false'. Refute it at one input. -/
def codeSweptWrong : ChangeSpec := { name := "codeSwept", fn := fun _ => fun
  | [d1, d2] => { results := [.lit (.bool false)], args := [d1, d2] }
  | _ => none }
def CodeSweptWrongFalsely : Prop := codeSweptRow.holds Tryz.pinned (OpenSpec.ofChange codeSweptWrong)

/-- 'foliatelaw10.CodeSet': WHATEVER THE INPUT: true; the input reads as it did. -/
def codeSetSpec : ChangeSpec := { name := "codeSet", fn := fun _ => fun
  | [d1, d2, d3, d4] => { results := [.lit (.bool true)], args := [d1, d2, d3, d4] }
  | _ => none }
def codeSetRow : OpenClaim := { program := "ytnmgdaaddfdffaagreatdoor", sum := "16d29f6a59dd05828efaacf630aa547b2daf75cfd5951b5263b134dd7d8b473b", func := "foliate/foliatelaw10.CodeSet", spec := "codeSet", inPlace := ["internal/reflectlite.ValueOf", "(internal/reflectlite.Value).Type", "(internal/reflectlite.Value).IsNil", "internal/reflectlite.TypeOf", "(internal/reflectlite.Value).Elem", "(internal/reflectlite.Value).Set"], unfollowed := true, recurses := true, named := ["foliate/schema.kindTexts", "errors.errorType"], apart := false, laid := [("errors.errorType", laid_errors_errorType), ("foliate/schema.kindTexts", laid_foliate_schema_kindTexts)] }
def CodeSetSaid : Prop := codeSetRow.holds Tryz.pinned (OpenSpec.ofChange codeSetSpec)

/-- ITS FALSE NEIGHBOUR: 'it returns false'. Refute it at one input. -/
def codeSetWrong : ChangeSpec := { name := "codeSet", fn := fun _ => fun
  | [d1, d2, d3, d4] => { results := [.lit (.bool false)], args := [d1, d2, d3, d4] }
  | _ => none }
def CodeSetWrongFalsely : Prop := codeSetRow.holds Tryz.pinned (OpenSpec.ofChange codeSetWrong)

/- THE SECOND FORM. 'bulk': how many values and letters a reading holds, each counted each time it is reached (what is shared counts as often as it is met; a slice's spare places count too). A statement '..UptoSaid' is the law's where the arguments, and the package variables that the reading takes, are together of bulk at most 1048576: NARROWER than '..Said'. Prove '..Said' where nothing that the law and all that it calls make is longer than what came in: it says more and counts as full. Else prove '..UptoSaid'. A law counts once. -/
mutual
def uptoBulk {H : Type} : DataW H → Nat
  | .lit (.string bytes) => bytes.length + 1
  | .lit _ => 1
  | .nil => 1
  | .ptr d => uptoBulk d + 1
  | .slice elems spare => uptoBulkAll elems + uptoBulkAll spare + 1
  | .agg parts => uptoBulkAll parts + 1
  | .iface _ d => uptoBulk d + 1
  | .map entries => uptoBulkEntries entries + 1
  | .held _ => 1
def uptoBulkAll {H : Type} : List (DataW H) → Nat
  | [] => 0
  | d :: r => uptoBulk d + uptoBulkAll r
def uptoBulkEntries {H : Type} : List (Lit × DataW H) → Nat
  | [] => 0
  | x :: r => uptoBulkEntry x + uptoBulkEntries r
def uptoBulkEntry {H : Type} : Lit × DataW H → Nat
  | (.string bytes, d) => bytes.length + uptoBulk d + 1
  | (_, d) => uptoBulk d + 1
 end
def uptoSmall : (H : Type) → List (DataW H) → Bool := fun _ ds => decide (uptoBulkAll ds ≤ 1048576)
def OpenSpec.upto (s : _root_.Go.ChangeSpec) : _root_.Go.OpenSpec := { _root_.Go.OpenSpec.ofChange s with cond := some uptoSmall }

/-- 'foliatelaw10.CodeTells', WHERE WHAT IT READS IS OF BULK AT MOST 1048576: true; the input reads as it did. -/
def codeTellsUptoRow : OpenClaim := { program := "ytnmgdaaddfdffaagreatdoor", sum := "16d29f6a59dd05828efaacf630aa547b2daf75cfd5951b5263b134dd7d8b473b", func := "foliate/foliatelaw10.CodeTells", spec := "codeTells", inPlace := ["internal/reflectlite.ValueOf", "(internal/reflectlite.Value).Type", "(internal/reflectlite.Value).IsNil", "internal/reflectlite.TypeOf", "(internal/reflectlite.Value).Elem", "(internal/reflectlite.Value).Set"], unfollowed := true, recurses := true, named := ["foliate/schema.kindTexts", "errors.errorType"], apart := false, laid := [("errors.errorType", laid_errors_errorType), ("foliate/schema.kindTexts", laid_foliate_schema_kindTexts)], narrowed := true }
def CodeTellsUptoSaid : Prop := codeTellsUptoRow.holds Tryz.pinned (OpenSpec.upto codeTellsSpec)

/-- 'foliatelaw10.CodeBack', WHERE WHAT IT READS IS OF BULK AT MOST 1048576: true; the input reads as it did. -/
def codeBackUptoRow : OpenClaim := { program := "ytnmgdaaddfdffaagreatdoor", sum := "16d29f6a59dd05828efaacf630aa547b2daf75cfd5951b5263b134dd7d8b473b", func := "foliate/foliatelaw10.CodeBack", spec := "codeBack", inPlace := ["internal/reflectlite.ValueOf", "(internal/reflectlite.Value).Type", "(internal/reflectlite.Value).IsNil", "internal/reflectlite.TypeOf", "(internal/reflectlite.Value).Elem", "(internal/reflectlite.Value).Set"], unfollowed := true, recurses := true, named := ["foliate/schema.kindTexts", "errors.errorType"], apart := false, laid := [("errors.errorType", laid_errors_errorType), ("foliate/schema.kindTexts", laid_foliate_schema_kindTexts)], narrowed := true }
def CodeBackUptoSaid : Prop := codeBackUptoRow.holds Tryz.pinned (OpenSpec.upto codeBackSpec)

/-- 'foliatelaw10.CodeAlike', WHERE WHAT IT READS IS OF BULK AT MOST 1048576: true; the input reads as it did. -/
def codeAlikeUptoRow : OpenClaim := { program := "ytnmgdaaddfdffaagreatdoor", sum := "16d29f6a59dd05828efaacf630aa547b2daf75cfd5951b5263b134dd7d8b473b", func := "foliate/foliatelaw10.CodeAlike", spec := "codeAlike", inPlace := ["internal/reflectlite.ValueOf", "(internal/reflectlite.Value).Type", "(internal/reflectlite.Value).IsNil", "internal/reflectlite.TypeOf", "(internal/reflectlite.Value).Elem", "(internal/reflectlite.Value).Set"], unfollowed := true, recurses := true, named := ["foliate/schema.kindTexts", "errors.errorType"], apart := false, laid := [("errors.errorType", laid_errors_errorType), ("foliate/schema.kindTexts", laid_foliate_schema_kindTexts)], narrowed := true }
def CodeAlikeUptoSaid : Prop := codeAlikeUptoRow.holds Tryz.pinned (OpenSpec.upto codeAlikeSpec)

/-- 'foliatelaw10.CodeBurst', WHERE WHAT IT READS IS OF BULK AT MOST 1048576: true; the input reads as it did. -/
def codeBurstUptoRow : OpenClaim := { program := "ytnmgdaaddfdffaagreatdoor", sum := "16d29f6a59dd05828efaacf630aa547b2daf75cfd5951b5263b134dd7d8b473b", func := "foliate/foliatelaw10.CodeBurst", spec := "codeBurst", inPlace := ["internal/reflectlite.ValueOf", "(internal/reflectlite.Value).Type", "(internal/reflectlite.Value).IsNil", "internal/reflectlite.TypeOf", "(internal/reflectlite.Value).Elem", "(internal/reflectlite.Value).Set"], unfollowed := true, recurses := true, named := ["foliate/schema.kindTexts", "errors.errorType"], apart := false, laid := [("errors.errorType", laid_errors_errorType), ("foliate/schema.kindTexts", laid_foliate_schema_kindTexts)], narrowed := true }
def CodeBurstUptoSaid : Prop := codeBurstUptoRow.holds Tryz.pinned (OpenSpec.upto codeBurstSpec)

/-- 'foliatelaw10.CodeParts', WHERE WHAT IT READS IS OF BULK AT MOST 1048576: true; the input reads as it did. -/
def codePartsUptoRow : OpenClaim := { program := "ytnmgdaaddfdffaagreatdoor", sum := "16d29f6a59dd05828efaacf630aa547b2daf75cfd5951b5263b134dd7d8b473b", func := "foliate/foliatelaw10.CodeParts", spec := "codeParts", inPlace := ["internal/reflectlite.ValueOf", "(internal/reflectlite.Value).Type", "(internal/reflectlite.Value).IsNil", "internal/reflectlite.TypeOf", "(internal/reflectlite.Value).Elem", "(internal/reflectlite.Value).Set"], unfollowed := true, recurses := true, named := ["foliate/schema.kindTexts", "errors.errorType"], apart := false, laid := [("errors.errorType", laid_errors_errorType), ("foliate/schema.kindTexts", laid_foliate_schema_kindTexts)], narrowed := true }
def CodePartsUptoSaid : Prop := codePartsUptoRow.holds Tryz.pinned (OpenSpec.upto codePartsSpec)

/-- 'foliatelaw10.CodeSwept', WHERE WHAT IT READS IS OF BULK AT MOST 1048576: true; the input reads as it did. -/
def codeSweptUptoRow : OpenClaim := { program := "ytnmgdaaddfdffaagreatdoor", sum := "16d29f6a59dd05828efaacf630aa547b2daf75cfd5951b5263b134dd7d8b473b", func := "foliate/foliatelaw10.CodeSwept", spec := "codeSwept", inPlace := ["internal/reflectlite.ValueOf", "(internal/reflectlite.Value).Type", "(internal/reflectlite.Value).IsNil", "internal/reflectlite.TypeOf", "(internal/reflectlite.Value).Elem", "(internal/reflectlite.Value).Set"], unfollowed := true, recurses := true, named := ["foliate/schema.kindTexts", "errors.errorType"], apart := false, laid := [("errors.errorType", laid_errors_errorType), ("foliate/schema.kindTexts", laid_foliate_schema_kindTexts)], narrowed := true }
def CodeSweptUptoSaid : Prop := codeSweptUptoRow.holds Tryz.pinned (OpenSpec.upto codeSweptSpec)

/-- 'foliatelaw10.CodeSet', WHERE WHAT IT READS IS OF BULK AT MOST 1048576: true; the input reads as it did. -/
def codeSetUptoRow : OpenClaim := { program := "ytnmgdaaddfdffaagreatdoor", sum := "16d29f6a59dd05828efaacf630aa547b2daf75cfd5951b5263b134dd7d8b473b", func := "foliate/foliatelaw10.CodeSet", spec := "codeSet", inPlace := ["internal/reflectlite.ValueOf", "(internal/reflectlite.Value).Type", "(internal/reflectlite.Value).IsNil", "internal/reflectlite.TypeOf", "(internal/reflectlite.Value).Elem", "(internal/reflectlite.Value).Set"], unfollowed := true, recurses := true, named := ["foliate/schema.kindTexts", "errors.errorType"], apart := false, laid := [("errors.errorType", laid_errors_errorType), ("foliate/schema.kindTexts", laid_foliate_schema_kindTexts)], narrowed := true }
def CodeSetUptoSaid : Prop := codeSetUptoRow.holds Tryz.pinned (OpenSpec.upto codeSetSpec)

end Rows
end Go.Proofs.YtnmgdaaddfdffaaGreatDoor
