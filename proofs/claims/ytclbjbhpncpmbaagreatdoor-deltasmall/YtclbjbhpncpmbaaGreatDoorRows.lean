/-
  NARROWER THAN 'FOR EVERY INPUT', by the rows' own cells (each row's printed sentence says how): DeltaTells: laid · DeltaMakes: laid · DeltaBase: laid · DeltaSelf: laid · DeltaChain: laid · DeltaSmall: laid.
  DERIVED. THE GIVEN ROWS OF THIS SEAT. 6 by the template 'for every input the law returns true; each argument reads behind the call as it read before'; 0 by the template 'total and deterministic' (their statements: YtclbjbhpncpmbaaGreatDoorTotals.lean).
  GIVEN WITH THE SEED: the statements are not yours to turn. If you find one false, say at which input.
  Laid BY PROGRAM, IN A SANDBOX (cutbox-rows.mjs): the forced cells as the released guide's own fill.sh prints them over the translation 3e306f2d9f3dddac… (all of the seat's roots in one cut). By AI agents, Wed Nov 11 2026. No macro, syntax, notation, axiom, sorry.
-/
import Derived.Test.YtclbjbhpncpmbaaGreatDoorChecked
import GoSem.Claim
import GoSem.ClaimJoined
import GoSem.ClaimMapViews
import Derived.JoinedTies
import Derived.KernelRfl
namespace Go.Proofs.YtclbjbhpncpmbaaGreatDoor
/- THE CELL 'sum', in the pinned program and in every row, IS THE sha256 OF THE DUMP (.gsa) THAT YtclbjbhpncpmbaaGreatDoorProg.lean LOADS. Nothing in Lean hashes anything: it is a label: what it is worth is what the hold of that sum in a sandbox is worth. -/
noncomputable def Tryz.pinned : Pinned := { name := "ytclbjbhpncpmbaagreatdoor", sum := "3e306f2d9f3dddaca0d8494c734f8b665d5bd945728a86f89685087c4948d977", checked := Tryz.checked }
namespace Rows
def none {H : Type} : Left H := { results := [], args := [] }

/- WHAT THE LISTED PACKAGE-LEVEL VARIABLES READ AS WHEN THE CALL BEGINS. Each datum BY PROGRAM (the guide's laid-datum.mjs) off the statement by which the dump's own 'gosem.cut.vars' lays the variable. In a bare row this is a premise. The card (YtclbjbhpncpmbaaGreatDoorCards.lean) ties it to the program's text. -/
def laid_foliate_schema_kindTexts {H : Type} : DataW H := .agg [.lit (.string [105, 56]), .lit (.string [105, 49, 54]), .lit (.string [105, 51, 50]), .lit (.string [105, 54, 52]), .lit (.string [116]), .lit (.string [42])]

/-- 'foliatelaw11.DeltaTells': WHATEVER THE INPUT: true; the input reads as it did. -/
def deltaTellsSpec : ChangeSpec := { name := "deltaTells", fn := fun _ => fun
  | [d1, d2, d3, d4] => { results := [.lit (.bool true)], args := [d1, d2, d3, d4] }
  | _ => none }
def deltaTellsRow : OpenClaim := { program := "ytclbjbhpncpmbaagreatdoor", sum := "3e306f2d9f3dddaca0d8494c734f8b665d5bd945728a86f89685087c4948d977", func := "foliate/foliatelaw11.DeltaTells", spec := "deltaTells", unfollowed := true, recurses := true, named := ["foliate/schema.kindTexts"], apart := false, laid := [("foliate/schema.kindTexts", laid_foliate_schema_kindTexts)] }
def DeltaTellsSaid : Prop := deltaTellsRow.holds Tryz.pinned (OpenSpec.ofChange deltaTellsSpec)

/-- ITS FALSE NEIGHBOUR: 'it returns false'. Refute it at one input. -/
def deltaTellsWrong : ChangeSpec := { name := "deltaTells", fn := fun _ => fun
  | [d1, d2, d3, d4] => { results := [.lit (.bool false)], args := [d1, d2, d3, d4] }
  | _ => none }
def DeltaTellsWrongFalsely : Prop := deltaTellsRow.holds Tryz.pinned (OpenSpec.ofChange deltaTellsWrong)

/-- 'foliatelaw11.DeltaMakes': WHATEVER THE INPUT: true; the input reads as it did. -/
def deltaMakesSpec : ChangeSpec := { name := "deltaMakes", fn := fun _ => fun
  | [d1, d2, d3] => { results := [.lit (.bool true)], args := [d1, d2, d3] }
  | _ => none }
def deltaMakesRow : OpenClaim := { program := "ytclbjbhpncpmbaagreatdoor", sum := "3e306f2d9f3dddaca0d8494c734f8b665d5bd945728a86f89685087c4948d977", func := "foliate/foliatelaw11.DeltaMakes", spec := "deltaMakes", unfollowed := true, recurses := true, named := ["foliate/schema.kindTexts"], apart := false, laid := [("foliate/schema.kindTexts", laid_foliate_schema_kindTexts)] }
def DeltaMakesSaid : Prop := deltaMakesRow.holds Tryz.pinned (OpenSpec.ofChange deltaMakesSpec)

/-- ITS FALSE NEIGHBOUR: 'it returns false'. Refute it at one input. -/
def deltaMakesWrong : ChangeSpec := { name := "deltaMakes", fn := fun _ => fun
  | [d1, d2, d3] => { results := [.lit (.bool false)], args := [d1, d2, d3] }
  | _ => none }
def DeltaMakesWrongFalsely : Prop := deltaMakesRow.holds Tryz.pinned (OpenSpec.ofChange deltaMakesWrong)

/-- 'foliatelaw11.DeltaBase': WHATEVER THE INPUT: true; the input reads as it did. -/
def deltaBaseSpec : ChangeSpec := { name := "deltaBase", fn := fun _ => fun
  | [d1, d2] => { results := [.lit (.bool true)], args := [d1, d2] }
  | _ => none }
def deltaBaseRow : OpenClaim := { program := "ytclbjbhpncpmbaagreatdoor", sum := "3e306f2d9f3dddaca0d8494c734f8b665d5bd945728a86f89685087c4948d977", func := "foliate/foliatelaw11.DeltaBase", spec := "deltaBase", unfollowed := true, recurses := true, named := ["foliate/schema.kindTexts"], apart := false, laid := [("foliate/schema.kindTexts", laid_foliate_schema_kindTexts)] }
def DeltaBaseSaid : Prop := deltaBaseRow.holds Tryz.pinned (OpenSpec.ofChange deltaBaseSpec)

/-- ITS FALSE NEIGHBOUR: 'it returns false'. Refute it at one input. -/
def deltaBaseWrong : ChangeSpec := { name := "deltaBase", fn := fun _ => fun
  | [d1, d2] => { results := [.lit (.bool false)], args := [d1, d2] }
  | _ => none }
def DeltaBaseWrongFalsely : Prop := deltaBaseRow.holds Tryz.pinned (OpenSpec.ofChange deltaBaseWrong)

/-- 'foliatelaw11.DeltaSelf': WHATEVER THE INPUT: true; the input reads as it did. -/
def deltaSelfSpec : ChangeSpec := { name := "deltaSelf", fn := fun _ => fun
  | [d1, d2] => { results := [.lit (.bool true)], args := [d1, d2] }
  | _ => none }
def deltaSelfRow : OpenClaim := { program := "ytclbjbhpncpmbaagreatdoor", sum := "3e306f2d9f3dddaca0d8494c734f8b665d5bd945728a86f89685087c4948d977", func := "foliate/foliatelaw11.DeltaSelf", spec := "deltaSelf", unfollowed := true, recurses := true, named := ["foliate/schema.kindTexts"], apart := false, laid := [("foliate/schema.kindTexts", laid_foliate_schema_kindTexts)] }
def DeltaSelfSaid : Prop := deltaSelfRow.holds Tryz.pinned (OpenSpec.ofChange deltaSelfSpec)

/-- ITS FALSE NEIGHBOUR: 'it returns false'. Refute it at one input. -/
def deltaSelfWrong : ChangeSpec := { name := "deltaSelf", fn := fun _ => fun
  | [d1, d2] => { results := [.lit (.bool false)], args := [d1, d2] }
  | _ => none }
def DeltaSelfWrongFalsely : Prop := deltaSelfRow.holds Tryz.pinned (OpenSpec.ofChange deltaSelfWrong)

/-- 'foliatelaw11.DeltaChain': WHATEVER THE INPUT: true; the input reads as it did. -/
def deltaChainSpec : ChangeSpec := { name := "deltaChain", fn := fun _ => fun
  | [d1, d2, d3] => { results := [.lit (.bool true)], args := [d1, d2, d3] }
  | _ => none }
def deltaChainRow : OpenClaim := { program := "ytclbjbhpncpmbaagreatdoor", sum := "3e306f2d9f3dddaca0d8494c734f8b665d5bd945728a86f89685087c4948d977", func := "foliate/foliatelaw11.DeltaChain", spec := "deltaChain", unfollowed := true, recurses := true, named := ["foliate/schema.kindTexts"], apart := false, laid := [("foliate/schema.kindTexts", laid_foliate_schema_kindTexts)] }
def DeltaChainSaid : Prop := deltaChainRow.holds Tryz.pinned (OpenSpec.ofChange deltaChainSpec)

/-- ITS FALSE NEIGHBOUR: 'it returns false'. Refute it at one input. -/
def deltaChainWrong : ChangeSpec := { name := "deltaChain", fn := fun _ => fun
  | [d1, d2, d3] => { results := [.lit (.bool false)], args := [d1, d2, d3] }
  | _ => none }
def DeltaChainWrongFalsely : Prop := deltaChainRow.holds Tryz.pinned (OpenSpec.ofChange deltaChainWrong)

/-- 'foliatelaw11.DeltaSmall': WHATEVER THE INPUT: true; the input reads as it did. -/
def deltaSmallSpec : ChangeSpec := { name := "deltaSmall", fn := fun _ => fun
  | [d1, d2, d3, d4] => { results := [.lit (.bool true)], args := [d1, d2, d3, d4] }
  | _ => none }
def deltaSmallRow : OpenClaim := { program := "ytclbjbhpncpmbaagreatdoor", sum := "3e306f2d9f3dddaca0d8494c734f8b665d5bd945728a86f89685087c4948d977", func := "foliate/foliatelaw11.DeltaSmall", spec := "deltaSmall", unfollowed := true, recurses := true, named := ["foliate/schema.kindTexts"], apart := false, laid := [("foliate/schema.kindTexts", laid_foliate_schema_kindTexts)] }
def DeltaSmallSaid : Prop := deltaSmallRow.holds Tryz.pinned (OpenSpec.ofChange deltaSmallSpec)

/-- ITS FALSE NEIGHBOUR: 'it returns false'. Refute it at one input. -/
def deltaSmallWrong : ChangeSpec := { name := "deltaSmall", fn := fun _ => fun
  | [d1, d2, d3, d4] => { results := [.lit (.bool false)], args := [d1, d2, d3, d4] }
  | _ => none }
def DeltaSmallWrongFalsely : Prop := deltaSmallRow.holds Tryz.pinned (OpenSpec.ofChange deltaSmallWrong)

/- THE SECOND FORM. 'bulk': how many values and letters a reading holds, each counted each time it is reached (what is shared counts as often as it is met; a slice's spare places count too). A statement '..UptoSaid' is the law's where the arguments, and the package variables that the reading takes, are together of bulk at most 1048576: NARROWER than '..Said'. Prove '..Said' where nothing that the law and all that it calls make is longer than what came in: it says more and counts as full. Else prove '..UptoSaid'. A law counts once. -/
mutual
def uptoBulk {H : Type} : DataW H → Nat
  | .lit (.string bytes) => bytes.length + 1
  | .lit _ => 1
  | .nil => 1
  | .ptr d => uptoBulk d + 1
  | .slice elems spare => uptoBulkAll elems + uptoBulkAll spare + 1
  | .agg parts => uptoBulkAll parts + 1
  | .iface _ d => uptoBulk d + 1
  | .map entries => uptoBulkEntries entries + 1
  | .held _ => 1
def uptoBulkAll {H : Type} : List (DataW H) → Nat
  | [] => 0
  | d :: r => uptoBulk d + uptoBulkAll r
def uptoBulkEntries {H : Type} : List (Lit × DataW H) → Nat
  | [] => 0
  | x :: r => uptoBulkEntry x + uptoBulkEntries r
def uptoBulkEntry {H : Type} : Lit × DataW H → Nat
  | (.string bytes, d) => bytes.length + uptoBulk d + 1
  | (_, d) => uptoBulk d + 1
 end
def uptoSmall : (H : Type) → List (DataW H) → Bool := fun _ ds => decide (uptoBulkAll ds ≤ 1048576)
def OpenSpec.upto (s : _root_.Go.ChangeSpec) : _root_.Go.OpenSpec := { _root_.Go.OpenSpec.ofChange s with cond := some uptoSmall }

/-- 'foliatelaw11.DeltaTells', WHERE WHAT IT READS IS OF BULK AT MOST 1048576: true; the input reads as it did. -/
def deltaTellsUptoRow : OpenClaim := { program := "ytclbjbhpncpmbaagreatdoor", sum := "3e306f2d9f3dddaca0d8494c734f8b665d5bd945728a86f89685087c4948d977", func := "foliate/foliatelaw11.DeltaTells", spec := "deltaTells", unfollowed := true, recurses := true, named := ["foliate/schema.kindTexts"], apart := false, laid := [("foliate/schema.kindTexts", laid_foliate_schema_kindTexts)], narrowed := true }
def DeltaTellsUptoSaid : Prop := deltaTellsUptoRow.holds Tryz.pinned (OpenSpec.upto deltaTellsSpec)

/-- 'foliatelaw11.DeltaMakes', WHERE WHAT IT READS IS OF BULK AT MOST 1048576: true; the input reads as it did. -/
def deltaMakesUptoRow : OpenClaim := { program := "ytclbjbhpncpmbaagreatdoor", sum := "3e306f2d9f3dddaca0d8494c734f8b665d5bd945728a86f89685087c4948d977", func := "foliate/foliatelaw11.DeltaMakes", spec := "deltaMakes", unfollowed := true, recurses := true, named := ["foliate/schema.kindTexts"], apart := false, laid := [("foliate/schema.kindTexts", laid_foliate_schema_kindTexts)], narrowed := true }
def DeltaMakesUptoSaid : Prop := deltaMakesUptoRow.holds Tryz.pinned (OpenSpec.upto deltaMakesSpec)

/-- 'foliatelaw11.DeltaBase', WHERE WHAT IT READS IS OF BULK AT MOST 1048576: true; the input reads as it did. -/
def deltaBaseUptoRow : OpenClaim := { program := "ytclbjbhpncpmbaagreatdoor", sum := "3e306f2d9f3dddaca0d8494c734f8b665d5bd945728a86f89685087c4948d977", func := "foliate/foliatelaw11.DeltaBase", spec := "deltaBase", unfollowed := true, recurses := true, named := ["foliate/schema.kindTexts"], apart := false, laid := [("foliate/schema.kindTexts", laid_foliate_schema_kindTexts)], narrowed := true }
def DeltaBaseUptoSaid : Prop := deltaBaseUptoRow.holds Tryz.pinned (OpenSpec.upto deltaBaseSpec)

/-- 'foliatelaw11.DeltaSelf', WHERE WHAT IT READS IS OF BULK AT MOST 1048576: true; the input reads as it did. -/
def deltaSelfUptoRow : OpenClaim := { program := "ytclbjbhpncpmbaagreatdoor", sum := "3e306f2d9f3dddaca0d8494c734f8b665d5bd945728a86f89685087c4948d977", func := "foliate/foliatelaw11.DeltaSelf", spec := "deltaSelf", unfollowed := true, recurses := true, named := ["foliate/schema.kindTexts"], apart := false, laid := [("foliate/schema.kindTexts", laid_foliate_schema_kindTexts)], narrowed := true }
def DeltaSelfUptoSaid : Prop := deltaSelfUptoRow.holds Tryz.pinned (OpenSpec.upto deltaSelfSpec)

/-- 'foliatelaw11.DeltaChain', WHERE WHAT IT READS IS OF BULK AT MOST 1048576: true; the input reads as it did. -/
def deltaChainUptoRow : OpenClaim := { program := "ytclbjbhpncpmbaagreatdoor", sum := "3e306f2d9f3dddaca0d8494c734f8b665d5bd945728a86f89685087c4948d977", func := "foliate/foliatelaw11.DeltaChain", spec := "deltaChain", unfollowed := true, recurses := true, named := ["foliate/schema.kindTexts"], apart := false, laid := [("foliate/schema.kindTexts", laid_foliate_schema_kindTexts)], narrowed := true }
def DeltaChainUptoSaid : Prop := deltaChainUptoRow.holds Tryz.pinned (OpenSpec.upto deltaChainSpec)

/-- 'foliatelaw11.DeltaSmall', WHERE WHAT IT READS IS OF BULK AT MOST 1048576: true; the input reads as it did. -/
def deltaSmallUptoRow : OpenClaim := { program := "ytclbjbhpncpmbaagreatdoor", sum := "3e306f2d9f3dddaca0d8494c734f8b665d5bd945728a86f89685087c4948d977", func := "foliate/foliatelaw11.DeltaSmall", spec := "deltaSmall", unfollowed := true, recurses := true, named := ["foliate/schema.kindTexts"], apart := false, laid := [("foliate/schema.kindTexts", laid_foliate_schema_kindTexts)], narrowed := true }
def DeltaSmallUptoSaid : Prop := deltaSmallUptoRow.holds Tryz.pinned (OpenSpec.upto deltaSmallSpec)

end Rows
end Go.Proofs.YtclbjbhpncpmbaaGreatDoor
