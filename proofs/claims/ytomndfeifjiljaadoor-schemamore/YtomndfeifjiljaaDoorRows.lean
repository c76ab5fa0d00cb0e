/-
  NARROWER THAN 'FOR EVERY INPUT', by the rows' own cells (each row's printed sentence says how): SchemaTells: laid · SchemaBack: laid · SchemaNames: laid · SchemaMore: laid · SchemaParts: laid · SchemaTwice: laid.
  DERIVED. THE GIVEN ROWS OF THIS SEAT. 6 by the template 'for every input the law returns true; each argument reads behind the call as it read before'; 0 by the template 'total and deterministic' (their statements: YtomndfeifjiljaaDoorTotals.lean).
  GIVEN WITH THE SEED: the statements are not yours to turn. If you find one false, say at which input.
  Laid BY PROGRAM, IN A SANDBOX (cutbox-rows.mjs): the forced cells as the released guide's own fill.sh prints them over the translation 6565082d5d0cc911… (all of the seat's roots in one cut). By AI agents, Wed Nov 11 2026. No macro, syntax, notation, axiom, sorry.
-/
import Derived.Test.YtomndfeifjiljaaDoorChecked
import GoSem.Claim
import GoSem.ClaimJoined
import GoSem.ClaimMapViews
import Derived.JoinedTies
import Derived.KernelRfl
namespace Go.Proofs.YtomndfeifjiljaaDoor
/- THE CELL 'sum', in the pinned program and in every row, IS THE sha256 OF THE DUMP (.gsa) THAT YtomndfeifjiljaaDoorProg.lean LOADS. Nothing in Lean hashes anything: it is a label: what it is worth is what the hold of that sum in a sandbox is worth. -/
noncomputable def Tryd.pinned : Pinned := { name := "ytomndfeifjiljaadoor", sum := "6565082d5d0cc911b25f84b0b13320dfe6e9a550514eddcf18cd081204f652e5", checked := Tryd.checked }
namespace Rows
def none {H : Type} : Left H := { results := [], args := [] }

/- WHAT THE LISTED PACKAGE-LEVEL VARIABLES READ AS WHEN THE CALL BEGINS. Each datum BY PROGRAM (the guide's laid-datum.mjs) off the statement by which the dump's own 'gosem.cut.vars' lays the variable. In a bare row this is a premise. The card (YtomndfeifjiljaaDoorCards.lean) ties it to the program's text. -/
def laid_foliate_schema_kindTexts {H : Type} : DataW H := .agg [.lit (.string [105, 56]), .lit (.string [105, 49, 54]), .lit (.string [105, 51, 50]), .lit (.string [105, 54, 52]), .lit (.string [116]), .lit (.string [42])]

/-- 'foliatelaw06.SchemaTells': WHATEVER THE INPUT: true; the input reads as it did. -/
def schemaTellsSpec : ChangeSpec := { name := "schemaTells", fn := fun _ => fun
  | [d1, d2, d3, d4] => { results := [.lit (.bool true)], args := [d1, d2, d3, d4] }
  | _ => none }
def schemaTellsRow : OpenClaim := { program := "ytomndfeifjiljaadoor", sum := "6565082d5d0cc911b25f84b0b13320dfe6e9a550514eddcf18cd081204f652e5", func := "foliate/foliatelaw06.SchemaTells", spec := "schemaTells", unfollowed := true, recurses := true, named := ["foliate/schema.kindTexts"], apart := false, laid := [("foliate/schema.kindTexts", laid_foliate_schema_kindTexts)] }
def SchemaTellsSaid : Prop := schemaTellsRow.holds Tryd.pinned (OpenSpec.ofChange schemaTellsSpec)

/-- ITS FALSE NEIGHBOUR: 'it returns false'. Refute it at one input. -/
def schemaTellsWrong : ChangeSpec := { name := "schemaTells", fn := fun _ => fun
  | [d1, d2, d3, d4] => { results := [.lit (.bool false)], args := [d1, d2, d3, d4] }
  | _ => none }
def SchemaTellsWrongFalsely : Prop := schemaTellsRow.holds Tryd.pinned (OpenSpec.ofChange schemaTellsWrong)

/-- 'foliatelaw06.SchemaBack': WHATEVER THE INPUT: true; the input reads as it did. -/
def schemaBackSpec : ChangeSpec := { name := "schemaBack", fn := fun _ => fun
  | [d1, d2, d3] => { results := [.lit (.bool true)], args := [d1, d2, d3] }
  | _ => none }
def schemaBackRow : OpenClaim := { program := "ytomndfeifjiljaadoor", sum := "6565082d5d0cc911b25f84b0b13320dfe6e9a550514eddcf18cd081204f652e5", func := "foliate/foliatelaw06.SchemaBack", spec := "schemaBack", unfollowed := true, recurses := true, named := ["foliate/schema.kindTexts"], apart := false, laid := [("foliate/schema.kindTexts", laid_foliate_schema_kindTexts)] }
def SchemaBackSaid : Prop := schemaBackRow.holds Tryd.pinned (OpenSpec.ofChange schemaBackSpec)

/-- ITS FALSE NEIGHBOUR: 'it returns false'. Refute it at one input. -/
def schemaBackWrong : ChangeSpec := { name := "schemaBack", fn := fun _ => fun
  | [d1, d2, d3] => { results := [.lit (.bool false)], args := [d1, d2, d3] }
  | _ => none }
def SchemaBackWrongFalsely : Prop := schemaBackRow.holds Tryd.pinned (OpenSpec.ofChange schemaBackWrong)

/-- 'foliatelaw06.SchemaNames': WHATEVER THE INPUT: true; the input reads as it did. -/
def schemaNamesSpec : ChangeSpec := { name := "schemaNames", fn := fun _ => fun
  | [d1, d2, d3, d4] => { results := [.lit (.bool true)], args := [d1, d2, d3, d4] }
  | _ => none }
def schemaNamesRow : OpenClaim := { program := "ytomndfeifjiljaadoor", sum := "6565082d5d0cc911b25f84b0b13320dfe6e9a550514eddcf18cd081204f652e5", func := "foliate/foliatelaw06.SchemaNames", spec := "schemaNames", unfollowed := true, recurses := true, named := ["foliate/schema.kindTexts"], apart := false, laid := [("foliate/schema.kindTexts", laid_foliate_schema_kindTexts)] }
def SchemaNamesSaid : Prop := schemaNamesRow.holds Tryd.pinned (OpenSpec.ofChange schemaNamesSpec)

/-- ITS FALSE NEIGHBOUR: 'it returns false'. Refute it at one input. -/
def schemaNamesWrong : ChangeSpec := { name := "schemaNames", fn := fun _ => fun
  | [d1, d2, d3, d4] => { results := [.lit (.bool false)], args := [d1, d2, d3, d4] }
  | _ => none }
def SchemaNamesWrongFalsely : Prop := schemaNamesRow.holds Tryd.pinned (OpenSpec.ofChange schemaNamesWrong)

/-- 'foliatelaw06.SchemaMore': WHATEVER THE INPUT: true; the input reads as it did. -/
def schemaMoreSpec : ChangeSpec := { name := "schemaMore", fn := fun _ => fun
  | [d1, d2] => { results := [.lit (.bool true)], args := [d1, d2] }
  | _ => none }
def schemaMoreRow : OpenClaim := { program := "ytomndfeifjiljaadoor", sum := "6565082d5d0cc911b25f84b0b13320dfe6e9a550514eddcf18cd081204f652e5", func := "foliate/foliatelaw06.SchemaMore", spec := "schemaMore", unfollowed := true, recurses := true, named := ["foliate/schema.kindTexts"], apart := false, laid := [("foliate/schema.kindTexts", laid_foliate_schema_kindTexts)] }
def SchemaMoreSaid : Prop := schemaMoreRow.holds Tryd.pinned (OpenSpec.ofChange schemaMoreSpec)

/-- ITS FALSE NEIGHBOUR: 'it returns false'. Refute it at one input. -/
def schemaMoreWrong : ChangeSpec := { name := "schemaMore", fn := fun _ => fun
  | [d1, d2] => { results := [.lit (.bool false)], args := [d1, d2] }
  | _ => none }
def SchemaMoreWrongFalsely : Prop := schemaMoreRow.holds Tryd.pinned (OpenSpec.ofChange schemaMoreWrong)

/-- 'foliatelaw06.SchemaParts': WHATEVER THE INPUT: true; the input reads as it did. -/
def schemaPartsSpec : ChangeSpec := { name := "schemaParts", fn := fun _ => fun
  | [d1, d2] => { results := [.lit (.bool true)], args := [d1, d2] }
  | _ => none }
def schemaPartsRow : OpenClaim := { program := "ytomndfeifjiljaadoor", sum := "6565082d5d0cc911b25f84b0b13320dfe6e9a550514eddcf18cd081204f652e5", func := "foliate/foliatelaw06.SchemaParts", spec := "schemaParts", unfollowed := true, recurses := true, named := ["foliate/schema.kindTexts"], apart := false, laid := [("foliate/schema.kindTexts", laid_foliate_schema_kindTexts)] }
def SchemaPartsSaid : Prop := schemaPartsRow.holds Tryd.pinned (OpenSpec.ofChange schemaPartsSpec)

/-- ITS FALSE NEIGHBOUR: 'it returns false'. Refute it at one input. -/
def schemaPartsWrong : ChangeSpec := { name := "schemaParts", fn := fun _ => fun
  | [d1, d2] => { results := [.lit (.bool false)], args := [d1, d2] }
  | _ => none }
def SchemaPartsWrongFalsely : Prop := schemaPartsRow.holds Tryd.pinned (OpenSpec.ofChange schemaPartsWrong)

/-- 'foliatelaw06.SchemaTwice': WHATEVER THE INPUT: true; the input reads as it did. -/
def schemaTwiceSpec : ChangeSpec := { name := "schemaTwice", fn := fun _ => fun
  | [d1, d2] => { results := [.lit (.bool true)], args := [d1, d2] }
  | _ => none }
def schemaTwiceRow : OpenClaim := { program := "ytomndfeifjiljaadoor", sum := "6565082d5d0cc911b25f84b0b13320dfe6e9a550514eddcf18cd081204f652e5", func := "foliate/foliatelaw06.SchemaTwice", spec := "schemaTwice", unfollowed := true, recurses := true, named := ["foliate/schema.kindTexts"], apart := false, laid := [("foliate/schema.kindTexts", laid_foliate_schema_kindTexts)] }
def SchemaTwiceSaid : Prop := schemaTwiceRow.holds Tryd.pinned (OpenSpec.ofChange schemaTwiceSpec)

/-- ITS FALSE NEIGHBOUR: 'it returns false'. Refute it at one input. -/
def schemaTwiceWrong : ChangeSpec := { name := "schemaTwice", fn := fun _ => fun
  | [d1, d2] => { results := [.lit (.bool false)], args := [d1, d2] }
  | _ => none }
def SchemaTwiceWrongFalsely : Prop := schemaTwiceRow.holds Tryd.pinned (OpenSpec.ofChange schemaTwiceWrong)

/- THE SECOND FORM. 'bulk': how many values and letters a reading holds, each counted each time it is reached (what is shared counts as often as it is met; a slice's spare places count too). A statement '..UptoSaid' is the law's where the arguments, and the package variables that the reading takes, are together of bulk at most 1048576: NARROWER than '..Said'. Prove '..Said' where nothing that the law and all that it calls make is longer than what came in: it says more and counts as full. Else prove '..UptoSaid'. A law counts once. -/
mutual
def uptoBulk {H : Type} : DataW H → Nat
  | .lit (.string bytes) => bytes.length + 1
  | .lit _ => 1
  | .nil => 1
  | .ptr d => uptoBulk d + 1
  | .slice elems spare => uptoBulkAll elems + uptoBulkAll spare + 1
  | .agg parts => uptoBulkAll parts + 1
  | .iface _ d => uptoBulk d + 1
  | .map entries => uptoBulkEntries entries + 1
  | .held _ => 1
def uptoBulkAll {H : Type} : List (DataW H) → Nat
  | [] => 0
  | d :: r => uptoBulk d + uptoBulkAll r
def uptoBulkEntries {H : Type} : List (Lit × DataW H) → Nat
  | [] => 0
  | x :: r => uptoBulkEntry x + uptoBulkEntries r
def uptoBulkEntry {H : Type} : Lit × DataW H → Nat
  | (.string bytes, d) => bytes.length + uptoBulk d + 1
  | (_, d) => uptoBulk d + 1
 end
def uptoSmall : (H : Type) → List (DataW H) → Bool := fun _ ds => decide (uptoBulkAll ds ≤ 1048576)
def OpenSpec.upto (s : _root_.Go.ChangeSpec) : _root_.Go.OpenSpec := { _root_.Go.OpenSpec.ofChange s with cond := some uptoSmall }

/-- 'foliatelaw06.SchemaTells', WHERE WHAT IT READS IS OF BULK AT MOST 1048576: true; the input reads as it did. -/
def schemaTellsUptoRow : OpenClaim := { program := "ytomndfeifjiljaadoor", sum := "6565082d5d0cc911b25f84b0b13320dfe6e9a550514eddcf18cd081204f652e5", func := "foliate/foliatelaw06.SchemaTells", spec := "schemaTells", unfollowed := true, recurses := true, named := ["foliate/schema.kindTexts"], apart := false, laid := [("foliate/schema.kindTexts", laid_foliate_schema_kindTexts)], narrowed := true }
def SchemaTellsUptoSaid : Prop := schemaTellsUptoRow.holds Tryd.pinned (OpenSpec.upto schemaTellsSpec)

/-- 'foliatelaw06.SchemaBack', WHERE WHAT IT READS IS OF BULK AT MOST 1048576: true; the input reads as it did. -/
def schemaBackUptoRow : OpenClaim := { program := "ytomndfeifjiljaadoor", sum := "6565082d5d0cc911b25f84b0b13320dfe6e9a550514eddcf18cd081204f652e5", func := "foliate/foliatelaw06.SchemaBack", spec := "schemaBack", unfollowed := true, recurses := true, named := ["foliate/schema.kindTexts"], apart := false, laid := [("foliate/schema.kindTexts", laid_foliate_schema_kindTexts)], narrowed := true }
def SchemaBackUptoSaid : Prop := schemaBackUptoRow.holds Tryd.pinned (OpenSpec.upto schemaBackSpec)

/-- 'foliatelaw06.SchemaNames', WHERE WHAT IT READS IS OF BULK AT MOST 1048576: true; the input reads as it did. -/
def schemaNamesUptoRow : OpenClaim := { program := "ytomndfeifjiljaadoor", sum := "6565082d5d0cc911b25f84b0b13320dfe6e9a550514eddcf18cd081204f652e5", func := "foliate/foliatelaw06.SchemaNames", spec := "schemaNames", unfollowed := true, recurses := true, named := ["foliate/schema.kindTexts"], apart := false, laid := [("foliate/schema.kindTexts", laid_foliate_schema_kindTexts)], narrowed := true }
def SchemaNamesUptoSaid : Prop := schemaNamesUptoRow.holds Tryd.pinned (OpenSpec.upto schemaNamesSpec)

/-- 'foliatelaw06.SchemaMore', WHERE WHAT IT READS IS OF BULK AT MOST 1048576: true; the input reads as it did. -/
def schemaMoreUptoRow : OpenClaim := { program := "ytomndfeifjiljaadoor", sum := "6565082d5d0cc911b25f84b0b13320dfe6e9a550514eddcf18cd081204f652e5", func := "foliate/foliatelaw06.SchemaMore", spec := "schemaMore", unfollowed := true, recurses := true, named := ["foliate/schema.kindTexts"], apart := false, laid := [("foliate/schema.kindTexts", laid_foliate_schema_kindTexts)], narrowed := true }
def SchemaMoreUptoSaid : Prop := schemaMoreUptoRow.holds Tryd.pinned (OpenSpec.upto schemaMoreSpec)

/-- 'foliatelaw06.SchemaParts', WHERE WHAT IT READS IS OF BULK AT MOST 1048576: true; the input reads as it did. -/
def schemaPartsUptoRow : OpenClaim := { program := "ytomndfeifjiljaadoor", sum := "6565082d5d0cc911b25f84b0b13320dfe6e9a550514eddcf18cd081204f652e5", func := "foliate/foliatelaw06.SchemaParts", spec := "schemaParts", unfollowed := true, recurses := true, named := ["foliate/schema.kindTexts"], apart := false, laid := [("foliate/schema.kindTexts", laid_foliate_schema_kindTexts)], narrowed := true }
def SchemaPartsUptoSaid : Prop := schemaPartsUptoRow.holds Tryd.pinned (OpenSpec.upto schemaPartsSpec)

/-- 'foliatelaw06.SchemaTwice', WHERE WHAT IT READS IS OF BULK AT MOST 1048576: true; the input reads as it did. -/
def schemaTwiceUptoRow : OpenClaim := { program := "ytomndfeifjiljaadoor", sum := "6565082d5d0cc911b25f84b0b13320dfe6e9a550514eddcf18cd081204f652e5", func := "foliate/foliatelaw06.SchemaTwice", spec := "schemaTwice", unfollowed := true, recurses := true, named := ["foliate/schema.kindTexts"], apart := false, laid := [("foliate/schema.kindTexts", laid_foliate_schema_kindTexts)], narrowed := true }
def SchemaTwiceUptoSaid : Prop := schemaTwiceUptoRow.holds Tryd.pinned (OpenSpec.upto schemaTwiceSpec)

end Rows
end Go.Proofs.YtomndfeifjiljaaDoor
