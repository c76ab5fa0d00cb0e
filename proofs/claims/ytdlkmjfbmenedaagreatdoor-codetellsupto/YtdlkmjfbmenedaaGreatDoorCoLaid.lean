/- What the row's list gives of the variables errors.errorType and schema.kindTexts, and a world that meets it. No condition. -/
import Derived.Test.YtdlkmjfbmenedaaGreatDoorRows
import Derived.Test.YtdlkmjfbmenedaaGreatDoorGFlow
import Derived.Test.YtdlkmjfbmenedaaGreatDoorGText
import Derived.ChangeSame
import Derived.ChangeVars
import Derived.JoinedOf
import Derived.RowKit
import Derived.RowKitTokens
import Derived.LaidLaws
import Derived.LaidHandle
import Derived.Stop.Joined
import Derived.SevenTiedAt
import Derived.OpenShut
import Derived.Test.YtdlkmjfbmenedaaGreatDoorAl
set_option maxRecDepth 100000
namespace Go.Proofs.YtdlkmjfbmenedaaGreatDoor
open Go.ChangeShapes Go.WideShapes Go.RowKit
theorem gErr : Tryz.prog.globalNamed "errors.errorType" = some 0 := by kernel_rfl
theorem tErr : (Tryz.prog.cutTypes.find? (·.1 == "internal/reflectlite.rtype")).map (·.2) = some 198 := by kernel_rfl
theorem oneErr:((List.range 287).filter fun t=>Tryz.prog.rowNamed t [101,114,114,111,114])=[121]:=by kernel_rfl
theorem nErr:Tryz.prog.types.size=287:=by kernel_rfl
theorem han_of {W : World} (h : handlesMet Tryz.prog [("errors.errorType", Rows.laid_errors_errorType)] W) : Han W := by
 obtain⟨name,u,ty,e1,e2,e3,e4,e5⟩:=h _ (List.mem_singleton.2 rfl)
 have en:name=[101,114,114,111,114]:=(Option.some.inj e1).symm
 subst en
 obtain rfl:=Option.some.inj (tErr.symm.trans e2)
 have hm:ty∈(List.range 287).filter fun t=>Tryz.prog.rowNamed t [101,114,114,111,114]:=List.mem_filter.2 ⟨List.mem_range.2 (by rw[← nErr];exact e3),e4⟩
 rw[oneErr] at hm
 obtain rfl:=List.mem_singleton.1 hm
 have hh:typeHandle Tryz.prog 121=.pointer (some ⟨2,121,none⟩):=by kernel_rfl
 rw[hh] at e5
 show W.cell? ⟨0,0,none⟩=_
 simpa using World.var?_cell gErr e5 0
theorem gKt : Tryz.prog.globalNamed "foliate/schema.kindTexts" = some 1 := by kernel_rfl
theorem tKt:(Tryz.prog.globals[1]?).map (·.type)=some 233:=by kernel_rfl
theorem str_of_bytes {s:ByteArray} {l:List UInt8} (h:s.data.toList=l):s=⟨l.toArray⟩:=by
 apply ByteArray.ext
 rw[← h]
theorem kt_of {W : World} (h : laidMet Tryz.prog [("foliate/schema.kindTexts", Rows.laid_foliate_schema_kindTexts)] W) : Kt W := by
 obtain⟨ps,⟨g,t,cs,fuel,p,q,e1,e2,e3,e4,_,e6⟩,_,hc⟩:=h
 obtain rfl:=Option.some.inj (gKt.symm.trans e1)
 obtain rfl:=Option.some.inj (tKt.symm.trans e2)
 obtain⟨xs,m,_,hx,hl,hxl,hel⟩:=DataW.trod_array Tryz.underlying233 e4
 have c6:Tryz.prog.cellsOf 233=6:=by kernel_rfl
 have c1:Tryz.prog.cellsOf 9=1:=by kernel_rfl
 rw[c6] at hl
 rw[c1] at hel
 have hmap:xs.map (·.1)=[.lit (.string [105,56]),.lit (.string [105,49,54]),.lit (.string [105,51,50]),.lit (.string [105,54,52]),.lit (.string [116]),.lit (.string [42])]:=by
  have:=congrArg Prod.fst hx
  simp only[Rows.laid_foliate_schema_kindTexts] at this
  injection this with this
  exact this.symm
 have each:∀ (i:Nat) (l:List UInt8),i<6→(xs.map (·.1))[i]?=some (.lit (.string l))→cs.toList[i]?=some (.string ⟨l.toArray⟩):=fun i l hi hd=>by
  have h1:=hel i hi
  rw[List.getElem?_map] at hd
  cases hxi:xs[i]? with
  | none=>rw[hxi] at hd;cases hd
  | some y=>
   rw[hxi] at hd h1
   obtain⟨s,h2,h3,_⟩:=DataW.trod_string Tryz.underlying9 h1
   rw[h3] at hd
   simp only[Option.map_some,Option.some.injEq] at hd
   injection hd with hd
   injection hd with hd
   have h5:=str_of_bytes hd
   subst h5
   have h6:=congrArg (fun l:List Value=>l[0]?) h2
   simpa [List.getElem?_take,List.getElem?_drop] using h6
 rw[hmap] at each
 have hcs:cs.toList=kts:=by
  apply List.ext_getElem?
  intro i
  by_cases hi:i<6
  ·have h7:i=0∨i=1∨i=2∨i=3∨i=4∨i=5:=by omega
   rcases h7 with rfl | rfl | rfl | rfl | rfl | rfl
   all_goals exact each _ _ (by omega) rfl
  ·rw[List.getElem?_eq_none (by omega),List.getElem?_eq_none (by show 6≤i;omega)]
 obtain⟨⟨c,t,hb⟩,_⟩:=hc 1 0 (by
  rw[e6,List.mem_append,List.mem_append]
  left;left
  have:cs.size=6:=by simpa using hl
  rw[this]
  decide)
 simp only[World.var?,gKt,Option.bind_some,hb] at e3
 injection e3 with e3
 subst e3
 refine⟨t,?_⟩
 unfold Blk
 rw[hb,← hcs]
theorem han_of_laid {W : World} (h : laidMetH Tryz.prog [("errors.errorType", Rows.laid_errors_errorType), ("foliate/schema.kindTexts", Rows.laid_foliate_schema_kindTexts)] W) : Kt W ∧ Han W := by
 have h' : laidMet Tryz.prog [("foliate/schema.kindTexts", Rows.laid_foliate_schema_kindTexts)] W ∧ handlesMet Tryz.prog [("errors.errorType", Rows.laid_errors_errorType)] W := h
 exact⟨kt_of h'.1,han_of h'.2⟩
def layErr:Obj→Obj
 | .cells _ t frozen=>.cells #[.iface 198 (.agg #[.pointer (some ⟨2,121,none⟩)])] t frozen
 | o=>o
def layKt:Obj→Obj
 | .cells _ t frozen=>.cells #[.string ⟨#[105,56]⟩,.string ⟨#[105,49,54]⟩,.string ⟨#[105,51,50]⟩,.string ⟨#[105,54,52]⟩,.string ⟨#[116]⟩,.string ⟨#[42]⟩] t frozen
 | o=>o
noncomputable def laidWorld (os:Os):World:=
 { World.holding Tryz.prog os ⟨#[],#[],[]⟩ with heap:=((World.holding Tryz.prog os ⟨#[],#[],[]⟩).heap.modify 0 layErr).modify 1 layKt }
theorem laidWorld_met (os : Os) (args : Array Value) : laidMetH Tryz.prog [("errors.errorType", Rows.laid_errors_errorType), ("foliate/schema.kindTexts", Rows.laid_foliate_schema_kindTexts)] ((laidWorld os).forCall (fun _ _ => 0) ⟨#[], args, []⟩).memory :=
 laidMetH_of_parts (laidMet_of_run' 8 (by kernel_rfl) (by kernel_rfl)) (by kernel_rfl)
end Go.Proofs.YtdlkmjfbmenedaaGreatDoor
