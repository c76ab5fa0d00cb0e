/- What the row's list gives of the variable schema.kindTexts, and a world that meets it. No condition. -/
import Derived.Test.YtnljjnkindjeoaaGreatDoorRows
import Derived.Test.YtnljjnkindjeoaaGreatDoorGText
import Derived.ChangeSame
import Derived.ChangeVars
import Derived.JoinedOf
import Derived.RowKit
import Derived.RowKitTokens
import Derived.LaidLaws
import Derived.LaidHandle
import Derived.Stop.Joined
import Derived.SevenTiedAt
import Derived.OpenShut
import Derived.Test.YtnljjnkindjeoaaGreatDoorAl
set_option maxRecDepth 100000
namespace Go.Proofs.YtnljjnkindjeoaaGreatDoor
open Go.ChangeShapes Go.WideShapes Go.RowKit
theorem gKt : Tryz.prog.globalNamed "foliate/schema.kindTexts" = some 0 := by kernel_rfl
theorem tKt:(Tryz.prog.globals[0]?).map (·.type)=some 198:=by kernel_rfl
theorem str_of_bytes {s:ByteArray} {l:List UInt8} (h:s.data.toList=l):s=⟨l.toArray⟩:=by
 apply ByteArray.ext
 rw[← h]
theorem han_of_laid {W : World} (h : laidMetH Tryz.prog [("foliate/schema.kindTexts", Rows.laid_foliate_schema_kindTexts)] W) : Kt W := by
 have h' : laidMet Tryz.prog [("foliate/schema.kindTexts", Rows.laid_foliate_schema_kindTexts)] W := h
 obtain⟨ps,⟨g,t,cs,fuel,p,q,e1,e2,e3,e4,_,e6⟩,_,hc⟩:=h'
 obtain rfl:=Option.some.inj (gKt.symm.trans e1)
 obtain rfl:=Option.some.inj (tKt.symm.trans e2)
 obtain⟨xs,m,_,hx,hl,hxl,hel⟩:=DataW.trod_array Tryz.underlying198 e4
 have c6:Tryz.prog.cellsOf 198=6:=by kernel_rfl
 have c1:Tryz.prog.cellsOf 9=1:=by kernel_rfl
 rw[c6] at hl
 rw[c1] at hel
 have hmap:xs.map (·.1)=[.lit (.string [105,56]),.lit (.string [105,49,54]),.lit (.string [105,51,50]),.lit (.string [105,54,52]),.lit (.string [116]),.lit (.string [42])]:=by
  have:=congrArg Prod.fst hx
  simp only[Rows.laid_foliate_schema_kindTexts] at this
  injection this with this
  exact this.symm
 have each:∀ (i:Nat) (l:List UInt8),i<6→(xs.map (·.1))[i]?=some (.lit (.string l))→cs.toList[i]?=some (.string ⟨l.toArray⟩):=fun i l hi hd=>by
  have h1:=hel i hi
  rw[List.getElem?_map] at hd
  cases hxi:xs[i]? with
  | none=>rw[hxi] at hd;cases hd
  | some y=>
   rw[hxi] at hd h1
   obtain⟨s,h2,h3,_⟩:=DataW.trod_string Tryz.underlying9 h1
   rw[h3] at hd
   simp only[Option.map_some,Option.some.injEq] at hd
   injection hd with hd
   injection hd with hd
   have h5:=str_of_bytes hd
   subst h5
   have h6:=congrArg (fun l:List Value=>l[0]?) h2
   simpa [List.getElem?_take,List.getElem?_drop] using h6
 rw[hmap] at each
 have hcs:cs.toList=kts:=by
  apply List.ext_getElem?
  intro i
  by_cases hi:i<6
  ·have h7:i=0∨i=1∨i=2∨i=3∨i=4∨i=5:=by omega
   rcases h7 with rfl | rfl | rfl | rfl | rfl | rfl
   all_goals exact each _ _ (by omega) rfl
  ·rw[List.getElem?_eq_none (by omega),List.getElem?_eq_none (by show 6≤i;omega)]
 obtain⟨⟨c,t,hb⟩,_⟩:=hc 0 0 (by
  rw[e6,List.mem_append,List.mem_append]
  left;left
  have:cs.size=6:=by simpa using hl
  rw[this]
  decide)
 simp only[World.var?,gKt,Option.bind_some,hb] at e3
 injection e3 with e3
 subst e3
 refine⟨t,?_⟩
 unfold Blk
 rw[hb,← hcs]
noncomputable def laidWorld (os:Os):World:=
 { World.holding Tryz.prog os ⟨#[],#[],[]⟩ with heap:=(World.holding Tryz.prog os ⟨#[],#[],[]⟩).heap.modify 0 fun
   | .cells _ t frozen=>.cells #[.string ⟨#[105,56]⟩,.string ⟨#[105,49,54]⟩,.string ⟨#[105,51,50]⟩,.string ⟨#[105,54,52]⟩,.string ⟨#[116]⟩,.string ⟨#[42]⟩] t frozen
   | o=>o }
end Go.Proofs.YtnljjnkindjeoaaGreatDoor
