/- the law CodeTells returns true at every input whose bulk is at most 1048576 (the given second form), and each argument reads afterwards as it read before; the card ties the listed variables errors.errorType and foliate/schema.kindTexts to the program's text. Condition: that bound. -/
import Derived.Test.YtdlkmjfbmenedaaGreatDoorRows
import Derived.WalkKit
import Derived.ProofKit
import Derived.OpenShut
import Derived.ShutString
import Derived.ChangeOld
import Derived.Below
import Derived.Test.YtdlkmjfbmenedaaGreatDoorScBulk
import Derived.Deep.DeepHandedRow
import Derived.Test.YtdlkmjfbmenedaaGreatDoorGGen
import Derived.Test.YtdlkmjfbmenedaaGreatDoorCoLawTells
import Derived.Test.YtdlkmjfbmenedaaGreatDoorCards
import Derived.Test.YtdlkmjfbmenedaaGreatDoorTie
import Derived.Test.YtdlkmjfbmenedaaGreatDoorCoLaid
import Derived.Test.YtdlkmjfbmenedaaGreatDoorAl
set_option maxRecDepth 100000
namespace Go.Proofs.YtdlkmjfbmenedaaGreatDoor.codeTells
open Go.ChangeShapes Go.WideShapes Go.ChangeAt Go.RowKit
open Go.ChangeMaps (open_string shut_string)
set_option linter.unusedVariables false
theorem own:ownKnob Tryz.prog.godebug=none:=by kernel_rfl
theorem laidOut:laidOutB Tryz.prog=true:=by kernel_rfl
theorem reads (os:Os) {H:Type} (enc:TypeId × Value→H):∃ places,DataW.whole enc Tryz.prog ((laidWorld os).forCall (fun _ _=>0) ⟨#[],#[.agg #[.slice none 0 0,.slice none 0 0,.slice none 0 0],.slice none 0 0],[]⟩).memory Tryz.f3.params.toList Rows.codeTellsSpec.vars false (#[.agg #[.slice none 0 0,.slice none 0 0,.slice none 0 0],.slice none 0 0]:Array Value).toList 8=some ([.agg [.agg [.nil],.nil,.nil],.nil],[],places):=
 ⟨[],by kernel_rfl⟩
theorem lifted (os:Os) (started:os.Started) (H:Type) (enc:TypeId × Value→H) (F:Stop.Interp):
  ReturnsInHanded {} Tryz.checked os 3 .any ((Rows.OpenSpec.upto Rows.codeTellsSpec).preRow enc Tryz.prog Tryz.f3 Rows.codeTellsUptoRow.domain false Rows.codeTellsUptoRow.laid) (((Rows.OpenSpec.upto Rows.codeTellsSpec).at F).post enc Tryz.prog Tryz.f3 false true false false):=by
 obtain⟨places,hx⟩:=reads os enc
 refine returnsInHanded_of_row (C:=Tryz.checked) (s:=Rows.OpenSpec.upto Rows.codeTellsSpec) own started (by kernel_rfl) Tryz.func3
  (witness_row_at (enc:=enc) (C:=Tryz.checked) false (laidWorld os) #[.agg #[.slice none 0 0,.slice none 0 0,.slice none 0 0],.slice none 0 0] rfl (by kernel_rfl) (by kernel_rfl) (by kernel_rfl)
   (OpenSpec.preRow_of_cond 8 hx (by kernel_rfl) (fun k hk=>by cases hk;kernel_rfl) (by kernel_rfl) (laidWorld_met os _))) ?_
 intro W base args ds gs before hval0 hW hcnd hcond _ hL _ _
 have hval:∀ (j:Nat) t v,Tryz.f3.params[j]?=some t→args[j]?=some v→Value.okWide Tryz.prog W .any base t v:=hval0
 have hW':=hW
 obtain⟨p,q,hA0,hV,rfl,hfz,hnd⟩:=hW
 have hA:DataW.TrodAll enc Tryz.prog W 0 (fun _=>true) true Tryz.f3.params.toList args.toList ds p:=hA0
 rw[Tryz.params3] at hA hval
 obtain⟨v0,vs0,d0,ds0,p0,q0,hargs,rfl,rfl,h0,r0⟩:=trodAll_cons hA
 obtain⟨v1,vs1,d1,ds1,p1,q1,rfl,rfl,rfl,h1,r1⟩:=trodAll_cons r0
 obtain⟨rfl,rfl,rfl⟩:=trodAll_nil r1
 obtain rfl:args=#[v0,v1]:=by cases args;simp_all
 obtain⟨rfl,rfl⟩:=trodVars_none hV
 have hbk:=of_decide_eq_true (hcond _ rfl)
 simp only[List.append_nil,Rows.uptoBulkAll] at hbk
 obtain⟨c0,rfl,_⟩:=okWide_struct Tryz.underlying28 (hval 0 28 v0 rfl rfl)
 have k0:=h0
 have lt0:∀ x∈p0,x.block<W.heap.size:=by obtain⟨m,hm⟩:=k0;exact DataW.trod_lt m _ _ _ hm
 obtain⟨x0,hx0,hb0⟩:∃ x,(rBoth 1 (rSlice 2 (rBoth 1 rNm (rSlice 3 (rBoth 1 rNm (rBoth 1 (rInt .i64) rNm))))) (rBoth 1 (rSlice 3 (rBoth 1 (rInt .i64) (rBoth 1 (rInt .i64) (rSlice 3 (rBoth 1 (rInt .i64) (rBoth 1 rNm (rInt .i64))))))) (rSlice 1 (rInt .i64)))) (All W) W c0.toList x∧shortG x:=by
  obtain⟨fuel,hf⟩:=h0
  exact OpensP.opens (opensP_struct3 Tryz.underlying28 (by kernel_rfl) rfl rfl rfl (opensP_struct1 Tryz.underlying24 (by kernel_rfl) rfl (opensP_slice Tryz.underlying22 (by kernel_rfl) (by decide) (opensP_struct2 Tryz.underlying44 (by kernel_rfl) rfl rfl (opensP_nm Tryz.underlying9 (by kernel_rfl)) (opensP_slice Tryz.underlying42 (by kernel_rfl) (by decide) (opensP_struct3 Tryz.underlying81 (by kernel_rfl) rfl rfl rfl (opensP_nm Tryz.underlying9 (by kernel_rfl)) (opensP_int Tryz.underlying3 (by kernel_rfl)) (opensP_nm Tryz.underlying9 (by kernel_rfl))))))) (opensP_slice Tryz.underlying25 (by kernel_rfl) (by decide) (opensP_struct3 Tryz.underlying50 (by kernel_rfl) rfl rfl rfl (opensP_int Tryz.underlying3 (by kernel_rfl)) (opensP_int Tryz.underlying3 (by kernel_rfl)) (opensP_slice Tryz.underlying48 (by kernel_rfl) (by decide) (opensP_struct3 Tryz.underlying47 (by kernel_rfl) rfl rfl rfl (opensP_int Tryz.underlying3 (by kernel_rfl)) (opensP_nm Tryz.underlying9 (by kernel_rfl)) (opensP_int Tryz.underlying3 (by kernel_rfl)))))) (opensP_slice Tryz.underlying26 (by kernel_rfl) (by decide) (opensP_int Tryz.underlying3 (by kernel_rfl)))) 1048576 hf (by show Rows.uptoBulk d0≤_;omega)
 obtain⟨a1,len1,cap1,rfl⟩:=okWide_slice Tryz.underlying29 (hval 1 29 v1 rfl rfl)
 have k1:=h1
 have lt1:∀ x∈p1,x.block<W.heap.size:=by obtain⟨m,hm⟩:=k1;exact DataW.trod_lt m _ _ _ hm
 obtain⟨b1,e1,hl1,hm1,hb1,hr1⟩:∃ bs:List Nat,bs.length=len1∧bs.length≤cap1∧cap1≤maxLen∧(∀ x∈bs,x<256)∧Rd W a1 (u8s bs):=by
  obtain⟨fuel,hf⟩:=h1
  rcases open_ints Tryz.underlying29 Tryz.underlying5 (by kernel_rfl) hf with⟨hcs,_⟩ | ⟨x,l,c,zs,hcs,_,hl,hm,hz,_,hcell,hwz⟩
  ·simp[Value.cells] at hcs
   obtain⟨rfl,rfl,rfl⟩:=hcs
   exact row_u8 (zs:=[]) (.inl ⟨rfl,rfl,rfl,rfl⟩)
  ·simp[Value.cells] at hcs
   obtain⟨rfl,rfl,rfl⟩:=hcs
   exact row_u8 (zs:=zs) (.inr ⟨_,rfl,hl,hm,by simpa using hz,hcell,hwz⟩)
 subst e1
 clear hA0 hval0
 refine (codeTells_walk W (han_of_laid hL) c0 x0 hx0 hb0 a1 cap1 b1 hl1 hm1 hb1 hr1).mono fun e W' ⟨he,bel⟩=>?_
 subst he
 exact⟨_,rfl,_,_,_,[],_,[],hW',trodAll_mk1 (shut_bool Tryz.underlying4 _),(trodAll_cons_mk (Below.trod laidOut (by kernel_rfl) (of_decide_eq_true (by kernel_rfl)) k0 bel lt0) (trodAll_cons_mk (Below.trod laidOut (by kernel_rfl) (of_decide_eq_true (by kernel_rfl)) k1 bel lt1) trodAll_mk0)),rfl,bel.frame _,fun h=>by cases h⟩
theorem over:Rows.codeTellsUptoRow.holds Tryz.pinned (Rows.OpenSpec.upto Rows.codeTellsSpec):=
 OpenClaim.holds_of_cond 3 Tryz.f3 rfl rfl rfl rfl rfl rfl rfl ⟨rfl,rfl,rfl,rfl,rfl⟩ rfl rfl rfl rfl rfl (by kernel_rfl) Tryz.func3 (by kernel_rfl)
  (of_decide_eq_true (by kernel_rfl)) (by unfold Func.isWrapper;first | (rw[if_pos (by decide +kernel)];kernel_rfl) | (rw[if_neg (by decide +kernel)];exact⟨rfl,rfl⟩))
  (fun os started H enc _ F=>by rw[OpenClaim.pre_eq_preRow];exact lifted os started H enc F)
end Go.Proofs.YtdlkmjfbmenedaaGreatDoor.codeTells
namespace Go.Proofs.YtdlkmjfbmenedaaGreatDoor
theorem codeTells.plain (f : FuncId) (fn : Func) (hf : Tryz.pinned.checked.prog.funcNamed "foliate/foliatelaw10.CodeTells" = some f) (hfn : Tryz.pinned.checked.prog.funcs[f]? = some fn) :
  true=Tryz.pinned.checked.prog.looks []∧∀ (j:Nat) t,fn.params[j]?=some t→Tryz.pinned.checked.prog.wantsStandIn t=false:=by
 obtain rfl : f = 3 := Option.some.inj ((show Tryz.prog.funcNamed "foliate/foliatelaw10.CodeTells" = some 3 by kernel_rfl).symm.trans hf) |>.symm
 obtain rfl:fn=Tryz.f3:=(Option.some.inj (Tryz.func3.symm.trans hfn)).symm
 refine⟨by kernel_rfl,fun j t ht=>?_⟩
 rw[Tryz.params3] at ht
 have hm:=Array.mem_of_getElem? ht
 simp only[List.mem_toArray,List.mem_cons,List.not_mem_nil,or_false] at hm
 rcases hm with rfl | rfl
 ·exact (show Tryz.prog.wantsStandIn 28=false by kernel_rfl)
 ·exact (show Tryz.prog.wantsStandIn 29=false by kernel_rfl)
theorem codeTells_holds:Rows.CodeTellsUptoCardSaid:=
 Claim7.holds_tied_plain_at .later [] _ _ _ _ codeTells.over (fun _ h=>by cases h) (by kernel_rfl) (fun _ h=>by cases h) codeTellsUpto_row_tie rfl ⟨rfl,rfl⟩ (by kernel_rfl) rfl codeTells.plain (by kernel_rfl)
#print axioms codeTells_holds
end Go.Proofs.YtdlkmjfbmenedaaGreatDoor
