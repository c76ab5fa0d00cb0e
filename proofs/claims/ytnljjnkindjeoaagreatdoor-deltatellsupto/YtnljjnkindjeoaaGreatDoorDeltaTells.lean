/- the law DeltaTells returns true at every input whose bulk is at most 1048576 (the given second form), and each argument reads afterwards as it read before; the card ties the listed variables errors.errorType and foliate/schema.kindTexts to the program's text. Condition: that bound. -/
import Derived.Test.YtnljjnkindjeoaaGreatDoorRows
import Derived.WalkKit
import Derived.ProofKit
import Derived.OpenShut
import Derived.ShutString
import Derived.ChangeOld
import Derived.Below
import Derived.Test.YtnljjnkindjeoaaGreatDoorScBulk
import Derived.Deep.DeepHandedRow
import Derived.Test.YtnljjnkindjeoaaGreatDoorGGen
import Derived.Test.YtnljjnkindjeoaaGreatDoorDeLawTells
import Derived.Test.YtnljjnkindjeoaaGreatDoorCards
import Derived.Test.YtnljjnkindjeoaaGreatDoorTie
import Derived.Test.YtnljjnkindjeoaaGreatDoorScLaid
import Derived.Test.YtnljjnkindjeoaaGreatDoorAl
set_option maxRecDepth 100000
namespace Go.Proofs.YtnljjnkindjeoaaGreatDoor.deltaTells
open Go.ChangeShapes Go.WideShapes Go.ChangeAt Go.RowKit
open Go.ChangeMaps (open_string shut_string)
set_option linter.unusedVariables false
theorem own:ownKnob Tryz.prog.godebug=none:=by kernel_rfl
theorem laidOut:laidOutB Tryz.prog=true:=by kernel_rfl
theorem laid_met (os:Os):laidMet Tryz.prog Rows.deltaTellsUptoRow.laid ((laidWorld os).forCall (fun _ _=>0) ⟨#[],#[.agg #[.slice none 0 0,.slice none 0 0,.slice none 0 0],.agg #[.slice none 0 0,.slice none 0 0,.slice none 0 0],.agg #[.int .u32 0,.slice none 0 0,.slice none 0 0],.agg #[.int .u32 0,.slice none 0 0,.slice none 0 0]],[]⟩).memory:=
 laidMet_of_run' 8 (by kernel_rfl) (by kernel_rfl)
theorem reads (os:Os) {H:Type} (enc:TypeId × Value→H):∃ places,DataW.whole enc Tryz.prog ((laidWorld os).forCall (fun _ _=>0) ⟨#[],#[.agg #[.slice none 0 0,.slice none 0 0,.slice none 0 0],.agg #[.slice none 0 0,.slice none 0 0,.slice none 0 0],.agg #[.int .u32 0,.slice none 0 0,.slice none 0 0],.agg #[.int .u32 0,.slice none 0 0,.slice none 0 0]],[]⟩).memory Tryz.f3.params.toList Rows.deltaTellsSpec.vars false (#[.agg #[.slice none 0 0,.slice none 0 0,.slice none 0 0],.agg #[.slice none 0 0,.slice none 0 0,.slice none 0 0],.agg #[.int .u32 0,.slice none 0 0,.slice none 0 0],.agg #[.int .u32 0,.slice none 0 0,.slice none 0 0]]:Array Value).toList 8=some ([.agg [.agg [.nil],.nil,.nil],.agg [.agg [.nil],.nil,.nil],.agg [.lit (.int .u32 0),.nil,.nil],.agg [.lit (.int .u32 0),.nil,.nil]],[],places):=
 ⟨[],by kernel_rfl⟩
theorem lifted (os:Os) (started:os.Started) (H:Type) (enc:TypeId × Value→H) (F:Stop.Interp):
  ReturnsInHanded {} Tryz.checked os 3 .any ((Rows.OpenSpec.upto Rows.deltaTellsSpec).preRow enc Tryz.prog Tryz.f3 Rows.deltaTellsUptoRow.domain false Rows.deltaTellsUptoRow.laid) (((Rows.OpenSpec.upto Rows.deltaTellsSpec).at F).post enc Tryz.prog Tryz.f3 false true false false):=by
 obtain⟨places,hx⟩:=reads os enc
 refine returnsInHanded_of_row (C:=Tryz.checked) (s:=Rows.OpenSpec.upto Rows.deltaTellsSpec) own started (by kernel_rfl) Tryz.func3
  (witness_row_at (enc:=enc) (C:=Tryz.checked) false (laidWorld os) #[.agg #[.slice none 0 0,.slice none 0 0,.slice none 0 0],.agg #[.slice none 0 0,.slice none 0 0,.slice none 0 0],.agg #[.int .u32 0,.slice none 0 0,.slice none 0 0],.agg #[.int .u32 0,.slice none 0 0,.slice none 0 0]] rfl (by kernel_rfl) (by kernel_rfl) (by kernel_rfl)
   (OpenSpec.preRow_of_cond 8 hx (by kernel_rfl) (fun k hk=>by cases hk;kernel_rfl) (by kernel_rfl) (laid_met os))) ?_
 intro W base args ds gs before hval0 hW hcnd hcond _ hL _ _
 have hval:∀ (j:Nat) t v,Tryz.f3.params[j]?=some t→args[j]?=some v→Value.okWide Tryz.prog W .any base t v:=hval0
 have hW':=hW
 obtain⟨p,q,hA0,hV,rfl,hfz,hnd⟩:=hW
 have hA:DataW.TrodAll enc Tryz.prog W 0 (fun _=>true) true Tryz.f3.params.toList args.toList ds p:=hA0
 rw[Tryz.params3] at hA hval
 obtain⟨v0,vs0,d0,ds0,p0,q0,hargs,rfl,rfl,h0,r0⟩:=trodAll_cons hA
 obtain⟨v1,vs1,d1,ds1,p1,q1,rfl,rfl,rfl,h1,r1⟩:=trodAll_cons r0
 obtain⟨v2,vs2,d2,ds2,p2,q2,rfl,rfl,rfl,h2,r2⟩:=trodAll_cons r1
 obtain⟨v3,vs3,d3,ds3,p3,q3,rfl,rfl,rfl,h3,r3⟩:=trodAll_cons r2
 obtain⟨rfl,rfl,rfl⟩:=trodAll_nil r3
 obtain rfl:args=#[v0,v1,v2,v3]:=by cases args;simp_all
 obtain⟨rfl,rfl⟩:=trodVars_none hV
 have hbk:=of_decide_eq_true (hcond _ rfl)
 simp only[List.append_nil,Rows.uptoBulkAll] at hbk
 obtain⟨c0,rfl,_⟩:=okWide_struct Tryz.underlying28 (hval 0 28 v0 rfl rfl)
 have k0:=h0
 have lt0:∀ x∈p0,x.block<W.heap.size:=by obtain⟨m,hm⟩:=k0;exact DataW.trod_lt m _ _ _ hm
 obtain⟨x0,hx0,hb0⟩:∃ x,(rBoth 1 (rSlice 2 (rBoth 1 rNm (rSlice 3 (rBoth 1 rNm (rBoth 1 (rInt .i64) rNm))))) (rBoth 1 (rSlice 3 (rBoth 1 (rInt .i64) (rBoth 1 (rInt .i64) (rSlice 3 (rBoth 1 (rInt .i64) (rBoth 1 rNm (rInt .i64))))))) (rSlice 1 (rInt .i64)))) (All W) W c0.toList x∧shortG x:=by
  obtain⟨fuel,hf⟩:=h0
  exact OpensP.opens (opensP_struct3 Tryz.underlying28 (by kernel_rfl) rfl rfl rfl (opensP_struct1 Tryz.underlying24 (by kernel_rfl) rfl (opensP_slice Tryz.underlying22 (by kernel_rfl) (by decide) (opensP_struct2 Tryz.underlying82 (by kernel_rfl) rfl rfl (opensP_nm Tryz.underlying9 (by kernel_rfl)) (opensP_slice Tryz.underlying80 (by kernel_rfl) (by decide) (opensP_struct3 Tryz.underlying97 (by kernel_rfl) rfl rfl rfl (opensP_nm Tryz.underlying9 (by kernel_rfl)) (opensP_int Tryz.underlying3 (by kernel_rfl)) (opensP_nm Tryz.underlying9 (by kernel_rfl))))))) (opensP_slice Tryz.underlying25 (by kernel_rfl) (by decide) (opensP_struct3 Tryz.underlying53 (by kernel_rfl) rfl rfl rfl (opensP_int Tryz.underlying3 (by kernel_rfl)) (opensP_int Tryz.underlying3 (by kernel_rfl)) (opensP_slice Tryz.underlying51 (by kernel_rfl) (by decide) (opensP_struct3 Tryz.underlying47 (by kernel_rfl) rfl rfl rfl (opensP_int Tryz.underlying3 (by kernel_rfl)) (opensP_nm Tryz.underlying9 (by kernel_rfl)) (opensP_int Tryz.underlying3 (by kernel_rfl)))))) (opensP_slice Tryz.underlying26 (by kernel_rfl) (by decide) (opensP_int Tryz.underlying3 (by kernel_rfl)))) 1048576 hf (by show Rows.uptoBulk d0≤_;omega)
 obtain⟨c1,rfl,_⟩:=okWide_struct Tryz.underlying28 (hval 1 28 v1 rfl rfl)
 have k1:=h1
 have lt1:∀ x∈p1,x.block<W.heap.size:=by obtain⟨m,hm⟩:=k1;exact DataW.trod_lt m _ _ _ hm
 obtain⟨x1,hx1,hb1⟩:∃ x,(rBoth 1 (rSlice 2 (rBoth 1 rNm (rSlice 3 (rBoth 1 rNm (rBoth 1 (rInt .i64) rNm))))) (rBoth 1 (rSlice 3 (rBoth 1 (rInt .i64) (rBoth 1 (rInt .i64) (rSlice 3 (rBoth 1 (rInt .i64) (rBoth 1 rNm (rInt .i64))))))) (rSlice 1 (rInt .i64)))) (All W) W c1.toList x∧shortG x:=by
  obtain⟨fuel,hf⟩:=h1
  exact OpensP.opens (opensP_struct3 Tryz.underlying28 (by kernel_rfl) rfl rfl rfl (opensP_struct1 Tryz.underlying24 (by kernel_rfl) rfl (opensP_slice Tryz.underlying22 (by kernel_rfl) (by decide) (opensP_struct2 Tryz.underlying82 (by kernel_rfl) rfl rfl (opensP_nm Tryz.underlying9 (by kernel_rfl)) (opensP_slice Tryz.underlying80 (by kernel_rfl) (by decide) (opensP_struct3 Tryz.underlying97 (by kernel_rfl) rfl rfl rfl (opensP_nm Tryz.underlying9 (by kernel_rfl)) (opensP_int Tryz.underlying3 (by kernel_rfl)) (opensP_nm Tryz.underlying9 (by kernel_rfl))))))) (opensP_slice Tryz.underlying25 (by kernel_rfl) (by decide) (opensP_struct3 Tryz.underlying53 (by kernel_rfl) rfl rfl rfl (opensP_int Tryz.underlying3 (by kernel_rfl)) (opensP_int Tryz.underlying3 (by kernel_rfl)) (opensP_slice Tryz.underlying51 (by kernel_rfl) (by decide) (opensP_struct3 Tryz.underlying47 (by kernel_rfl) rfl rfl rfl (opensP_int Tryz.underlying3 (by kernel_rfl)) (opensP_nm Tryz.underlying9 (by kernel_rfl)) (opensP_int Tryz.underlying3 (by kernel_rfl)))))) (opensP_slice Tryz.underlying26 (by kernel_rfl) (by decide) (opensP_int Tryz.underlying3 (by kernel_rfl)))) 1048576 hf (by show Rows.uptoBulk d1≤_;omega)
 obtain⟨c2,rfl,_⟩:=okWide_struct Tryz.underlying32 (hval 2 32 v2 rfl rfl)
 have k2:=h2
 have lt2:∀ x∈p2,x.block<W.heap.size:=by obtain⟨m,hm⟩:=k2;exact DataW.trod_lt m _ _ _ hm
 obtain⟨x2,hx2⟩:∃ x,(rBoth 1 (rInt .u32) (rBoth 1 (rSlice 1 (rInt .i64)) (rSlice 3 (rBoth 1 (rInt .i64) (rBoth 1 (rInt .i64) (rSlice 4 (rBoth 1 (rInt .i64) (rBoth 1 (rInt .i64) (rBoth 1 rNm (rInt .i64)))))))))) (All W) W c2.toList x:=by
  obtain⟨fuel,hf⟩:=h2
  exact Opens.opens (opens_struct3 Tryz.underlying32 (by kernel_rfl) rfl rfl rfl (opens_int Tryz.underlying29 (by kernel_rfl)) (opens_slice Tryz.underlying26 (by kernel_rfl) (by decide) (opens_int Tryz.underlying3 (by kernel_rfl))) (opens_slice Tryz.underlying30 (by kernel_rfl) (by decide) (opens_struct3 Tryz.underlying50 (by kernel_rfl) rfl rfl rfl (opens_int Tryz.underlying3 (by kernel_rfl)) (opens_int Tryz.underlying3 (by kernel_rfl)) (opens_slice Tryz.underlying48 (by kernel_rfl) (by decide) (opens_struct2 Tryz.underlying66 (by kernel_rfl) rfl rfl (opens_int Tryz.underlying3 (by kernel_rfl)) (opens_struct3 Tryz.underlying47 (by kernel_rfl) rfl rfl rfl (opens_int Tryz.underlying3 (by kernel_rfl)) (opens_nm Tryz.underlying9 (by kernel_rfl)) (opens_int Tryz.underlying3 (by kernel_rfl)))))))) hf
 obtain⟨c3,rfl,_⟩:=okWide_struct Tryz.underlying32 (hval 3 32 v3 rfl rfl)
 have k3:=h3
 have lt3:∀ x∈p3,x.block<W.heap.size:=by obtain⟨m,hm⟩:=k3;exact DataW.trod_lt m _ _ _ hm
 obtain⟨x3,hx3⟩:∃ x,(rBoth 1 (rInt .u32) (rBoth 1 (rSlice 1 (rInt .i64)) (rSlice 3 (rBoth 1 (rInt .i64) (rBoth 1 (rInt .i64) (rSlice 4 (rBoth 1 (rInt .i64) (rBoth 1 (rInt .i64) (rBoth 1 rNm (rInt .i64)))))))))) (All W) W c3.toList x:=by
  obtain⟨fuel,hf⟩:=h3
  exact Opens.opens (opens_struct3 Tryz.underlying32 (by kernel_rfl) rfl rfl rfl (opens_int Tryz.underlying29 (by kernel_rfl)) (opens_slice Tryz.underlying26 (by kernel_rfl) (by decide) (opens_int Tryz.underlying3 (by kernel_rfl))) (opens_slice Tryz.underlying30 (by kernel_rfl) (by decide) (opens_struct3 Tryz.underlying50 (by kernel_rfl) rfl rfl rfl (opens_int Tryz.underlying3 (by kernel_rfl)) (opens_int Tryz.underlying3 (by kernel_rfl)) (opens_slice Tryz.underlying48 (by kernel_rfl) (by decide) (opens_struct2 Tryz.underlying66 (by kernel_rfl) rfl rfl (opens_int Tryz.underlying3 (by kernel_rfl)) (opens_struct3 Tryz.underlying47 (by kernel_rfl) rfl rfl rfl (opens_int Tryz.underlying3 (by kernel_rfl)) (opens_nm Tryz.underlying9 (by kernel_rfl)) (opens_int Tryz.underlying3 (by kernel_rfl)))))))) hf
 clear hA0 hval0
 refine (deltaTells_walk W (han_of_laid hL) c0 x0 hx0 hb0 c1 x1 hx1 hb1 c2 x2 hx2 c3 x3 hx3).mono fun e W' ⟨he,bel⟩=>?_
 subst he
 exact⟨_,rfl,_,_,_,[],_,[],hW',trodAll_mk1 (shut_bool Tryz.underlying4 _),(trodAll_cons_mk (Below.trod laidOut (by kernel_rfl) (of_decide_eq_true (by kernel_rfl)) k0 bel lt0) (trodAll_cons_mk (Below.trod laidOut (by kernel_rfl) (of_decide_eq_true (by kernel_rfl)) k1 bel lt1) (trodAll_cons_mk (Below.trod laidOut (by kernel_rfl) (of_decide_eq_true (by kernel_rfl)) k2 bel lt2) (trodAll_cons_mk (Below.trod laidOut (by kernel_rfl) (of_decide_eq_true (by kernel_rfl)) k3 bel lt3) trodAll_mk0)))),rfl,bel.frame _,fun h=>by cases h⟩
theorem over:Rows.deltaTellsUptoRow.holds Tryz.pinned (Rows.OpenSpec.upto Rows.deltaTellsSpec):=
 OpenClaim.holds_of_cond 3 Tryz.f3 rfl rfl rfl rfl rfl rfl rfl ⟨rfl,rfl,rfl,rfl,rfl⟩ rfl rfl rfl rfl rfl (by kernel_rfl) Tryz.func3 (by kernel_rfl)
  (of_decide_eq_true (by kernel_rfl)) (by unfold Func.isWrapper;first | (rw[if_pos (by decide +kernel)];kernel_rfl) | (rw[if_neg (by decide +kernel)];exact⟨rfl,rfl⟩))
  (fun os started H enc _ F=>by rw[OpenClaim.pre_eq_preRow];exact lifted os started H enc F)
end Go.Proofs.YtnljjnkindjeoaaGreatDoor.deltaTells
namespace Go.Proofs.YtnljjnkindjeoaaGreatDoor
theorem deltaTells.plain (f : FuncId) (fn : Func) (hf : Tryz.pinned.checked.prog.funcNamed "foliate/foliatelaw11.DeltaTells" = some f) (hfn : Tryz.pinned.checked.prog.funcs[f]? = some fn) :
  true=Tryz.pinned.checked.prog.looks []∧∀ (j:Nat) t,fn.params[j]?=some t→Tryz.pinned.checked.prog.wantsStandIn t=false:=by
 obtain rfl : f = 3 := Option.some.inj ((show Tryz.prog.funcNamed "foliate/foliatelaw11.DeltaTells" = some 3 by kernel_rfl).symm.trans hf) |>.symm
 obtain rfl:fn=Tryz.f3:=(Option.some.inj (Tryz.func3.symm.trans hfn)).symm
 refine⟨by kernel_rfl,fun j t ht=>?_⟩
 rw[Tryz.params3] at ht
 have hm:=Array.mem_of_getElem? ht
 simp only[List.mem_toArray,List.mem_cons,List.not_mem_nil,or_false] at hm
 rcases hm with rfl | rfl | rfl | rfl
 ·exact (show Tryz.prog.wantsStandIn 28=false by kernel_rfl)
 ·exact (show Tryz.prog.wantsStandIn 28=false by kernel_rfl)
 ·exact (show Tryz.prog.wantsStandIn 32=false by kernel_rfl)
 ·exact (show Tryz.prog.wantsStandIn 32=false by kernel_rfl)
theorem deltaTells_holds:Rows.DeltaTellsUptoCardSaid:=
 Claim7.holds_tied_plain_at .later [] _ _ _ _ deltaTells.over (fun _ h=>by cases h) (by kernel_rfl) (fun _ h=>by cases h) deltaTellsUpto_row_tie rfl ⟨rfl,rfl⟩ (by kernel_rfl) rfl deltaTells.plain (by kernel_rfl)
#print axioms deltaTells_holds
end Go.Proofs.YtnljjnkindjeoaaGreatDoor
