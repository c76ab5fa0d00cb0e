/- What goes wrong in package code: must, a panic by an error's number; and what answer defers, in a call that panics, and in one that returns. No condition. -/
import Derived.Test.YtdlkmjfbmenedaaGreatDoorGCanon
import Derived.Tactics2
import Derived.Defers
import Derived.Recover
import Derived.Test.YtdlkmjfbmenedaaGreatDoorAl
set_option maxRecDepth 100000
set_option maxHeartbeats 1000000
namespace Go.Proofs.YtdlkmjfbmenedaaGreatDoor
open Go.RowKit
def Wrong (n:Int):Ending:=.panicked [{ v:=.iface 32 (.int .i64 n),recovered:=false }]
theorem must_yes (n:Int) (w:World):Calls Tryz.prog 54 #[.bool true,.int .i64 n] w fun e w'=>e=.returned (.tuple #[])∧w=w':=by
 go_enter Tryz.func54,Tryz.ntmps54
 go_wp2
 first | go_end0 | refine bodyPost_ret (results_none rfl _ _ _) rfl ?_
 exact⟨rfl,rfl⟩
theorem must_no (n:Int) (w:World):Calls Tryz.prog 54 #[.bool false,.int .i64 n] w fun e w'=>e=Wrong n∧w=w':=by
 go_enter Tryz.func54,Tryz.ntmps54
 go_wp2
 exact⟨rfl,rfl,rfl⟩
theorem setCell_here {w:World} {k:Nat} {t:TypeId} {u:Value} (h:Blk w k t [u]):w.setCell ⟨k,0,none⟩ u=w:=by
 have h1:=h.set 0 u
 have hh:(w.setCell ⟨k,0,none⟩ u).heap=w.heap:=by
  apply Array.ext_getElem?
  intro j
  by_cases hj:j=k
  ·subst hj
   exact h1.trans h.symm
  ·exact Below.heap_setCell _ _ _ _ hj
 have:w.setCell ⟨k,0,none⟩ u={ w with heap:=(w.setCell ⟨k,0,none⟩ u).heap }:=rfl
 rw[this,hh]
theorem catchU_bad (k:Nat) (x n:Int) (older:List PanicEntry) (w:World) (hb:Blk w k 32 [.int .i64 x]):
  CallsD Tryz.prog 62 #[.pointer (some ⟨k,0,none⟩)] (.panicking ({ v:=.iface 32 (.int .i64 n),recovered:=false } :: older)) w fun e u' w'=>
   e=.returned (.tuple #[])∧u'=.panicking ({ v:=.iface 32 (.int .i64 n),recovered:=true } :: older)∧w'=w.setCell ⟨k,0,none⟩ (.int .i64 n):=by
 have hta:∀ (W:World),(Instr.typeAssert (.iface 32 (.int .i64 n)) 20 32 false).run Tryz.prog W=.ok (.int .i64 n) W:=fun _=>by kernel_rfl
 have hne:∀ (W:World),(binOp .neq 20 (.iface 32 (.int .i64 n)) .nilIface).run Tryz.prog W=.ok (.bool true) W:=fun _=>by kernel_rfl
 have hc:=hb.cell (j:=0) rfl
 have hz:=hb.frozen 0
 refine callsD_of_wpS Tryz.func62 rfl fun c₀ cs hu=>?_
 apply wpS_seq
 apply wpS_region
 simp[wpOpsS,go_sem,recoverD,hu,Tryz.ntmps62,Exit.thenS]
 apply wpS_seq
 apply wpS_region
 simp[wpOpsS,go_sem,hne,Exit.thenS]
 refine wpS_cond (t:=true) (by simp[Act.eval,Array.replicate]) ?_
 simp only[if_true]
 apply wpS_region
 simp[wpOpsS,go_sem,hta,hc,hz,bodyPostS,results,Tryz.results62]
theorem catchU_idle (k:Nat) (w:World):
  CallsD Tryz.prog 62 #[.pointer (some ⟨k,0,none⟩)] .returning w fun e u' w'=>e=.returned (.tuple #[])∧u'=.returning∧w'=w:=by
 have hne:∀ (W:World),(binOp .neq 20 .nilIface .nilIface).run Tryz.prog W=.ok (.bool false) W:=fun _=>by kernel_rfl
 refine callsD_of_wpS Tryz.func62 rfl fun c₀ cs hu=>?_
 apply wpS_seq
 apply wpS_region
 simp[wpOpsS,go_sem,recoverD,hu,Tryz.ntmps62,Exit.thenS]
 apply wpS_seq
 apply wpS_region
 simp[wpOpsS,go_sem,hne,Exit.thenS]
 refine wpS_cond (t:=false) (by simp[Act.eval,Array.replicate]) ?_
 simp only[Bool.false_eq_true,if_false]
 refine wpS_of_wp (wp_skip ?_)
 cases c₀
 simp_all [bodyPostS,results,Tryz.results62]
theorem answerU_any {Good:Value→World→Prop} {Bad:Int→Prop} (g:Nat) (w:World)
  (T:∀ W,Below w.heap.size w W→Calls Tryz.prog 28 #[.pointer (some ⟨g,0,none⟩)] W fun e w'=>Below W.heap.size W w'∧((∃ v,e=.returned v∧Good v w')∨∃ n,e=Wrong n∧Bad n)):
  Calls Tryz.prog 27 #[.func (.func 28) #[] #[.pointer (some ⟨g,0,none⟩)]] w fun e w'=>
   Below w.heap.size w w'∧((∃ v,e=.returned (.tuple #[v,.int .i64 0])∧Good v w')∨∃ n,e=.returned (.tuple #[.int .u32 0,.int .i64 n])∧Bad n):=by
 have hmf:∀ (fn:Fn) (first cap:Array Value) (w:World),(Instr.makeFunc fn first cap).run Tryz.prog w=.ok (.func fn first cap) w:=fun _ _ _ _=>rfl
 have hB0:Below w.heap.size w (w.alloc (.cells #[.int .i64 0] 32)):=(zA _ w).alloc (zW _) _
 have p0:=Blk.new w 32 [.int .i64 0]
 have TT:=zZ (T _ hB0)
 have H0:=zZ hB0
 have P0:=zZ p0
 clear T hB0 p0
 go_enter_defers Tryz.func27,Tryz.ntmps27
 go_wp2_with fail
 refine TT.out.mono ?_
 rintro e w1 ⟨hB1,⟨v,rfl,hg⟩ | ⟨n,rfl,hn⟩⟩
 ·have p1:=P0.out.below P0.out.lt hB1
  have c1:=p1.cell (j:=0) rfl
  have f1:=p1.frozen 0
  have hs:=setCell_here p1
  have HB:=zZ (H0.out.trans (hB1.mono H0.out.size))
  have HG:=zZ hg
  clear hB1 hg TT
  go_wp2_with fail
  refine leaves_cons (f:=62) (args:=#[.pointer (some ⟨w.heap.size,0,none⟩)]) (by simp) (by simp[go_sem]) ?_
  refine (catchU_idle w.heap.size _).mono ?_
  rintro e u' w'' ⟨rfl,rfl,rfl⟩
  simp[Leaves,settle,results,Tryz.results27,go_sem,c1]
  exact⟨HB.out,.inl HG.out⟩
 ·have p1:=P0.out.below P0.out.lt hB1
  have HB:=zZ (H0.out.trans (hB1.mono H0.out.size))
  have HN:=zZ hn
  clear hB1 hn TT
  unfold Wrong
  go_wp2_with fail
  refine leaves_cons (f:=62) (args:=#[.pointer (some ⟨w.heap.size,0,none⟩)]) (by simp) (by simp[go_sem]) ?_
  refine (catchU_bad w.heap.size 0 n [] _ p1).mono ?_
  rintro e u' w'' ⟨rfl,rfl,rfl⟩
  have p2:=(p1.set 0 (.int .i64 n)).cell (j:=0) rfl
  simp[Leaves,settle,results,Tryz.results27,go_sem,p2]
  exact⟨HB.out.setCell (p:=⟨w.heap.size,0,none⟩) (zW _) _,.inr HN.out⟩
theorem catchB_bad (k:Nat) (x n:Int) (older:List PanicEntry) (w:World) (hb:Blk w k 32 [.int .i64 x]):
  CallsD Tryz.prog 36 #[.pointer (some ⟨k,0,none⟩)] (.panicking ({ v:=.iface 32 (.int .i64 n),recovered:=false } :: older)) w fun e u' w'=>
   e=.returned (.tuple #[])∧u'=.panicking ({ v:=.iface 32 (.int .i64 n),recovered:=true } :: older)∧w'=w.setCell ⟨k,0,none⟩ (.int .i64 n):=by
 have hta:∀ (W:World),(Instr.typeAssert (.iface 32 (.int .i64 n)) 20 32 false).run Tryz.prog W=.ok (.int .i64 n) W:=fun _=>by kernel_rfl
 have hne:∀ (W:World),(binOp .neq 20 (.iface 32 (.int .i64 n)) .nilIface).run Tryz.prog W=.ok (.bool true) W:=fun _=>by kernel_rfl
 have hc:=hb.cell (j:=0) rfl
 have hz:=hb.frozen 0
 refine callsD_of_wpS Tryz.func36 rfl fun c₀ cs hu=>?_
 apply wpS_seq
 apply wpS_region
 simp[wpOpsS,go_sem,recoverD,hu,Tryz.ntmps36,Exit.thenS]
 apply wpS_seq
 apply wpS_region
 simp[wpOpsS,go_sem,hne,Exit.thenS]
 refine wpS_cond (t:=true) (by simp[Act.eval,Array.replicate]) ?_
 simp only[if_true]
 apply wpS_region
 simp[wpOpsS,go_sem,hta,hc,hz,bodyPostS,results,Tryz.results36]
theorem catchB_idle (k:Nat) (w:World):
  CallsD Tryz.prog 36 #[.pointer (some ⟨k,0,none⟩)] .returning w fun e u' w'=>e=.returned (.tuple #[])∧u'=.returning∧w'=w:=by
 have hne:∀ (W:World),(binOp .neq 20 .nilIface .nilIface).run Tryz.prog W=.ok (.bool false) W:=fun _=>by kernel_rfl
 refine callsD_of_wpS Tryz.func36 rfl fun c₀ cs hu=>?_
 apply wpS_seq
 apply wpS_region
 simp[wpOpsS,go_sem,recoverD,hu,Tryz.ntmps36,Exit.thenS]
 apply wpS_seq
 apply wpS_region
 simp[wpOpsS,go_sem,hne,Exit.thenS]
 refine wpS_cond (t:=false) (by simp[Act.eval,Array.replicate]) ?_
 simp only[Bool.false_eq_true,if_false]
 refine wpS_of_wp (wp_skip ?_)
 cases c₀
 simp_all [bodyPostS,results,Tryz.results36]
theorem answerB_any {Good:Value→World→Prop} {Bad:Int→Prop} (g:Nat) (w:World)
  (T:∀ W,Below w.heap.size w W→Calls Tryz.prog 16 #[.pointer (some ⟨g,0,none⟩)] W fun e w'=>Below W.heap.size W w'∧((∃ v,e=.returned v∧Good v w')∨∃ n,e=Wrong n∧Bad n)):
  Calls Tryz.prog 15 #[.func (.func 16) #[] #[.pointer (some ⟨g,0,none⟩)]] w fun e w'=>
   Below w.heap.size w w'∧((∃ v,e=.returned (.tuple #[v,.int .i64 0])∧Good v w')∨∃ n,e=.returned (.tuple #[.slice none 0 0,.int .i64 n])∧Bad n):=by
 have hmf:∀ (fn:Fn) (first cap:Array Value) (w:World),(Instr.makeFunc fn first cap).run Tryz.prog w=.ok (.func fn first cap) w:=fun _ _ _ _=>rfl
 have hB0:Below w.heap.size w (w.alloc (.cells #[.int .i64 0] 32)):=(zA _ w).alloc (zW _) _
 have p0:=Blk.new w 32 [.int .i64 0]
 have TT:=zZ (T _ hB0)
 have H0:=zZ hB0
 have P0:=zZ p0
 clear T hB0 p0
 go_enter_defers Tryz.func15,Tryz.ntmps15
 go_wp2_with fail
 refine TT.out.mono ?_
 rintro e w1 ⟨hB1,⟨v,rfl,hg⟩ | ⟨n,rfl,hn⟩⟩
 ·have p1:=P0.out.below P0.out.lt hB1
  have c1:=p1.cell (j:=0) rfl
  have f1:=p1.frozen 0
  have hs:=setCell_here p1
  have HB:=zZ (H0.out.trans (hB1.mono H0.out.size))
  have HG:=zZ hg
  clear hB1 hg TT
  go_wp2_with fail
  refine leaves_cons (f:=36) (args:=#[.pointer (some ⟨w.heap.size,0,none⟩)]) (by simp) (by simp[go_sem]) ?_
  refine (catchB_idle w.heap.size _).mono ?_
  rintro e u' w'' ⟨rfl,rfl,rfl⟩
  simp[Leaves,settle,results,Tryz.results15,go_sem,c1]
  exact⟨HB.out,.inl HG.out⟩
 ·have p1:=P0.out.below P0.out.lt hB1
  have HB:=zZ (H0.out.trans (hB1.mono H0.out.size))
  have HN:=zZ hn
  clear hB1 hn TT
  unfold Wrong
  go_wp2_with fail
  refine leaves_cons (f:=36) (args:=#[.pointer (some ⟨w.heap.size,0,none⟩)]) (by simp) (by simp[go_sem]) ?_
  refine (catchB_bad w.heap.size 0 n [] _ p1).mono ?_
  rintro e u' w'' ⟨rfl,rfl,rfl⟩
  have p2:=(p1.set 0 (.int .i64 n)).cell (j:=0) rfl
  simp[Leaves,settle,results,Tryz.results15,go_sem,p2]
  exact⟨HB.out.setCell (p:=⟨w.heap.size,0,none⟩) (zW _) _,.inr HN.out⟩
theorem catchG_bad (k:Nat) (x n:Int) (older:List PanicEntry) (w:World) (hb:Blk w k 32 [.int .i64 x]):
  CallsD Tryz.prog 52 #[.pointer (some ⟨k,0,none⟩)] (.panicking ({ v:=.iface 32 (.int .i64 n),recovered:=false } :: older)) w fun e u' w'=>
   e=.returned (.tuple #[])∧u'=.panicking ({ v:=.iface 32 (.int .i64 n),recovered:=true } :: older)∧w'=w.setCell ⟨k,0,none⟩ (.int .i64 n):=by
 have hta:∀ (W:World),(Instr.typeAssert (.iface 32 (.int .i64 n)) 20 32 false).run Tryz.prog W=.ok (.int .i64 n) W:=fun _=>by kernel_rfl
 have hne:∀ (W:World),(binOp .neq 20 (.iface 32 (.int .i64 n)) .nilIface).run Tryz.prog W=.ok (.bool true) W:=fun _=>by kernel_rfl
 have hc:=hb.cell (j:=0) rfl
 have hz:=hb.frozen 0
 refine callsD_of_wpS Tryz.func52 rfl fun c₀ cs hu=>?_
 apply wpS_seq
 apply wpS_region
 simp[wpOpsS,go_sem,recoverD,hu,Tryz.ntmps52,Exit.thenS]
 apply wpS_seq
 apply wpS_region
 simp[wpOpsS,go_sem,hne,Exit.thenS]
 refine wpS_cond (t:=true) (by simp[Act.eval,Array.replicate]) ?_
 simp only[if_true]
 apply wpS_region
 simp[wpOpsS,go_sem,hta,hc,hz,bodyPostS,results,Tryz.results52]
theorem catchG_idle (k:Nat) (w:World):
  CallsD Tryz.prog 52 #[.pointer (some ⟨k,0,none⟩)] .returning w fun e u' w'=>e=.returned (.tuple #[])∧u'=.returning∧w'=w:=by
 have hne:∀ (W:World),(binOp .neq 20 .nilIface .nilIface).run Tryz.prog W=.ok (.bool false) W:=fun _=>by kernel_rfl
 refine callsD_of_wpS Tryz.func52 rfl fun c₀ cs hu=>?_
 apply wpS_seq
 apply wpS_region
 simp[wpOpsS,go_sem,recoverD,hu,Tryz.ntmps52,Exit.thenS]
 apply wpS_seq
 apply wpS_region
 simp[wpOpsS,go_sem,hne,Exit.thenS]
 refine wpS_cond (t:=false) (by simp[Act.eval,Array.replicate]) ?_
 simp only[Bool.false_eq_true,if_false]
 refine wpS_of_wp (wp_skip ?_)
 cases c₀
 simp_all [bodyPostS,results,Tryz.results52]
theorem results_cells2 {fn:Func} {p q:Tmp} {ty tz:TypeId} (h:fn.results=#[.cell p ty,.cell q tz]) (tmps:Array Value) (P:Program) (w:World):
  (results fn tmps).run P w=((asAddr (tmps.getD p undef)).run P w).andThen fun a w₁=>((loadVar ty a).run P w₁).andThen fun v w₂=>((asAddr (tmps.getD q undef)).run P w₂).andThen fun b w₃=>((loadVar tz b).run P w₃).andThen fun u w₄=>.ok (.tuple #[v,u]) w₄:=by
 simp only[results,h]
 simp[Sem.run_bind,Result.andThen]
theorem results_two {fn:Func} {p q:Tmp} {ty tz:TypeId} {tmps:Array Value} {P:Program} {w:World} {a b:Addr} {v u:Value} (h:fn.results=#[.cell p ty,.cell q tz]) (hp:tmps.getD p undef=.pointer (some a)) (hq:tmps.getD q undef=.pointer (some b))
  (h1:(loadVar ty a).run P w=.ok v w) (h2:(loadVar tz b).run P w=.ok u w):(results fn tmps).run P w=.ok (.tuple #[v,u]) w:=by
 rw[results_cells2 h,hp,hq]
 simp only[asAddr,Sem.run_pure,Result.andThen,h1,h2]
theorem blk_load {w:World} {k:Nat} {t ty:TypeId} {cs:List Value} {fs:Array Field} (hb:Blk w k t cs) (hu:Tryz.prog.underlying ty=some (.struct fs)) (hi:(Tryz.prog.info? ty).map (·.size)=some cs.length):
  (loadVar ty ⟨k,0,none⟩).run Tryz.prog w=.ok (.agg cs.toArray) w:=run_loadVar_row (P:=Tryz.prog) w k t ty cs.toArray (0,0) (.struct fs) hb hu rfl (by simpa using hi)
theorem load_errno {w:World} {a:Addr} {n:Int} (h:w.cell? a=some (.int .i64 n)):(loadVar 32 a).run Tryz.prog w=.ok (.int .i64 n) w:=by simp[go_sem,h]
theorem answerG_any {Bad:Int→Prop} (g:Nat) (x:Gr) (w:World)
  (T:∀ W,Below w.heap.size w W→Calls Tryz.prog 23 #[.pointer (some ⟨g,0,none⟩)] W fun r w'=>Below W.heap.size W w'∧((∃ A N c B M d C K e,r=.returned (.agg #[.slice A N c,.slice B M d,.slice C K e])∧rGr (fun b=>W.heap.size≤b∧b<w'.heap.size) w' [.slice A N c,.slice B M d,.slice C K e] x)∨∃ n,r=Wrong n∧Bad n)):
  Calls Tryz.prog 22 #[.func (.func 23) #[] #[.pointer (some ⟨g,0,none⟩)]] w fun r w'=>
   Below w.heap.size w w'∧((∃ A N c B M d C K e,r=.returned (.tuple #[.agg #[.slice A N c,.slice B M d,.slice C K e],.int .i64 0])∧rGr (fun b=>w.heap.size≤b∧b<w'.heap.size) w' [.slice A N c,.slice B M d,.slice C K e] x)∨∃ n,r=.returned (.tuple #[.agg #[.slice none 0 0,.slice none 0 0,.slice none 0 0],.int .i64 n])∧Bad n):=by
 have hmf:∀ (fn:Fn) (first cap:Array Value) (w:World),(Instr.makeFunc fn first cap).run Tryz.prog w=.ok (.func fn first cap) w:=fun _ _ _ _=>rfl
 have hB0:Below w.heap.size w ((w.alloc (.cells #[.slice none 0 0,.slice none 0 0,.slice none 0 0] 28)).alloc (.cells #[.int .i64 0] 32)):=((zA _ w).alloc (zW _) _).alloc (by simp) _
 obtain⟨p0,q0⟩:=blk_two w 28 32 [.slice none 0 0,.slice none 0 0,.slice none 0 0] [.int .i64 0]
 have s0:((w.alloc (.cells #[.slice none 0 0,.slice none 0 0,.slice none 0 0] 28)).alloc (.cells #[.int .i64 0] 32)).heap.size=w.heap.size+1+1:=by simp
 have TT:=zZ (T _ hB0)
 have H0:=zZ hB0
 have P0:=zZ p0
 have Q0:=zZ q0
 have S0:=zZ s0
 clear T hB0 p0 q0 s0
 go_enter_defers Tryz.func22,Tryz.ntmps22
 go_wp2_with fail
 generalize (w.alloc (.cells #[.slice none 0 0,.slice none 0 0,.slice none 0 0] 28)).alloc (.cells #[.int .i64 0] 32)=w0 at *
 refine TT.out.mono ?_
 rintro r w1 ⟨hB1,⟨A,N,c,B,M,d,C,K,e,rfl,hg⟩ | ⟨n,rfl,hn⟩⟩
 ·have p1:=P0.out.to hB1
  have q1:=Q0.out.to hB1
  have HB:=zZ (H0.out.trans (hB1.mono (by have:=S0.out;omega)))
  have HG:=zZ hg
  have a0:=p1.cell (j:=0) rfl
  have a1:=p1.cell (j:=1) rfl
  have a2:=p1.cell (j:=2) rfl
  have z0:=p1.frozen 0
  have z1:=p1.frozen 1
  have z2:=p1.frozen 2
  have p2:=((p1.set 0 (.slice A N c)).set 1 (.slice B M d)).set 2 (.slice C K e)
  have q2:=((q1.other ⟨w.heap.size,0,none⟩ (.slice A N c) (by simp)).other ⟨w.heap.size,1,none⟩ (.slice B M d) (by simp)).other ⟨w.heap.size,2,none⟩ (.slice C K e) (by simp)
  have hs:=setCell_here q2
  have HS:=zZ (((HB.out.setCell (p:=⟨w.heap.size,0,none⟩) (zW _) (.slice A N c)).setCell (p:=⟨w.heap.size,1,none⟩) (zW _) (.slice B M d)).setCell (p:=⟨w.heap.size,2,none⟩) (zW _) (.slice C K e))
  have b0:=p2.cell (j:=0) rfl
  have b1:=p2.cell (j:=1) rfl
  have b2:=p2.cell (j:=2) rfl
  have c1:=q2.cell (j:=0) rfl
  have f1:=q2.frozen 0
  clear hB1 hg TT
  go_wp2_with fail
  refine leaves_cons (f:=52) (args:=#[.pointer (some ⟨w.heap.size+1,0,none⟩)]) (by simp) (by simp[go_sem]) ?_
  refine (catchG_idle (w.heap.size+1) _).mono ?_
  rintro e' u' w'' ⟨rfl,rfl,rfl⟩
  have hl:=blk_load (ty:=28) (cs:=[.slice A N c,.slice B M d,.slice C K e]) p2 Tryz.underlying28 rfl
  show ∃ v,(results Tryz.f22 _).run Tryz.prog _=.ok v _∧_
  refine⟨.tuple #[.agg #[.slice A N c,.slice B M d,.slice C K e],.int .i64 0],?_,HS.out,.inl ⟨A,N,c,B,M,d,C,K,e,rfl,?_⟩⟩
  ·exact results_two Tryz.results22 rfl rfl hl (load_errno c1)
  ·refine rGr_stays.to (fun b hb=>⟨⟨by have:=S0.out;have:=hb.1;omega,by have:=hb.2;simpa using this⟩,?_⟩) HG.out
   have hne:b≠w.heap.size:=by have:=S0.out;have:=hb.1;omega
   rw[Below.heap_setCell _ _ _ _ hne,Below.heap_setCell _ _ _ _ hne,Below.heap_setCell _ _ _ _ hne]
 ·have p1:=P0.out.to hB1
  have q1:=Q0.out.to hB1
  have HB:=zZ (H0.out.trans (hB1.mono (by have:=S0.out;omega)))
  have HN:=zZ hn
  clear hB1 hn TT
  unfold Wrong
  go_wp2_with fail
  refine leaves_cons (f:=52) (args:=#[.pointer (some ⟨w.heap.size+1,0,none⟩)]) (by simp) (by simp[go_sem]) ?_
  refine (catchG_bad (w.heap.size+1) 0 n [] _ q1).mono ?_
  rintro e' u' w'' ⟨rfl,rfl,rfl⟩
  have q2:=(q1.set 0 (.int .i64 n)).cell (j:=0) rfl
  have p2:=p1.other ⟨w.heap.size+1,0,none⟩ (.int .i64 n) (by simp)
  have hl:=blk_load (ty:=28) (cs:=[.slice none 0 0,.slice none 0 0,.slice none 0 0]) p2 Tryz.underlying28 rfl
  show ∃ v,(results Tryz.f22 _).run Tryz.prog _=.ok v _∧_
  refine⟨.tuple #[.agg #[.slice none 0 0,.slice none 0 0,.slice none 0 0],.int .i64 n],?_,HB.out.setCell (p:=⟨w.heap.size+1,0,none⟩) (by simp) _,.inr ⟨n,rfl,HN.out⟩⟩
  exact results_two Tryz.results22 rfl rfl hl (load_errno q2)
end Go.Proofs.YtdlkmjfbmenedaaGreatDoor
