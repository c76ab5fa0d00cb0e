/- The contract of code's Get: the graph of bytes, or why there is none. Conditions: the table of kinds' texts, and the variable errors.errorType, are laid. -/
import Derived.Test.YtdlkmjfbmenedaaGreatDoorCoGet
import Derived.Test.YtdlkmjfbmenedaaGreatDoorAl
set_option maxRecDepth 100000
set_option maxHeartbeats 1000000
namespace Go.Proofs.YtdlkmjfbmenedaaGreatDoor
open Go.RowKit
theorem codeQ_zero {bs:List Nat} (h:(codeQ bs).2≠0):(codeQ bs).1=([],[],[]):=by
 rw[codeQ] at h ⊢
 split
 ·rfl
 ·rename_i hf
  rw[if_neg hf] at h
  cases hg:graphQ (getFl bs).1.2 with
  | none=>rfl
  | some x=>
   rw[hg] at h
   simp only at h ⊢
   split
   ·rename_i hx
    rw[if_pos hx] at h
    exact absurd rfl h
   ·rfl
def noG:Gr:=([],[((1000000000000000000000:Int),(0:Int),[])],[])
theorem noG_no {S:Nat→Prop} {w:World} (A B C:Option Addr) (N c M d K e:Nat) (h:rGr S w [.slice A N c,.slice B M d,.slice C K e] noG):False:=by
 obtain⟨_,_,_,_,_,_,_,_,_,_,hb,_⟩:=ob_at (rGr_open h).2.1 (show noG.2.1[0]?=some _ from rfl)
 have:=hb.2
 simp at this
theorem cget1_any (k n c:Nat) (A:Option Addr) (bs:List Nat) (w:World) (hbk:Blk w k 29 [.slice A n c]) (hKt:Kt w) (hg:Han w) (hn:bs.length=n) (hc:n≤c) (hb:∀ x∈bs,x<256) (hr:Rd w A (u8s bs)) (hlen:n≤1000000):
  Calls Tryz.prog 23 #[.pointer (some ⟨k,0,none⟩)] w fun r w'=>CReadSays bs w r w'∧Below w.heap.size w w':=by
 have hB0:Below w.heap.size w (w.alloc (.cells #[.slice none 0 0,.slice none 0 0,.slice none 0 0] 28)):=(zA _ w).alloc (zW _) _
 have p0:=Blk.new w 28 [.slice none 0 0,.slice none 0 0,.slice none 0 0]
 have s0:(w.alloc (.cells #[.slice none 0 0,.slice none 0 0,.slice none 0 0] 28)).heap.size=w.heap.size+1:=by simp
 have T1:=zZ (cread_any A n c bs _ (hKt.below hB0) (hg.below hB0) hn hc hb (hr.below hB0) hlen)
 have a0:=(hbk.to hB0).cell (j:=0) rfl
 have H0:=zZ hB0
 have P0:=zZ p0
 have S0:=zZ s0
 clear hB0 p0 s0 hKt hg hn hb hr hbk
 go_enter Tryz.func23,Tryz.ntmps23
 go_wp2_with fail
 generalize w.alloc (.cells #[.slice none 0 0,.slice none 0 0,.slice none 0 0] 28)=w0 at *
 refine T1.out.mono ?_
 rintro r w1 ⟨⟨h0,A1,n1,c1,B1,m1,d1,C1,k1,e1,rfl,hrg⟩ | ⟨h0,rfl⟩,hB1⟩
 ·have q0:=P0.out.to hB1
  have e0:=q0.cell (j:=0) rfl
  have e1':=q0.cell (j:=1) rfl
  have e2:=q0.cell (j:=2) rfl
  have z0:=q0.frozen 0
  have z1:=q0.frozen 1
  have z2:=q0.frozen 2
  have Q0:=zZ q0
  have Hc:=zZ h0
  have Hrg:=zZ hrg
  have HB:=zZ (H0.out.trans (hB1.mono H0.out.size))
  have HB1:=zZ hB1
  clear h0 hrg hB1 T1 q0
  go_wp2
  have P9:=((Q0.out.set 0 (.slice A1 n1 c1)).set 1 (.slice B1 m1 d1)).set 2 (.slice C1 k1 e1)
  refine ret_cell0 (d:=.struct _) (cs:=[.slice A1 n1 c1,.slice B1 m1 d1,.slice C1 k1 e1]) rfl P9 rfl rfl rfl rfl rfl ?_
  have m6:=S0.out
  refine⟨.inl ⟨Hc.out,A1,n1,c1,B1,m1,d1,C1,k1,e1,rfl,rGr_stays.to (fun j hj=>?_) Hrg.out⟩,((HB.out.setCell (p:=⟨w.heap.size,0,none⟩) (zW _) _).setCell (p:=⟨w.heap.size,1,none⟩) (zW _) _).setCell (p:=⟨w.heap.size,2,none⟩) (zW _) _⟩
  obtain⟨j1,j2⟩:=hj
  have hne:j≠w.heap.size:=by omega
  refine⟨⟨by omega,by simpa using j2⟩,?_⟩
  rw[Below.heap_setCell _ _ _ _ hne,Below.heap_setCell _ _ _ _ hne,Below.heap_setCell _ _ _ _ hne]
 ·have Hc:=zZ h0
  have HB:=zZ (H0.out.trans (hB1.mono H0.out.size))
  clear h0 hB1 T1
  unfold Wrong
  go_wp2_with fail
  exact⟨rfl,.inr ⟨Hc.out,rfl⟩,HB.out⟩
theorem cget_any (A:Option Addr) (n c:Nat) (bs:List Nat) (w:World) (hKt:Kt w) (hg:Han w) (hn:bs.length=n) (hc:n≤c) (hb:∀ x∈bs,x<256) (hr:Rd w A (u8s bs)) (hlen:n≤1000000):
  Calls Tryz.prog 8 #[.slice A n c] w fun r w'=>∃ A1 n1 c1 B1 m1 d1 C1 k1 e1,r=.returned (.tuple #[.agg #[.slice A1 n1 c1,.slice B1 m1 d1,.slice C1 k1 e1],.int .i64 (codeG bs).2])∧rGr (All w') w' [.slice A1 n1 c1,.slice B1 m1 d1,.slice C1 k1 e1] (codeG bs).1∧Below w.heap.size w w':=by
 rw[← codeQ_eq hb]
 have hmf:∀ (fn:Fn) (first cap:Array Value) (w:World),(Instr.makeFunc fn first cap).run Tryz.prog w=.ok (.func fn first cap) w:=fun _ _ _ _=>rfl
 have hB0:Below w.heap.size w ((w.alloc (.cells #[.slice A n c] 29)).alloc (.cells #[.slice none 0 0,.slice none 0 0,.slice none 0 0] 28)):=((zA _ w).alloc (zW _) _).alloc (by simp) _
 obtain⟨p0,q0⟩:=blk_two w 29 28 [.slice A n c] [.slice none 0 0,.slice none 0 0,.slice none 0 0]
 have T1:=zZ (answerG_any (Bad:=fun k=>(codeQ bs).2≠0∧k=(codeQ bs).2) w.heap.size (if (codeQ bs).2=0 then (codeQ bs).1 else noG) _ (fun W hW=>(cget1_any w.heap.size n c A bs W (p0.to hW) (hKt.below (hB0.trans (hW.mono hB0.size))) (hg.below (hB0.trans (hW.mono hB0.size))) hn hc hb (hr.below (hB0.trans (hW.mono hB0.size))) hlen).mono fun r w' ⟨h,hB⟩=>⟨hB,by
  rcases h with⟨h0,A1,n1,c1,B1,m1,d1,C1,k1,e1,rfl,h2⟩ | ⟨h0,rfl⟩
  ·exact .inl ⟨A1,n1,c1,B1,m1,d1,C1,k1,e1,rfl,by rw[if_pos h0];exact h2⟩
  ·exact .inr ⟨_,rfl,h0,rfl⟩⟩))
 have H0:=zZ hB0
 have Q0:=zZ q0
 have S0:Hid (((w.alloc (.cells #[.slice A n c] 29)).alloc (.cells #[.slice none 0 0,.slice none 0 0,.slice none 0 0] 28)).heap.size=w.heap.size+1+1):=zZ (by simp)
 clear hB0 p0 q0 hKt hg hn hb hr
 go_enter Tryz.func8,Tryz.ntmps8
 go_wp2_with fail
 generalize (w.alloc (.cells #[.slice A n c] 29)).alloc (.cells #[.slice none 0 0,.slice none 0 0,.slice none 0 0] 28)=w0 at *
 refine T1.out.mono ?_
 rintro r w1 ⟨hB1,⟨A1,n1,c1,B1,m1,d1,C1,k1,e1,rfl,hrg⟩ | ⟨k,rfl,h0,rfl⟩⟩
 ·have h0:(codeQ bs).2=0:=by
   by_cases h:(codeQ bs).2=0
   ·exact h
   ·rw[if_neg h] at hrg;exact (noG_no _ _ _ _ _ _ _ _ _ hrg).elim
  rw[if_pos h0] at hrg
  have q1:=Q0.out.to hB1
  have e0:=q1.cell (j:=0) rfl
  have e1':=q1.cell (j:=1) rfl
  have e2:=q1.cell (j:=2) rfl
  have z0:=q1.frozen 0
  have z1:=q1.frozen 1
  have z2:=q1.frozen 2
  have Q1:=zZ q1
  have Hc:=zZ h0
  have Hrg:=zZ hrg
  have HB:=zZ (H0.out.trans (hB1.mono H0.out.size))
  clear h0 hrg hB1 T1 q1
  go_wp2
  have P9:=((Q1.out.set 0 (.slice A1 n1 c1)).set 1 (.slice B1 m1 d1)).set 2 (.slice C1 k1 e1)
  refine ret_cell1 (d:=.struct _) (cs:=[.slice A1 n1 c1,.slice B1 m1 d1,.slice C1 k1 e1]) rfl P9 rfl rfl rfl rfl rfl ?_
  refine⟨A1,n1,c1,B1,m1,d1,C1,k1,e1,(show Ending.returned (.tuple #[.agg #[.slice A1 n1 c1,.slice B1 m1 d1,.slice C1 k1 e1],.int .i64 0])=_ by rw[Hc.out]),?_,((HB.out.setCell (p:=⟨w.heap.size+1,0,none⟩) (by simp) _).setCell (p:=⟨w.heap.size+1,1,none⟩) (by simp) _).setCell (p:=⟨w.heap.size+1,2,none⟩) (by simp) _⟩
  refine rGr_stays.to (fun j hj=>?_) Hrg.out
  obtain⟨j1,j2⟩:=hj
  have m6:=S0.out
  have hne:j≠w.heap.size+1:=by omega
  refine⟨by show j<_;simpa using j2,?_⟩
  rw[Below.heap_setCell _ _ _ _ hne,Below.heap_setCell _ _ _ _ hne,Below.heap_setCell _ _ _ _ hne]
 ·have HZ:=zZ (codeQ_zero h0)
  have q1:=Q0.out.to hB1
  have e0:=q1.cell (j:=0) rfl
  have e1':=q1.cell (j:=1) rfl
  have e2:=q1.cell (j:=2) rfl
  have z0:=q1.frozen 0
  have z1:=q1.frozen 1
  have z2:=q1.frozen 2
  have Q1:=zZ q1
  have HB:=zZ (H0.out.trans (hB1.mono H0.out.size))
  clear h0 hB1 T1 q1
  go_wp2
  have P9:=((Q1.out.set 0 (.slice none 0 0)).set 1 (.slice none 0 0)).set 2 (.slice none 0 0)
  refine ret_cell1 (d:=.struct _) (cs:=[.slice none 0 0,.slice none 0 0,.slice none 0 0]) rfl P9 rfl rfl rfl rfl rfl ?_
  exact⟨none,0,0,none,0,0,none,0,0,rfl,by rw[HZ.out];exact rGr_none _,((HB.out.setCell (p:=⟨w.heap.size+1,0,none⟩) (by simp) _).setCell (p:=⟨w.heap.size+1,1,none⟩) (by simp) _).setCell (p:=⟨w.heap.size+1,2,none⟩) (by simp) _⟩
end Go.Proofs.YtdlkmjfbmenedaaGreatDoor
