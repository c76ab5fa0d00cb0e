/- DeltaTells: what becomes of any graph, that is any other one then, and what any delta makes of any graph, is what the document says, or why not. Conditions: the table of kinds' texts is laid; the graphs' texts have at most 1048576 bytes, which the row's second form has. -/
import Derived.Test.YtnljjnkindjeoaaGreatDoorDeRef6
import Derived.Test.YtnljjnkindjeoaaGreatDoorDeRef5
import Derived.Test.YtnljjnkindjeoaaGreatDoorDeRef2
import Derived.Test.YtnljjnkindjeoaaGreatDoorDeAwake
import Derived.Test.YtnljjnkindjeoaaGreatDoorDeFew
import Derived.Test.YtnljjnkindjeoaaGreatDoorDeApply
import Derived.Test.YtnljjnkindjeoaaGreatDoorDeMake
import Derived.Test.YtnljjnkindjeoaaGreatDoorDeSame
import Derived.Test.YtnljjnkindjeoaaGreatDoorGRef
import Derived.Test.YtnljjnkindjeoaaGreatDoorGGraph
import Derived.Test.YtnljjnkindjeoaaGreatDoorAl
set_option maxRecDepth 100000
set_option maxHeartbeats 8000000
namespace Go.Proofs.YtnljjnkindjeoaaGreatDoor
open Go.RowKit
theorem deltaTells_walk (w:World) (hL:Kt w) (cs:Array Value) (x:Gr) (hx:rGr (All w) w cs.toList x) (hsx:shortG x) (cs1:Array Value) (y:Gr) (hy:rGr (All w) w cs1.toList y) (hsy:shortG y) (cs3:Array Value) (q:Dlt) (hq:rDlt (All w) w cs3.toList q) (cs2:Array Value) (r:Dlt) (hr:rDlt (All w) w cs2.toList r):
  Calls Tryz.prog 3 #[.agg cs,.agg cs1,.agg cs3,.agg cs2] w fun e w'=>e=.returned (.bool true)∧Below w.heap.size w w':=by
 obtain⟨A,c,B,d,C,e,rfl,hx⟩:=gr_arg hx
 obtain⟨A1,c1,B1,d1,C1,e1,rfl,hy⟩:=gr_arg hy
 obtain⟨R3,rc3,L3,lc3,rfl,hq⟩:=dlt_arg hq
 obtain⟨R2,rc2,L2,lc2,rfl,hr⟩:=dlt_arg hr
 have hB0:Below w.heap.size w ((((w.alloc (.cells #[.slice A x.1.length c,.slice B x.2.1.length d,.slice C x.2.2.length e] 28)).alloc (.cells #[.slice A1 y.1.length c1,.slice B1 y.2.1.length d1,.slice C1 y.2.2.length e1] 28)).alloc (.cells #[.int .u32 q.1,.slice R3 q.2.1.length rc3,.slice L3 q.2.2.length lc3] 32)).alloc (.cells #[.int .u32 r.1,.slice R2 r.2.1.length rc2,.slice L2 r.2.2.length lc2] 32)):=(((((zA _ w).alloc (zW _) _).alloc (by simp) _).alloc (by simp;omega) _).alloc (by simp;omega) _)
 obtain⟨p4x,p4y,p4q,p4r⟩:=four_boxes w (.cells #[.slice A x.1.length c,.slice B x.2.1.length d,.slice C x.2.2.length e] 28) (.cells #[.slice A1 y.1.length c1,.slice B1 y.2.1.length d1,.slice C1 y.2.2.length e1] 28) (.cells #[.int .u32 q.1,.slice R3 q.2.1.length rc3,.slice L3 q.2.2.length lc3] 32) (.cells #[.int .u32 r.1,.slice R2 r.2.1.length rc2,.slice L2 r.2.2.length lc2] 32)
 have px:Blk ((((w.alloc (.cells #[.slice A x.1.length c,.slice B x.2.1.length d,.slice C x.2.2.length e] 28)).alloc (.cells #[.slice A1 y.1.length c1,.slice B1 y.2.1.length d1,.slice C1 y.2.2.length e1] 28)).alloc (.cells #[.int .u32 q.1,.slice R3 q.2.1.length rc3,.slice L3 q.2.2.length lc3] 32)).alloc (.cells #[.int .u32 r.1,.slice R2 r.2.1.length rc2,.slice L2 r.2.2.length lc2] 32)) (w.heap.size) 28 [.slice A x.1.length c,.slice B x.2.1.length d,.slice C x.2.2.length e]:=p4x
 have py:Blk ((((w.alloc (.cells #[.slice A x.1.length c,.slice B x.2.1.length d,.slice C x.2.2.length e] 28)).alloc (.cells #[.slice A1 y.1.length c1,.slice B1 y.2.1.length d1,.slice C1 y.2.2.length e1] 28)).alloc (.cells #[.int .u32 q.1,.slice R3 q.2.1.length rc3,.slice L3 q.2.2.length lc3] 32)).alloc (.cells #[.int .u32 r.1,.slice R2 r.2.1.length rc2,.slice L2 r.2.2.length lc2] 32)) (w.heap.size+1) 28 [.slice A1 y.1.length c1,.slice B1 y.2.1.length d1,.slice C1 y.2.2.length e1]:=p4y
 have pq:Blk ((((w.alloc (.cells #[.slice A x.1.length c,.slice B x.2.1.length d,.slice C x.2.2.length e] 28)).alloc (.cells #[.slice A1 y.1.length c1,.slice B1 y.2.1.length d1,.slice C1 y.2.2.length e1] 28)).alloc (.cells #[.int .u32 q.1,.slice R3 q.2.1.length rc3,.slice L3 q.2.2.length lc3] 32)).alloc (.cells #[.int .u32 r.1,.slice R2 r.2.1.length rc2,.slice L2 r.2.2.length lc2] 32)) (w.heap.size+2) 32 [.int .u32 q.1,.slice R3 q.2.1.length rc3,.slice L3 q.2.2.length lc3]:=p4q
 have pr:Blk ((((w.alloc (.cells #[.slice A x.1.length c,.slice B x.2.1.length d,.slice C x.2.2.length e] 28)).alloc (.cells #[.slice A1 y.1.length c1,.slice B1 y.2.1.length d1,.slice C1 y.2.2.length e1] 28)).alloc (.cells #[.int .u32 q.1,.slice R3 q.2.1.length rc3,.slice L3 q.2.2.length lc3] 32)).alloc (.cells #[.int .u32 r.1,.slice R2 r.2.1.length rc2,.slice L2 r.2.2.length lc2] 32)) (w.heap.size+3) 32 [.int .u32 r.1,.slice R2 r.2.1.length rc2,.slice L2 r.2.2.length lc2]:=p4r
 clear p4x p4y p4q p4r
 have Fx:=zZ (fun W (hW:Below w.heap.size w W)=>gfew_any A B C x.1.length c x.2.1.length d x.2.2.length e x W (gr_below hW hx))
 have Rx:=zZ (fun W (hW:Below w.heap.size w W)=>gr_below hW hx)
 have Fy:=zZ (fun W (hW:Below w.heap.size w W)=>gfew_any A1 B1 C1 y.1.length c1 y.2.1.length d1 y.2.2.length e1 y W (gr_below hW hy))
 have Ry:=zZ (fun W (hW:Below w.heap.size w W)=>gr_below hW hy)
 have Fq:=zZ (fun W (hW:Below w.heap.size w W)=>dfew_any R3 L3 q.2.1.length rc3 q.2.2.length lc3 q W (dlt_below hW hq))
 have Rq:=zZ (fun W (hW:Below w.heap.size w W)=>dlt_below hW hq)
 have Lq:Hid (fewD q=true→q.2.2.length≤1000000):=zZ (fun e=>by rw[fewD,Bool.and_eq_true,Bool.and_eq_true,decide_eq_true_eq] at e;omega)
 have LRq:Hid (fewD q=true→q.2.1.length≤1000000):=zZ (fun e=>by rw[fewD,Bool.and_eq_true,Bool.and_eq_true,decide_eq_true_eq,decide_eq_true_eq] at e;omega)
 have Fr:=zZ (fun W (hW:Below w.heap.size w W)=>dfew_any R2 L2 r.2.1.length rc2 r.2.2.length lc2 r W (dlt_below hW hr))
 have Rr:=zZ (fun W (hW:Below w.heap.size w W)=>dlt_below hW hr)
 have Lr:Hid (fewD r=true→r.2.2.length≤1000000):=zZ (fun e=>by rw[fewD,Bool.and_eq_true,Bool.and_eq_true,decide_eq_true_eq] at e;omega)
 have LRr:Hid (fewD r=true→r.2.1.length≤1000000):=zZ (fun e=>by rw[fewD,Bool.and_eq_true,Bool.and_eq_true,decide_eq_true_eq,decide_eq_true_eq] at e;omega)
 have Htx:=zZ (fun hf=>(short_tame (g:=x) hf hsx).2)
 clear hsx
 have Hty:=zZ (fun hf=>(short_tame (g:=y) hf hsy).2)
 clear hsy
 have HK:=zZ (fun W (hW:Below w.heap.size w W)=>hL.below hW)
 have Px:=zZ px
 have Py:=zZ py
 have Pq:=zZ pq
 have Pr:=zZ pr
 have H0:=zZ hB0
 clear hL hB0 hx px hy py hq pq hr pr
 generalize hfx:fewG x=fx at *
 have HFx:=zZ hfx
 clear hfx
 generalize hNx:x.1.length=N at *
 have HNx:=zZ hNx
 clear hNx
 generalize hMx:x.2.1.length=M at *
 have HMx:=zZ hMx
 clear hMx
 generalize hKx:x.2.2.length=K at *
 have HKx:=zZ hKx
 clear hKx
 generalize hfy:fewG y=fy at *
 have HFy:=zZ hfy
 clear hfy
 generalize hNy:y.1.length=N1 at *
 have HNy:=zZ hNy
 clear hNy
 generalize hMy:y.2.1.length=M1 at *
 have HMy:=zZ hMy
 clear hMy
 generalize hKy:y.2.2.length=K1 at *
 have HKy:=zZ hKy
 clear hKy
 generalize hfq:fewD q=fq at *
 have HFq:=zZ hfq
 clear hfq
 generalize hrnq:q.2.1.length=rn3 at *
 have Hrnq:=zZ hrnq
 clear hrnq
 generalize hlnq:q.2.2.length=ln3 at *
 have Hlnq:=zZ hlnq
 clear hlnq
 generalize huq:q.1=u3 at *
 have Huq:=zZ huq
 clear huq
 generalize hfr:fewD r=fr at *
 have HFr:=zZ hfr
 clear hfr
 generalize hrnr:r.2.1.length=rn2 at *
 have Hrnr:=zZ hrnr
 clear hrnr
 generalize hlnr:r.2.2.length=ln2 at *
 have Hlnr:=zZ hlnr
 clear hlnr
 generalize hur:r.1=u2 at *
 have Hur:=zZ hur
 clear hur
 go_enter Tryz.func3,Tryz.ntmps3
 go_wp2_with fail
 generalize ((((w.alloc (.cells #[.slice A N c,.slice B M d,.slice C K e] 28)).alloc (.cells #[.slice A1 N1 c1,.slice B1 M1 d1,.slice C1 K1 e1] 28)).alloc (.cells #[.int .u32 u3,.slice R3 rn3 rc3,.slice L3 ln3 lc3] 32)).alloc (.cells #[.int .u32 u2,.slice R2 rn2 rc2,.slice L2 ln2 lc2] 32))=w1 at *
 refine (dawake_any _ (HK.out _ H0.out)).mono ?_
 rintro r wk ⟨rfl,hBk⟩
 have HA:=zZ (H0.out.trans (hBk.mono H0.out.size))
 replace Px:=zZ (Px.out.to hBk)
 replace Py:=zZ (Py.out.to hBk)
 replace Pq:=zZ (Pq.out.to hBk)
 replace Pr:=zZ (Pr.out.to hBk)
 clear hBk H0
 have a0:=Px.out.cell (j:=0) rfl
 have a1:=Px.out.cell (j:=1) rfl
 have a2:=Px.out.cell (j:=2) rfl
 go_wp2_with fail
 refine (Fx.out _ HA.out).mono ?_
 rintro r wf0 ⟨rfl,hBk⟩
 have HA0:=zZ (HA.out.trans (hBk.mono HA.out.size))
 replace Px:=zZ (Px.out.to hBk)
 replace Py:=zZ (Py.out.to hBk)
 replace Pq:=zZ (Pq.out.to hBk)
 replace Pr:=zZ (Pr.out.to hBk)
 clear a0 a1 a2 hBk HA
 have HA:=HA0
 clear HA0
 have a0:=Py.out.cell (j:=0) rfl
 have a1:=Py.out.cell (j:=1) rfl
 have a2:=Py.out.cell (j:=2) rfl
 go_wp2_with fail
 refine (Fy.out _ HA.out).mono ?_
 rintro r wf1 ⟨rfl,hBk⟩
 have HA1:=zZ (HA.out.trans (hBk.mono HA.out.size))
 replace Px:=zZ (Px.out.to hBk)
 replace Py:=zZ (Py.out.to hBk)
 replace Pq:=zZ (Pq.out.to hBk)
 replace Pr:=zZ (Pr.out.to hBk)
 clear a0 a1 a2 hBk HA
 have HA:=HA1
 clear HA1
 have a0:=Pq.out.cell (j:=0) rfl
 have a1:=Pq.out.cell (j:=1) rfl
 have a2:=Pq.out.cell (j:=2) rfl
 go_wp2_with fail
 refine (Fq.out _ HA.out).mono ?_
 rintro r wf2 ⟨rfl,hBk⟩
 have HA2:=zZ (HA.out.trans (hBk.mono HA.out.size))
 replace Px:=zZ (Px.out.to hBk)
 replace Py:=zZ (Py.out.to hBk)
 replace Pq:=zZ (Pq.out.to hBk)
 replace Pr:=zZ (Pr.out.to hBk)
 clear a0 a1 a2 hBk HA
 have HA:=HA2
 clear HA2
 have a0:=Pr.out.cell (j:=0) rfl
 have a1:=Pr.out.cell (j:=1) rfl
 have a2:=Pr.out.cell (j:=2) rfl
 go_wp2_with fail
 refine (Fr.out _ HA.out).mono ?_
 rintro r wf3 ⟨rfl,hBk⟩
 have HA3:=zZ (HA.out.trans (hBk.mono HA.out.size))
 replace Px:=zZ (Px.out.to hBk)
 replace Py:=zZ (Py.out.to hBk)
 replace Pq:=zZ (Pq.out.to hBk)
 replace Pr:=zZ (Pr.out.to hBk)
 clear a0 a1 a2 hBk HA
 have HA:=HA3
 clear HA3
 cases fx
 ·go_wp2
  go_ret
  exact⟨rfl,HA.out⟩
 cases fy
 ·go_wp2
  go_ret
  exact⟨rfl,HA.out⟩
 cases fq
 ·go_wp2
  go_ret
  exact⟨rfl,HA.out⟩
 cases fr
 ·go_wp2
  go_ret
  exact⟨rfl,HA.out⟩
 replace Rx:=zZ (Rx.out _ HA.out)
 replace Ry:=zZ (Ry.out _ HA.out)
 replace Rq:=zZ (Rq.out _ HA.out)
 replace Rr:=zZ (Rr.out _ HA.out)
 replace Htx:=zZ (Htx.out rfl)
 replace Hty:=zZ (Hty.out rfl)
 replace Lq:=zZ (Lq.out rfl)
 replace LRq:=zZ (LRq.out rfl)
 replace Lr:=zZ (Lr.out rfl)
 replace LRr:=zZ (LRr.out rfl)
 have kc1:=Px.out.cell (j:=0) rfl
 have kc2:=Px.out.cell (j:=1) rfl
 have kc3:=Px.out.cell (j:=2) rfl
 have kc4:=Py.out.cell (j:=0) rfl
 have kc5:=Py.out.cell (j:=1) rfl
 have kc6:=Py.out.cell (j:=2) rfl
 go_wp2_with fail
 refine (dmake_any A B C N c M d K e A1 B1 C1 N1 c1 M1 d1 K1 e1 x y _ (HK.out _ HA.out) Rx.out Ry.out).mono ?_
 rintro r wq7 ⟨BD1,dD1,CD1,eD1,rfl,hD1,hBq⟩
 replace Px:=zZ (Px.out.to hBq)
 replace Py:=zZ (Py.out.to hBq)
 replace Pq:=zZ (Pq.out.to hBq)
 replace Pr:=zZ (Pr.out.to hBq)
 replace Rx:=zZ (gr_below hBq Rx.out)
 replace Ry:=zZ (gr_below hBq Ry.out)
 replace Rq:=zZ (dlt_below hBq Rq.out)
 replace Rr:=zZ (dlt_below hBq Rr.out)
 have HAn:=zZ (HA.out.trans (hBq.mono HA.out.size))
 clear HA
 have HA:=HAn
 clear HAn
 clear hBq kc1 kc2 kc3 kc4 kc5 kc6
 generalize huD1:(makeD x y).1=uD1 at *
 have HuD1:=zZ huD1
 clear huD1
 generalize hrD1:(makeD x y).2.1.length=rD1 at *
 have HrD1:=zZ hrD1
 clear hrD1
 generalize hlD1:(makeD x y).2.2.length=lD1 at *
 have HlD1:=zZ hlD1
 clear hlD1
 have RD1:=zZ hD1
 clear hD1
 have hBq:Below wq7.heap.size wq7 (wq7.alloc (.cells #[.int .u32 uD1,.slice BD1 rD1 dD1,.slice CD1 lD1 eD1] 32)):=(zA _ wq7).alloc (zW _) _
 replace Px:=zZ (Px.out.to hBq)
 replace Py:=zZ (Py.out.to hBq)
 replace Pq:=zZ (Pq.out.to hBq)
 replace Pr:=zZ (Pr.out.to hBq)
 replace Rx:=zZ (gr_below hBq Rx.out)
 replace Ry:=zZ (gr_below hBq Ry.out)
 replace Rq:=zZ (dlt_below hBq Rq.out)
 replace Rr:=zZ (dlt_below hBq Rr.out)
 replace RD1:=zZ (dlt_below hBq RD1.out)
 have HAn:=zZ (HA.out.trans (hBq.mono HA.out.size))
 clear HA
 have HA:=HAn
 clear HAn
 have PD1:=zZ (Blk.new wq7 32 [.int .u32 uD1,.slice BD1 rD1 dD1,.slice CD1 lD1 eD1])
 clear hBq
 have kc9:=Px.out.cell (j:=0) rfl
 have kc10:=Px.out.cell (j:=1) rfl
 have kc11:=Px.out.cell (j:=2) rfl
 have kc12:=Py.out.cell (j:=0) rfl
 have kc13:=Py.out.cell (j:=1) rfl
 have kc14:=Py.out.cell (j:=2) rfl
 go_wp2_with fail
 generalize wq7.alloc (.cells #[.int .u32 uD1,.slice BD1 rD1 dD1,.slice CD1 lD1 eD1] 32)=wb8 at *
 have TM:=zZ (rdmake_any A B C N c M d K e A1 B1 C1 N1 c1 M1 d1 K1 e1 x y _ Htx.out Hty.out Rx.out Ry.out)
 rw[HuD1.out,HrD1.out,HlD1.out] at TM
 refine (TM.out).mono ?_
 rintro r wq15 ⟨BD2,dD2,CD2,eD2,rfl,hD2,hBq⟩
 clear TM
 replace Px:=zZ (Px.out.to hBq)
 replace Py:=zZ (Py.out.to hBq)
 replace Pq:=zZ (Pq.out.to hBq)
 replace Pr:=zZ (Pr.out.to hBq)
 replace PD1:=zZ (PD1.out.to hBq)
 replace Rx:=zZ (gr_below hBq Rx.out)
 replace Ry:=zZ (gr_below hBq Ry.out)
 replace Rq:=zZ (dlt_below hBq Rq.out)
 replace Rr:=zZ (dlt_below hBq Rr.out)
 replace RD1:=zZ (dlt_below hBq RD1.out)
 have HAn:=zZ (HA.out.trans (hBq.mono HA.out.size))
 clear HA
 have HA:=HAn
 clear HAn
 clear hBq kc9 kc10 kc11 kc12 kc13 kc14
 have RD2:=zZ hD2
 clear hD2
 have hBq:Below wq15.heap.size wq15 (wq15.alloc (.cells #[.int .u32 uD1,.slice BD2 rD1 dD2,.slice CD2 lD1 eD2] 32)):=(zA _ wq15).alloc (zW _) _
 replace Px:=zZ (Px.out.to hBq)
 replace Py:=zZ (Py.out.to hBq)
 replace Pq:=zZ (Pq.out.to hBq)
 replace Pr:=zZ (Pr.out.to hBq)
 replace PD1:=zZ (PD1.out.to hBq)
 replace Rx:=zZ (gr_below hBq Rx.out)
 replace Ry:=zZ (gr_below hBq Ry.out)
 replace Rq:=zZ (dlt_below hBq Rq.out)
 replace Rr:=zZ (dlt_below hBq Rr.out)
 replace RD1:=zZ (dlt_below hBq RD1.out)
 replace RD2:=zZ (dlt_below hBq RD2.out)
 have HAn:=zZ (HA.out.trans (hBq.mono HA.out.size))
 clear HA
 have HA:=HAn
 clear HAn
 have PD2:=zZ (Blk.new wq15 32 [.int .u32 uD1,.slice BD2 rD1 dD2,.slice CD2 lD1 eD2])
 clear hBq
 have kc17:=Px.out.cell (j:=0) rfl
 have kc18:=Px.out.cell (j:=1) rfl
 have kc19:=Px.out.cell (j:=2) rfl
 have kc20:=Pq.out.cell (j:=0) rfl
 have kc21:=Pq.out.cell (j:=1) rfl
 have kc22:=Pq.out.cell (j:=2) rfl
 go_wp2_with fail
 generalize wq15.alloc (.cells #[.int .u32 uD1,.slice BD2 rD1 dD2,.slice CD2 lD1 eD2] 32)=wb16 at *
 have TA:=zZ (dapply_any A B C N c M d K e x R3 L3 rn3 rc3 ln3 lc3 q _ (HK.out _ HA.out) Rx.out (by rw[Huq.out];exact Rq.out) Lq.out)
 rw[Huq.out] at TA
 refine (TA.out).mono ?_
 rintro r wq23 ⟨AV1,cV1,BV1,dV1,CV1,eV1,rfl,hV1,hBq⟩
 clear TA
 replace Px:=zZ (Px.out.to hBq)
 replace Py:=zZ (Py.out.to hBq)
 replace Pq:=zZ (Pq.out.to hBq)
 replace Pr:=zZ (Pr.out.to hBq)
 replace PD1:=zZ (PD1.out.to hBq)
 replace PD2:=zZ (PD2.out.to hBq)
 replace Rx:=zZ (gr_below hBq Rx.out)
 replace Ry:=zZ (gr_below hBq Ry.out)
 replace Rq:=zZ (dlt_below hBq Rq.out)
 replace Rr:=zZ (dlt_below hBq Rr.out)
 replace RD1:=zZ (dlt_below hBq RD1.out)
 replace RD2:=zZ (dlt_below hBq RD2.out)
 have HAn:=zZ (HA.out.trans (hBq.mono HA.out.size))
 clear HA
 have HA:=HAn
 clear HAn
 clear hBq kc17 kc18 kc19 kc20 kc21 kc22
 generalize hNV1:((applyD x q).1).1.length=NV1 at *
 clear hNV1
 generalize hMV1:((applyD x q).1).2.1.length=MV1 at *
 clear hMV1
 generalize hKV1:((applyD x q).1).2.2.length=KV1 at *
 clear hKV1
 have RV1:=zZ hV1
 clear hV1
 have hBq:Below wq23.heap.size wq23 (wq23.alloc (.cells #[.slice AV1 NV1 cV1,.slice BV1 MV1 dV1,.slice CV1 KV1 eV1] 28)):=(zA _ wq23).alloc (zW _) _
 replace Px:=zZ (Px.out.to hBq)
 replace Py:=zZ (Py.out.to hBq)
 replace Pq:=zZ (Pq.out.to hBq)
 replace Pr:=zZ (Pr.out.to hBq)
 replace PD1:=zZ (PD1.out.to hBq)
 replace PD2:=zZ (PD2.out.to hBq)
 replace Rx:=zZ (gr_below hBq Rx.out)
 replace Ry:=zZ (gr_below hBq Ry.out)
 replace Rq:=zZ (dlt_below hBq Rq.out)
 replace Rr:=zZ (dlt_below hBq Rr.out)
 replace RD1:=zZ (dlt_below hBq RD1.out)
 replace RD2:=zZ (dlt_below hBq RD2.out)
 replace RV1:=zZ (gr_below hBq RV1.out)
 have HAn:=zZ (HA.out.trans (hBq.mono HA.out.size))
 clear HA
 have HA:=HAn
 clear HAn
 have PV1:=zZ (Blk.new wq23 28 [.slice AV1 NV1 cV1,.slice BV1 MV1 dV1,.slice CV1 KV1 eV1])
 clear hBq
 have kc25:=Px.out.cell (j:=0) rfl
 have kc26:=Px.out.cell (j:=1) rfl
 have kc27:=Px.out.cell (j:=2) rfl
 have kc28:=Pq.out.cell (j:=0) rfl
 have kc29:=Pq.out.cell (j:=1) rfl
 have kc30:=Pq.out.cell (j:=2) rfl
 go_wp2_with fail
 generalize wq23.alloc (.cells #[.slice AV1 NV1 cV1,.slice BV1 MV1 dV1,.slice CV1 KV1 eV1] 28)=wb24 at *
 have TA:=zZ (rdapply_any A B C N c M d K e x R3 L3 rn3 rc3 ln3 lc3 q _ Htx.out Rx.out (by rw[Huq.out];exact Rq.out) Lq.out LRq.out)
 rw[Huq.out] at TA
 refine (TA.out).mono ?_
 rintro r wq31 ⟨AV2,cV2,BV2,dV2,CV2,eV2,rfl,hV2,hBq⟩
 clear TA
 replace Px:=zZ (Px.out.to hBq)
 replace Py:=zZ (Py.out.to hBq)
 replace Pq:=zZ (Pq.out.to hBq)
 replace Pr:=zZ (Pr.out.to hBq)
 replace PD1:=zZ (PD1.out.to hBq)
 replace PD2:=zZ (PD2.out.to hBq)
 replace PV1:=zZ (PV1.out.to hBq)
 replace Rx:=zZ (gr_below hBq Rx.out)
 replace Ry:=zZ (gr_below hBq Ry.out)
 replace Rq:=zZ (dlt_below hBq Rq.out)
 replace Rr:=zZ (dlt_below hBq Rr.out)
 replace RD1:=zZ (dlt_below hBq RD1.out)
 replace RD2:=zZ (dlt_below hBq RD2.out)
 replace RV1:=zZ (gr_below hBq RV1.out)
 have HAn:=zZ (HA.out.trans (hBq.mono HA.out.size))
 clear HA
 have HA:=HAn
 clear HAn
 clear hBq kc25 kc26 kc27 kc28 kc29 kc30
 generalize hNV2:((applyD x q).1).1.length=NV2 at *
 clear hNV2
 generalize hMV2:((applyD x q).1).2.1.length=MV2 at *
 clear hMV2
 generalize hKV2:((applyD x q).1).2.2.length=KV2 at *
 clear hKV2
 have RV2:=zZ hV2
 clear hV2
 have hBq:Below wq31.heap.size wq31 (wq31.alloc (.cells #[.slice AV2 NV2 cV2,.slice BV2 MV2 dV2,.slice CV2 KV2 eV2] 28)):=(zA _ wq31).alloc (zW _) _
 replace Px:=zZ (Px.out.to hBq)
 replace Py:=zZ (Py.out.to hBq)
 replace Pq:=zZ (Pq.out.to hBq)
 replace Pr:=zZ (Pr.out.to hBq)
 replace PD1:=zZ (PD1.out.to hBq)
 replace PD2:=zZ (PD2.out.to hBq)
 replace PV1:=zZ (PV1.out.to hBq)
 replace Rx:=zZ (gr_below hBq Rx.out)
 replace Ry:=zZ (gr_below hBq Ry.out)
 replace Rq:=zZ (dlt_below hBq Rq.out)
 replace Rr:=zZ (dlt_below hBq Rr.out)
 replace RD1:=zZ (dlt_below hBq RD1.out)
 replace RD2:=zZ (dlt_below hBq RD2.out)
 replace RV1:=zZ (gr_below hBq RV1.out)
 replace RV2:=zZ (gr_below hBq RV2.out)
 have HAn:=zZ (HA.out.trans (hBq.mono HA.out.size))
 clear HA
 have HA:=HAn
 clear HAn
 have PV2:=zZ (Blk.new wq31 28 [.slice AV2 NV2 cV2,.slice BV2 MV2 dV2,.slice CV2 KV2 eV2])
 clear hBq
 have kc33:=PD1.out.cell (j:=0) rfl
 have kc34:=PD1.out.cell (j:=1) rfl
 have kc35:=PD1.out.cell (j:=2) rfl
 have kc36:=PD2.out.cell (j:=0) rfl
 have kc37:=PD2.out.cell (j:=1) rfl
 have kc38:=PD2.out.cell (j:=2) rfl
 go_wp2_with fail
 generalize wq31.alloc (.cells #[.slice AV2 NV2 cV2,.slice BV2 MV2 dV2,.slice CV2 KV2 eV2] 28)=wb32 at *
 have TS:=zZ (rdsame_any BD1 BD2 CD1 CD2 rD1 dD1 rD1 dD2 lD1 eD1 lD1 eD2 (makeD x y) (makeD x y) _ (by rw[HuD1.out];exact RD1.out) (by rw[HuD1.out];exact RD2.out))
 rw[HuD1.out,show sameD (makeD x y) (makeD x y)=true from sameD_iff.2 rfl] at TS
 refine (TS.out).mono ?_
 rintro r wq39 ⟨rfl,hBq⟩
 clear TS
 replace Px:=zZ (Px.out.to hBq)
 replace Py:=zZ (Py.out.to hBq)
 replace Pq:=zZ (Pq.out.to hBq)
 replace Pr:=zZ (Pr.out.to hBq)
 replace PD1:=zZ (PD1.out.to hBq)
 replace PD2:=zZ (PD2.out.to hBq)
 replace PV1:=zZ (PV1.out.to hBq)
 replace PV2:=zZ (PV2.out.to hBq)
 replace Rx:=zZ (gr_below hBq Rx.out)
 replace Ry:=zZ (gr_below hBq Ry.out)
 replace Rq:=zZ (dlt_below hBq Rq.out)
 replace Rr:=zZ (dlt_below hBq Rr.out)
 replace RD1:=zZ (dlt_below hBq RD1.out)
 replace RD2:=zZ (dlt_below hBq RD2.out)
 replace RV1:=zZ (gr_below hBq RV1.out)
 replace RV2:=zZ (gr_below hBq RV2.out)
 have HAn:=zZ (HA.out.trans (hBq.mono HA.out.size))
 clear HA
 have HA:=HAn
 clear HAn
 clear hBq kc33 kc34 kc35 kc36 kc37 kc38
 have kc40:=PV1.out.cell (j:=0) rfl
 have kc41:=PV1.out.cell (j:=1) rfl
 have kc42:=PV1.out.cell (j:=2) rfl
 have kc43:=PV2.out.cell (j:=0) rfl
 have kc44:=PV2.out.cell (j:=1) rfl
 have kc45:=PV2.out.cell (j:=2) rfl
 go_wp2_with fail
 have TS:=zZ (rgsame_any AV1 BV1 CV1 NV1 cV1 MV1 dV1 KV1 eV1 AV2 BV2 CV2 NV2 cV2 MV2 dV2 KV2 eV2 (applyD x q).1 (applyD x q).1 _ RV1.out RV2.out)
 rw[zJ (rfl:(applyD x q).1=(applyD x q).1)] at TS
 refine (TS.out).mono ?_
 rintro r wq46 ⟨rfl,hBq⟩
 clear TS
 replace Px:=zZ (Px.out.to hBq)
 replace Py:=zZ (Py.out.to hBq)
 replace Pq:=zZ (Pq.out.to hBq)
 replace Pr:=zZ (Pr.out.to hBq)
 replace PD1:=zZ (PD1.out.to hBq)
 replace PD2:=zZ (PD2.out.to hBq)
 replace PV1:=zZ (PV1.out.to hBq)
 replace PV2:=zZ (PV2.out.to hBq)
 replace Rx:=zZ (gr_below hBq Rx.out)
 replace Ry:=zZ (gr_below hBq Ry.out)
 replace Rq:=zZ (dlt_below hBq Rq.out)
 replace Rr:=zZ (dlt_below hBq Rr.out)
 replace RD1:=zZ (dlt_below hBq RD1.out)
 replace RD2:=zZ (dlt_below hBq RD2.out)
 replace RV1:=zZ (gr_below hBq RV1.out)
 replace RV2:=zZ (gr_below hBq RV2.out)
 have HAn:=zZ (HA.out.trans (hBq.mono HA.out.size))
 clear HA
 have HA:=HAn
 clear HAn
 clear hBq kc40 kc41 kc42 kc43 kc44 kc45
 have kc47:=Pr.out.cell (j:=0) rfl
 have kc48:=Pr.out.cell (j:=1) rfl
 have kc49:=Pr.out.cell (j:=2) rfl
 have kc50:=Pq.out.cell (j:=0) rfl
 have kc51:=Pq.out.cell (j:=1) rfl
 have kc52:=Pq.out.cell (j:=2) rfl
 go_wp2_with fail
 have TS:=zZ (rdsame_any R2 R3 L2 L3 rn2 rc2 rn3 rc3 ln2 lc2 ln3 lc3 r q _ (by rw[Hur.out];exact Rr.out) (by rw[Huq.out];exact Rq.out))
 rw[Hur.out,Huq.out] at TS
 refine (TS.out).mono ?_
 rintro r wq53 ⟨rfl,hBq⟩
 clear TS
 replace Px:=zZ (Px.out.to hBq)
 replace Py:=zZ (Py.out.to hBq)
 replace Pq:=zZ (Pq.out.to hBq)
 replace Pr:=zZ (Pr.out.to hBq)
 replace PD1:=zZ (PD1.out.to hBq)
 replace PD2:=zZ (PD2.out.to hBq)
 replace PV1:=zZ (PV1.out.to hBq)
 replace PV2:=zZ (PV2.out.to hBq)
 replace Rx:=zZ (gr_below hBq Rx.out)
 replace Ry:=zZ (gr_below hBq Ry.out)
 replace Rq:=zZ (dlt_below hBq Rq.out)
 replace Rr:=zZ (dlt_below hBq Rr.out)
 replace RD1:=zZ (dlt_below hBq RD1.out)
 replace RD2:=zZ (dlt_below hBq RD2.out)
 replace RV1:=zZ (gr_below hBq RV1.out)
 replace RV2:=zZ (gr_below hBq RV2.out)
 have HAn:=zZ (HA.out.trans (hBq.mono HA.out.size))
 clear HA
 have HA:=HAn
 clear HAn
 clear hBq kc47 kc48 kc49 kc50 kc51 kc52
 generalize hsm:sameD r q=sm at *
 have Hsm:=zZ hsm
 clear hsm
 generalize makeE x y=E1 at *
 generalize (applyD x q).2=E2 at *
 have hE1:(E1 == E1)=true:=by simp
 have hE2:(E2 == E2)=true:=by simp
 have kc54:=Pr.out.cell (j:=0) rfl
 have kc55:=Pr.out.cell (j:=1) rfl
 have kc56:=Pr.out.cell (j:=2) rfl
 have kc57:=Pq.out.cell (j:=0) rfl
 have kc58:=Pq.out.cell (j:=1) rfl
 have kc59:=Pq.out.cell (j:=2) rfl
 go_wp2_with fail
 have TS:=zZ (dsame_any R2 R3 L2 L3 rn2 rc2 rn3 rc3 ln2 lc2 ln3 lc3 r q _ (by rw[Hur.out];exact Rr.out) (by rw[Huq.out];exact Rq.out))
 rw[Hur.out,Huq.out,Hsm.out] at TS
 refine (TS.out).mono ?_
 rintro r wq60 ⟨rfl,hBq⟩
 clear TS
 replace Px:=zZ (Px.out.to hBq)
 replace Py:=zZ (Py.out.to hBq)
 replace Pq:=zZ (Pq.out.to hBq)
 replace Pr:=zZ (Pr.out.to hBq)
 replace PD1:=zZ (PD1.out.to hBq)
 replace PD2:=zZ (PD2.out.to hBq)
 replace PV1:=zZ (PV1.out.to hBq)
 replace PV2:=zZ (PV2.out.to hBq)
 replace Rx:=zZ (gr_below hBq Rx.out)
 replace Ry:=zZ (gr_below hBq Ry.out)
 replace Rq:=zZ (dlt_below hBq Rq.out)
 replace Rr:=zZ (dlt_below hBq Rr.out)
 replace RD1:=zZ (dlt_below hBq RD1.out)
 replace RD2:=zZ (dlt_below hBq RD2.out)
 replace RV1:=zZ (gr_below hBq RV1.out)
 replace RV2:=zZ (gr_below hBq RV2.out)
 have HAn:=zZ (HA.out.trans (hBq.mono HA.out.size))
 clear HA
 have HA:=HAn
 clear HAn
 clear hBq kc54 kc55 kc56 kc57 kc58 kc59
 cases sm
 ·go_wp2
  go_ret
  exact⟨rfl,HA.out⟩
 ·go_wp2
  go_ret
  exact⟨rfl,HA.out⟩
end Go.Proofs.YtnljjnkindjeoaaGreatDoor
