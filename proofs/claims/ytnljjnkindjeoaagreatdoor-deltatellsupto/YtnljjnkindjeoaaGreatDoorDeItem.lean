/- The contract of delta's itemOf: what becomes of an object, of which is told by what stands for it in the Canon. Conditions: what it names. -/
import Derived.Test.YtnljjnkindjeoaaGreatDoorDeFind
import Derived.Test.YtnljjnkindjeoaaGreatDoorGCanon
import Derived.Test.YtnljjnkindjeoaaGreatDoorGGraph
import Derived.Test.YtnljjnkindjeoaaGreatDoorAl
set_option maxRecDepth 100000
set_option maxHeartbeats 8000000
namespace Go.Proofs.YtnljjnkindjeoaaGreatDoor
open Go.RowKit Go.Maps
theorem cels_own {base n:Nat} {w:World} {A:Option Addr} {c:Nat} {xs:List Value} {l:List Cel} (h:w.ownsRow base 66 4 (.slice A n c) n xs) (hn:l.length=n) (hc:Chunks 4 (fun cs x=>∀ S W,rCel S W cs x) xs l):rCels (fun k=>base≤k∧k<w.heap.size) w [.slice A n c] l:=by
 obtain⟨A',c',hv,h1,h2,h3⟩:=own_in h
 injection hv with e1 _ e3
 subst e1 e3
 exact⟨A,c,xs,by rw[hn],by omega,h2,h3,hc.imp fun _ _ hq=>hq _ _⟩
def setD (fr:Int) (was now c:List Vl):List Cel:=if fr = -1 then allC c else (allC c).filter (otherC was now)
theorem itemOf_any (A B C:Option Addr) (N c M d K e:Nat) (A1 B1 C1:Option Addr) (N1 c1 M1 d1 K1 e1:Nat) (g h:Gr) (x fr fi ft:Int) (F:Option Addr) (fl fc:Nat) (cv:List Vl) (w:World) (hg:rGr (All w) w [.slice A N c,.slice B M d,.slice C K e] g) (hh:rGr (All w) w [.slice A1 N1 c1,.slice B1 M1 d1,.slice C1 K1 e1] h) (hf:rVals (All w) w [.slice F fl fc] cv) (hf5:fl≤1000)
  (hfr:fr≠-1→∃ (I:Nat) (o:Ob) (J:Nat) (p:Ob),findG g.2.1 x=(I:Int)∧g.2.1[I]?=some o∧o.1=x∧findG h.2.1 x=(J:Int)∧h.2.1[J]?=some p∧p.1=x∧o.2.2.length=fl∧p.2.2.length=fl):
  Calls Tryz.prog 23 #[.agg #[.slice A N c,.slice B M d,.slice C K e],.agg #[.slice A1 N1 c1,.slice B1 M1 d1,.slice C1 K1 e1],.int .i64 x,.int .i64 fr,.agg #[.int .i64 fi,.int .i64 ft,.slice F fl fc]] w fun r w'=>∃ A9 c9,r=.returned (.agg #[.int .i64 fr,.int .i64 ft,.slice A9 (setD fr (objG g.2.1 x).2.2 (objG h.2.1 x).2.2 cv).length c9]) ∧
   rCels (fun k=>w.heap.size≤k∧k<w'.heap.size) w' [.slice A9 (setD fr (objG g.2.1 x).2.2 (objG h.2.1 x).2.2 cv).length c9] (setD fr (objG g.2.1 x).2.2 (objG h.2.1 x).2.2 cv)∧Below w.heap.size w w':=by
 obtain⟨i0,hi,hz0,hz1,hz2⟩:=info_parts info_cel
 obtain⟨hfl,-,-⟩:=slice_len hf
 have hmf:∀ (fn:Fn) (first cap:Array Value) (w:World),(Instr.makeFunc fn first cap).run Tryz.prog w=.ok (.func fn first cap) w:=fun _ _ _ _=>rfl
 obtain⟨q0,q1,q2,q3⟩:=four_boxes w (.cells #[.slice A N c,.slice B M d,.slice C K e] 28) (.cells #[.slice A1 N1 c1,.slice B1 M1 d1,.slice C1 K1 e1] 28) (.cells #[.int .i64 fi,.int .i64 ft,.slice F fl fc] 53) (.cells #[.int .i64 0,.int .i64 0,.slice none 0 0] 50)
 have hB4:Below w.heap.size w ((((w.alloc (.cells #[.slice A N c,.slice B M d,.slice C K e] 28)).alloc (.cells #[.slice A1 N1 c1,.slice B1 M1 d1,.slice C1 K1 e1] 28)).alloc (.cells #[.int .i64 fi,.int .i64 ft,.slice F fl fc] 53)).alloc (.cells #[.int .i64 0,.int .i64 0,.slice none 0 0] 50)):=((((zA w.heap.size w).alloc (zW _) _).alloc (by simp) _).alloc (by simp;omega) _).alloc (by simp;omega) _
 have s4:((((w.alloc (.cells #[.slice A N c,.slice B M d,.slice C K e] 28)).alloc (.cells #[.slice A1 N1 c1,.slice B1 M1 d1,.slice C1 K1 e1] 28)).alloc (.cells #[.int .i64 fi,.int .i64 ft,.slice F fl fc] 53)).alloc (.cells #[.int .i64 0,.int .i64 0,.slice none 0 0] 50)).heap.size=w.heap.size+1+1+1+1:=by simp
 have b4:=Blk.new ((((w.alloc (.cells #[.slice A N c,.slice B M d,.slice C K e] 28)).alloc (.cells #[.slice A1 N1 c1,.slice B1 M1 d1,.slice C1 K1 e1] 28)).alloc (.cells #[.int .i64 fi,.int .i64 ft,.slice F fl fc] 53)).alloc (.cells #[.int .i64 0,.int .i64 0,.slice none 0 0] 50)) 50 [.int .i64 fr,.int .i64 ft,.slice none 0 0]
 rw[s4] at b4
 have hB1:=hB4.alloc hB4.size (.cells #[.int .i64 fr,.int .i64 ft,.slice none 0 0] 50)
 have P0:Hid (Blk _ w.heap.size 28 [.slice A N c,.slice B M d,.slice C K e]):=zZ (Blk.alloc (t:=28) (cs:=[.slice A N c,.slice B M d,.slice C K e]) q0 (.cells #[.int .i64 fr,.int .i64 ft,.slice none 0 0] 50))
 have P1:Hid (Blk _ (w.heap.size+1) 28 [.slice A1 N1 c1,.slice B1 M1 d1,.slice C1 K1 e1]):=zZ (Blk.alloc (t:=28) (cs:=[.slice A1 N1 c1,.slice B1 M1 d1,.slice C1 K1 e1]) q1 (.cells #[.int .i64 fr,.int .i64 ft,.slice none 0 0] 50))
 have P2:Hid (Blk _ (w.heap.size+2) 53 [.int .i64 fi,.int .i64 ft,.slice F fl fc]):=zZ (Blk.alloc (t:=53) (cs:=[.int .i64 fi,.int .i64 ft,.slice F fl fc]) q2 (.cells #[.int .i64 fr,.int .i64 ft,.slice none 0 0] 50))
 have P3:Hid (Blk _ (w.heap.size+3) 50 [.int .i64 0,.int .i64 0,.slice none 0 0]):=zZ (Blk.alloc (t:=50) (cs:=[.int .i64 0,.int .i64 0,.slice none 0 0]) q3 (.cells #[.int .i64 fr,.int .i64 ft,.slice none 0 0] 50))
 have P4:=zZ b4
 have k1:=Blk.cell (t:=53) (cs:=[.int .i64 fi,.int .i64 ft,.slice F fl fc]) q2 (j:=1) rfl
 have k2:=P2.out.cell (j:=2) rfl
 have HB1:=zZ hB1
 have Hg:Hid (rGr (fun k=>k<w.heap.size) _ [.slice A N c,.slice B M d,.slice C K e] g):=zZ (rGr_stays.to (S:=All w) (fun k hk=>⟨hk,hB1.block k hk⟩) hg)
 have Hh:Hid (rGr (fun k=>k<w.heap.size) _ [.slice A1 N1 c1,.slice B1 M1 d1,.slice C1 K1 e1] h):=zZ (rGr_stays.to (S:=All w) (fun k hk=>⟨hk,hB1.block k hk⟩) hh)
 have Hf:Hid (rVals (fun k=>k<w.heap.size) _ [.slice F fl fc] cv):=zZ (rVals_stays.to (S:=All w) (fun k hk=>⟨hk,hB1.block k hk⟩) hf)
 have Hfl:=zZ hfl
 have Hfr:=zZ hfr
 clear hg hh hf hfl hfr q0 q1 q2 q3 b4 hB4 hB1 s4
 go_enter Tryz.func23,Tryz.ntmps23
 go_wp2
 generalize ((((w.alloc (.cells #[.slice A N c,.slice B M d,.slice C K e] 28)).alloc (.cells #[.slice A1 N1 c1,.slice B1 M1 d1,.slice C1 K1 e1] 28)).alloc (.cells #[.int .i64 fi,.int .i64 ft,.slice F fl fc] 53)).alloc (.cells #[.int .i64 0,.int .i64 0,.slice none 0 0] 50)).alloc (.cells #[.int .i64 fr,.int .i64 ft,.slice none 0 0] 50)=w1 at *
 clear k1 k2
 have s1:w.heap.size+4<w1.heap.size:=P4.out.lt
 have s1':w.heap.size+3<w.heap.size+1+1+1+1:=by omega
 go_loopw [23] (fun iv w'=>∃ (i:Nat) (v:Value) (xs:List Value),i≤fl∧iv=.int .i64 (i:Int)∧Hid (RowIn (w.heap.size+1+1+1+1) 2 50 66 4 [.int .i64 fr,.int .i64 ft,.slice none 0 0] w1 v i xs w')∧Hid (Chunks 4 (fun cs x=>∀ S W,rCel S W cs x) xs ((allC cv).take i))) (fun iv _=>fl - (intOf iv).toNat)
 case atStart=>exact⟨0,.slice none 0 0,[],by omega,rfl,zZ (RowIn.start P4.out rfl),zZ Chunks.nil⟩
 case round=>
  rename World=>wx
  obtain⟨i,vF,ys,hi',rfl,hI,hcv⟩:=hrel
  have sx:=hI.out.bel.size
  obtain⟨AF2,cF2,rfl⟩:=own_slice3 hI.out.own
  have hBx:Below (w.heap.size+1+1+1+1) w1 wx:=hI.out.bel
  by_cases hin:i<fl
  ·obtain⟨v,hv⟩:∃ v,cv[i]?=some v:=⟨_,zV (by have:=Hfl.out;omega)⟩
   have Htk:=zZ (take_at (allC_at hv))
   obtain⟨bv,offv,sv,rfl,hbv,v0,v1,v2,hsv,hsm,hvn,hvb⟩:=val_at Hf.out hv
   have v0':=(hBx.cell (p:=⟨bv,offv+i * 3,none⟩) (by show bv<_;omega)).trans v0
   have v1':=(hBx.cell (p:=⟨bv,offv+i * 3+1,none⟩) (by show bv<_;omega)).trans v1
   have v2':=(hBx.cell (p:=⟨bv,offv+i * 3+2,none⟩) (by show bv<_;omega)).trans v2
   have hil:(i:Int)<(fl:Int):=by omega
   have hi0:(0:Int)≤(i:Int):=by omega
   have hB9:Below wx.heap.size wx (wx.alloc (.cells #[.int .i64 v.1,.string sv,.int .i64 v.2.2] 47)):=(zA _ wx).alloc (zW _) _
   have n9:=Blk.new wx 47 [.int .i64 v.1,.string sv,.int .i64 v.2.2]
   have hIy:=hI.out.more (by omega) hB9
   have d2:=hIy.bx.cell (j:=2) rfl
   have n0:=n9.cell (j:=0) rfl
   have n1:=n9.cell (j:=1) rfl
   have n2:=n9.cell (j:=2) rfl
   have Hcel:=zZ (fun S W=>rCel_mk (S:=S) (w:=W) (x:=((i:Int),v)) (WalkArith.wf_i64 ⟨by show -9223372036854775808≤(i:Int);omega,by show (i:Int)≤9223372036854775807;omega⟩) hsv hsm (WalkArith.wf_i64 hvn) (WalkArith.wf_i64 hvb))
   have sy:(wx.alloc (.cells #[.int .i64 v.1,.string sv,.int .i64 v.2.2] 47)).heap.size=wx.heap.size+1:=by simp
   have t1:i+1≤maxLen:=by simp only[maxLen];omega
   have t2:(i+1) * 40≤140737488355328:=by omega
   have t3:w1.heap.size≤((wx.alloc (.cells #[.int .i64 v.1,.string sv,.int .i64 v.2.2] 47)).alloc (.cells #[.int .i64 (i:Int),.int .i64 v.1,.string sv,.int .i64 v.2.2] 66)).heap.size:=by simp only[World.size_alloc];omega
   have t4:Rd ((wx.alloc (.cells #[.int .i64 v.1,.string sv,.int .i64 v.2.2] 47)).alloc (.cells #[.int .i64 (i:Int),.int .i64 v.1,.string sv,.int .i64 v.2.2] 66)) (some ⟨wx.heap.size+1,0,none⟩) [.int .i64 (i:Int),.int .i64 v.1,.string sv,.int .i64 v.2.2]:=by have:=(Blk.new (wx.alloc (.cells #[.int .i64 v.1,.string sv,.int .i64 v.2.2] 47)) 66 [.int .i64 (i:Int),.int .i64 v.1,.string sv,.int .i64 v.2.2]).rd;rwa [sy] at this
   have t5:=hIy.own.alloc (.cells #[.int .i64 (i:Int),.int .i64 v.1,.string sv,.int .i64 v.2.2] 66)
   have HB9:=zZ hB9
   clear hv v0 v1 v2 hsv hsm hvn hvb hB9 n9 hIy hBx
   generalize v.1=vn at *
   generalize v.2.2=vr at *
   go_wp2_with (first
    | (at_builtin;refine wpList_apps rfl (.tmp 29) (.tmp 33) 48 rfl w1.heap.size 66 i0 (.agg #[.int .i64 0,.int .i64 0,.string ⟨#[]⟩,.int .i64 0]) 4 40 Tryz.underlying48 hi hz0 hz1 hz2 rfl (by omega) (.slice AF2 i cF2) i ys rfl t5 (some ⟨wx.heap.size+1,0,none⟩) 1 1 [.int .i64 (i:Int),.int .i64 vn,.string sv,.int .i64 vr] rfl rfl t4 (by simp[Value.oneCell']) t1 t2 t3 ?_;intro v4 w4 hown4 hg4 hv4;obtain⟨bx4,hR4⟩:=hI.out.step (by omega) (HB9.out) hg4 hown4;obtain⟨A4,c4,rfl⟩:=own_slice3 hown4;have e4:=bx4.cell (j:=2) rfl;have f4:=bx4.frozen 2;have HR4:=zZ hR4;clear hR4 hown4 hg4 hv4 bx4)
    | fail)
   go_roundw
   case rel=>exact⟨i+1,_,_,by omega,by go_num,HR4,zZ (by rw[Htk.out];exact hcv.out.append (Chunks.one rfl fun S W=>Hcel.out S W))⟩
   case measure=>simp[intOf];omega
  ·have hin':i=fl:=by omega
   have htk:(allC cv).take i=allC cv:=List.take_of_length_le (by rw[allC_len,Hfl.out];omega)
   rw[htk] at hcv
   rw[hin'] at hI
   have r3:=P3.out.below s1' hBx
   have b4:=hI.out.bx
   have eb0:=b4.cell (j:=0) rfl
   have eb1:=b4.cell (j:=1) rfl
   have eb2:=b4.cell (j:=2) rfl
   have HBx:=zZ (HB1.out.trans (hBx.mono (by omega)))
   have HR3:=zZ r3
   have HI:=zZ hI.out.own
   have HB4:=zZ b4
   have HBw:=zZ hBx
   have Hal:Hid ((allC cv).length=fl):=zZ (by rw[allC_len,Hfl.out])
   clear hin' htk hBx
   by_cases h1:fr = -1
   ·have h1':(fr == -1)=true:=by simp[h1]
    have Hsd:Hid (setD fr (objG g.2.1 x).2.2 (objG h.2.1 x).2.2 cv=allC cv):=zZ (if_pos h1)
    have y0:=r3.cell (j:=0) rfl
    have y1:=r3.cell (j:=1) rfl
    have y2:=r3.cell (j:=2) rfl
    have g0:=r3.frozen 0
    have g1:=r3.frozen 1
    have g2:=r3.frozen 2
    clear h1 b4 hI Hfr
    go_wp2
    have P9:=((r3.set 0 (.int .i64 fr)).set 1 (.int .i64 ft)).set 2 (.slice AF2 fl cF2)
    refine ret_cell0 (d:=.struct _) (cs:=[.int .i64 fr,.int .i64 ft,.slice AF2 fl cF2]) rfl P9 rfl rfl rfl rfl rfl ?_
    rw[Hsd.out,Hal.out]
    refine⟨AF2,cF2,rfl,?_,?_⟩
    ·exact cels_own (own_mono (own_keep HI.out fun k a1 a2=>by rw[Below.heap_setCell _ _ _ _ (show k≠w.heap.size+3 by omega),Below.heap_setCell _ _ _ _ (show k≠w.heap.size+3 by omega),Below.heap_setCell _ _ _ _ (show k≠w.heap.size+3 by omega)]) (by omega)) Hal.out hcv.out
    ·exact ((HBx.out.setCell (p:=⟨w.heap.size+3,0,none⟩) (by simp) (.int .i64 fr)).setCell (p:=⟨w.heap.size+3,1,none⟩) (by simp) (.int .i64 ft)).setCell (p:=⟨w.heap.size+3,2,none⟩) (by simp) (.slice AF2 fl cF2)
   ·have h1':(fr == -1)=false:=by simp[h1]
    obtain⟨I,o,J,p,hI1,hI2,hI3,hJ1,hJ2,hJ3,hol,hpl⟩:=Hfr.out h1
    have hgx:=rGr_stays.to (S':=All wx) (fun k hk=>⟨by show k<_;omega,HBw.out.block k (by omega)⟩) Hg.out
    have hhx:=rGr_stays.to (S':=All wx) (fun k hk=>⟨by show k<_;omega,HBw.out.block k (by omega)⟩) Hh.out
    have hMI:I<M:=by have:=(List.getElem?_eq_some_iff.1 hI2).1;have:=(slice_len (rGr_open hgx).2.1).1;omega
    have hMJ:J<M1:=by have:=(List.getElem?_eq_some_iff.1 hJ2).1;have:=(slice_len (rGr_open hhx).2.1).1;omega
    have hsd:setD fr (objG g.2.1 x).2.2 (objG h.2.1 x).2.2 cv=(allC cv).filter (otherC o.2.2 p.2.2):=by rw[setD,if_neg h1,objG_at hI1 hI2,objG_at hJ1 hJ2]
    obtain⟨bo,offo,Ao,co,rfl,hbo,x0,x1,x2,hvo,-,-⟩:=ob_at (rGr_open hgx).2.1 hI2
    obtain⟨bp,offp,Ap,cp,rfl,hbp,z0,z1,z2,hvp,-,-⟩:=ob_at (rGr_open hhx).2.1 hJ2
    rw[← hI3] at hI1
    rw[← hJ3] at hJ1
    have TA:=zZ (fun W (hW:Below wx.heap.size wx W)=>dfind_any A C N c M d K e bo offo I g o Ao co W (gr_below hW hgx) hI1 hMI (Nat.lt_of_lt_of_le hbo hW.size) ((hW.cell (p:=⟨bo,offo+I * 3,none⟩) hbo).trans x0) ((hW.cell (p:=⟨bo,offo+I * 3+1,none⟩) hbo).trans x1) ((hW.cell (p:=⟨bo,offo+I * 3+2,none⟩) hbo).trans x2))
    have TB:=zZ (fun W (hW:Below wx.heap.size wx W)=>dfind_any A1 C1 N1 c1 M1 d1 K1 e1 bp offp J h p Ap cp W (gr_below hW hhx) hJ1 hMJ (Nat.lt_of_lt_of_le hbp hW.size) ((hW.cell (p:=⟨bp,offp+J * 3,none⟩) hbp).trans z0) ((hW.cell (p:=⟨bp,offp+J * 3+1,none⟩) hbp).trans z1) ((hW.cell (p:=⟨bp,offp+J * 3+2,none⟩) hbp).trans z2))
    rw[hI3,hol] at TA
    rw[hJ3,hpl] at TB
    rw[hol] at hvo
    rw[hpl] at hvp
    have Hvo:=zZ hvo
    have Hvp:=zZ hvp
    have Hsd:=zZ hsd
    have R0:=P0.out.below (by omega:w.heap.size<w.heap.size+1+1+1+1) HBw.out
    have R1:=P1.out.below (by omega:w.heap.size+1<w.heap.size+1+1+1+1) HBw.out
    have HS:=zZ (fun W (hW:Below wx.heap.size wx W)=>And.intro ((R0.to hW).cell (j:=0) rfl) (And.intro ((R0.to hW).cell (j:=1) rfl) (And.intro ((R0.to hW).cell (j:=2) rfl) (And.intro ((R1.to hW).cell (j:=0) rfl) (And.intro ((R1.to hW).cell (j:=1) rfl) ((R1.to hW).cell (j:=2) rfl))))))
    clear h1 b4 hI hI1 hI2 hI3 hJ1 hJ2 hJ3 hsd x0 x1 x2 z0 z1 z2 hgx hhx hvo hvp R0 R1 hMI hMJ Hfr P0 P1 P2 P3 P4 Hg Hh Hf HB1 r3
    generalize o.2.1=ot at *
    generalize p.2.1=pt at *
    go_upto_region 9 with fail
    clear eb0 eb1 eb2
    go_cut [14,15] (fun v14 v15 wy=>∃ bA bB,v14=.pointer (some ⟨bA,0,none⟩)∧v15=.pointer (some ⟨bB,0,none⟩)∧Blk wy bA 53 [.int .i64 x,.int .i64 ot,.slice Ao fl co]∧Blk wy bB 53 [.int .i64 x,.int .i64 pt,.slice Ap fl cp]∧wx.heap.size≤bA∧wx.heap.size≤bB∧Below wx.heap.size wx wy)
    case first=>
     clear HR3 HI HB4 HBx HBw Hvo Hvp Hal Hsd hcv
     refine fr_start (fun W=>W.cell? ⟨w.heap.size,0,none⟩=some (.slice A N c)∧W.cell? ⟨w.heap.size,1,none⟩=some (.slice (some ⟨bo,offo,none⟩) M d)∧W.cell? ⟨w.heap.size,2,none⟩=some (.slice C K e)∧W.cell? ⟨w.heap.size+1,0,none⟩=some (.slice A1 N1 c1)∧W.cell? ⟨w.heap.size+1,1,none⟩=some (.slice (some ⟨bp,offp,none⟩) M1 d1)∧W.cell? ⟨w.heap.size+1,2,none⟩=some (.slice C1 K1 e1)) 10 (by kernel_rfl) rfl (fun _ _ _ _ _ h=>h) (HS.out _ (zA _ wx).drew) (fun hH=>?_)
     have hD:=(zA wx.heap.size wx).drew
     generalize wx.drew=wd at *
     (refine fr_yes 0 (v:=?_) rfl (by kernel_rfl) rfl ?_ hH ?_;rotate_left;(focus ((rintro W ⟨hW1,hW2,hW3,hW4,hW5,hW6⟩;go_simp) <;> with_reducible rfl));simp only[Act.put,zY,zX,zQ]);(refine fr_yes 1 (v:=?_) rfl (by kernel_rfl) rfl ?_ hH ?_;rotate_left;(focus ((rintro W ⟨hW1,hW2,hW3,hW4,hW5,hW6⟩;go_simp) <;> with_reducible rfl));simp only[Act.put,zY,zX,zQ]);(refine fr_yes 3 (v:=?_) rfl (by kernel_rfl) rfl ?_ hH ?_;rotate_left;(focus ((rintro W ⟨hW1,hW2,hW3,hW4,hW5,hW6⟩;go_simp) <;> with_reducible rfl));simp only[Act.put,zY,zX,zQ]);(refine fr_yes 4 (v:=?_) rfl (by kernel_rfl) rfl ?_ hH ?_;rotate_left;(focus ((rintro W ⟨hW1,hW2,hW3,hW4,hW5,hW6⟩;go_simp) <;> with_reducible rfl));simp only[Act.put,zY,zX,zQ])
     refine fr_op [2,6,7] (by kernel_rfl) (by simp) ?_;intro jj hjj;simp only[List.mem_cons,List.not_mem_nil,or_false] at hjj;rcases hjj with rfl | rfl | rfl
     ·refine⟨_,rfl,rfl,fun K hK=>?_⟩
      go_wp2_with (go_at_call 57;refine (TA.out _ hD).mono ?_;rintro e wn1 ⟨rfl,hB⟩)
      have hE:=hD.trans (hB.mono hD.size)
      refine hK.out _ _ (HS.out _ hE) ?_
      clear hK hH hB hD
      have hH:=HS.out _ hE
      have hD:=hE
      clear hE
      refine fr_op [5,6,7] (by kernel_rfl) (by simp) ?_;intro jj hjj;simp only[List.mem_cons,List.not_mem_nil,or_false] at hjj;rcases hjj with rfl | rfl | rfl
      ·refine⟨_,rfl,rfl,fun K hK=>?_⟩
       go_wp2_with (go_at_call 57;refine (TB.out _ hD).mono ?_;rintro e wn2 ⟨rfl,hB⟩)
       have hE:=hD.trans (hB.mono hD.size)
       refine hK.out _ _ (HS.out _ hE) ?_
       clear hK hH hB hD
       have hH:=HS.out _ hE
       have hD:=hE
       clear hE
       refine fr_op [6,7] (by kernel_rfl) (by simp) ?_;intro jj hjj;simp only[List.mem_cons,List.not_mem_nil,or_false] at hjj;rcases hjj with rfl | rfl
       ·refine⟨_,rfl,rfl,fun K hK=>?_⟩
        go_wp2
        have hE:=hD.alloc hD.size (.cells #[.int .i64 0,.int .i64 0,.slice none 0 0] 53)
        have va:=Blk.new wn2 53 [.int .i64 0,.int .i64 0,.slice none 0 0]
        have la:=hD.size
        refine hK.out _ _ (HS.out _ hE) ?_
        clear hK hH hD
        have hH:=HS.out _ hE
        have hD:=hE
        clear hE
        generalize wn2.alloc (.cells #[.int .i64 0,.int .i64 0,.slice none 0 0] 53)=wn3 at *
        refine fr_op [7] (by kernel_rfl) (by simp) ?_;intro jj hjj;simp only[List.mem_cons,List.not_mem_nil,or_false] at hjj;subst hjj;refine⟨_,rfl,rfl,fun K hK=>?_⟩
        go_wp2
        have hE:=hD.alloc hD.size (.cells #[.int .i64 0,.int .i64 0,.slice none 0 0] 53)
        have vb:=Blk.new wn3 53 [.int .i64 0,.int .i64 0,.slice none 0 0]
        have lb:=hD.size
        have lb3:=va.lt
        replace va:=va.alloc (.cells #[.int .i64 0,.int .i64 0,.slice none 0 0] 53)
        refine hK.out _ _ (HS.out _ hE) ?_
        clear hK hH hD
        have hH:=HS.out _ hE
        have hD:=hE
        clear hE
        generalize wn3.alloc (.cells #[.int .i64 0,.int .i64 0,.slice none 0 0] 53)=wn4 at *
        have la2:=va.lt
        have lb2:=vb.lt
        have z0:=va.cell (j:=0) rfl
        have z1:=va.cell (j:=1) rfl
        have z2:=va.cell (j:=2) rfl
        have f0:=va.frozen 0
        have f1:=va.frozen 1
        have f2:=va.frozen 2
        refine fr_op [8] (by kernel_rfl) (by simp) ?_;intro jj hjj;simp only[List.mem_cons,List.not_mem_nil,or_false] at hjj;subst hjj;refine⟨_,rfl,rfl,fun K hK=>?_⟩
        go_wp2
        have hE:=((hD.setCell (p:=⟨wn2.heap.size,0,none⟩) la (.int .i64 x)).setCell (p:=⟨wn2.heap.size,1,none⟩) la (.int .i64 ot)).setCell (p:=⟨wn2.heap.size,2,none⟩) la (.slice Ao fl co)
        have vn:=((va.set 0 (.int .i64 x)).set 1 (.int .i64 ot)).set 2 (.slice Ao fl co)
        have vo:=((vb.other ⟨wn2.heap.size,0,none⟩ (.int .i64 x) (show wn3.heap.size≠wn2.heap.size by omega)).other ⟨wn2.heap.size,1,none⟩ (.int .i64 ot) (show wn3.heap.size≠wn2.heap.size by omega)).other ⟨wn2.heap.size,2,none⟩ (.slice Ao fl co) (show wn3.heap.size≠wn2.heap.size by omega)
        refine hK.out _ _ (HS.out _ hE) ?_
        clear hK hH hD va vb z0 z1 z2 f0 f1 f2
        have hH:=HS.out _ hE
        have hD:=hE
        clear hE
        generalize ((wn4.setCell ⟨wn2.heap.size,0,none⟩ (.int .i64 x)).setCell ⟨wn2.heap.size,1,none⟩ (.int .i64 ot)).setCell ⟨wn2.heap.size,2,none⟩ (.slice Ao fl co)=wn5 at *
        have va:=vn
        have vb:=vo
        clear vn vo
        have z0:=vb.cell (j:=0) rfl
        have z1:=vb.cell (j:=1) rfl
        have z2:=vb.cell (j:=2) rfl
        have f0:=vb.frozen 0
        have f1:=vb.frozen 1
        have f2:=vb.frozen 2
        refine fr_op [9] (by kernel_rfl) (by simp) ?_;intro jj hjj;simp only[List.mem_cons,List.not_mem_nil,or_false] at hjj;subst hjj;refine⟨_,rfl,rfl,fun K hK=>?_⟩
        go_wp2
        have hE:=((hD.setCell (p:=⟨wn3.heap.size,0,none⟩) lb (.int .i64 x)).setCell (p:=⟨wn3.heap.size,1,none⟩) lb (.int .i64 pt)).setCell (p:=⟨wn3.heap.size,2,none⟩) lb (.slice Ap fl cp)
        have vn:=((vb.set 0 (.int .i64 x)).set 1 (.int .i64 pt)).set 2 (.slice Ap fl cp)
        have vo:=((va.other ⟨wn3.heap.size,0,none⟩ (.int .i64 x) (show wn2.heap.size≠wn3.heap.size by omega)).other ⟨wn3.heap.size,1,none⟩ (.int .i64 pt) (show wn2.heap.size≠wn3.heap.size by omega)).other ⟨wn3.heap.size,2,none⟩ (.slice Ap fl cp) (show wn2.heap.size≠wn3.heap.size by omega)
        refine hK.out _ _ (HS.out _ hE) ?_
        clear hK hH hD va vb z0 z1 z2 f0 f1 f2
        have hH:=HS.out _ hE
        have hD:=hE
        clear hE
        generalize ((wn5.setCell ⟨wn3.heap.size,0,none⟩ (.int .i64 x)).setCell ⟨wn3.heap.size,1,none⟩ (.int .i64 pt)).setCell ⟨wn3.heap.size,2,none⟩ (.slice Ap fl cp)=wn6 at *
        have vb:=vn
        have va:=vo
        clear vn vo
        refine fr_done (by kernel_rfl) ?_
        go_wp2
        go_meet
        case rel=>exact⟨_,_,rfl,rfl,va,vb,la,lb,hD⟩
       ·refine⟨_,rfl,rfl,fun K hK=>?_⟩
        go_wp2
        have hE:=hD.alloc hD.size (.cells #[.int .i64 0,.int .i64 0,.slice none 0 0] 53)
        have vb:=Blk.new wn2 53 [.int .i64 0,.int .i64 0,.slice none 0 0]
        have lb:=hD.size
        refine hK.out _ _ (HS.out _ hE) ?_
        clear hK hH hD
        have hH:=HS.out _ hE
        have hD:=hE
        clear hE
        generalize wn2.alloc (.cells #[.int .i64 0,.int .i64 0,.slice none 0 0] 53)=wn7 at *
        refine fr_op [6] (by kernel_rfl) (by simp) ?_;intro jj hjj;simp only[List.mem_cons,List.not_mem_nil,or_false] at hjj;subst hjj;refine⟨_,rfl,rfl,fun K hK=>?_⟩
        go_wp2
        have hE:=hD.alloc hD.size (.cells #[.int .i64 0,.int .i64 0,.slice none 0 0] 53)
        have va:=Blk.new wn7 53 [.int .i64 0,.int .i64 0,.slice none 0 0]
        have la:=hD.size
        have la3:=vb.lt
        replace vb:=vb.alloc (.cells #[.int .i64 0,.int .i64 0,.slice none 0 0] 53)
        refine hK.out _ _ (HS.out _ hE) ?_
        clear hK hH hD
        have hH:=HS.out _ hE
        have hD:=hE
        clear hE
        generalize wn7.alloc (.cells #[.int .i64 0,.int .i64 0,.slice none 0 0] 53)=wn8 at *
        have la2:=va.lt
        have lb2:=vb.lt
        have z0:=va.cell (j:=0) rfl
        have z1:=va.cell (j:=1) rfl
        have z2:=va.cell (j:=2) rfl
        have f0:=va.frozen 0
        have f1:=va.frozen 1
        have f2:=va.frozen 2
        refine fr_op [8] (by kernel_rfl) (by simp) ?_;intro jj hjj;simp only[List.mem_cons,List.not_mem_nil,or_false] at hjj;subst hjj;refine⟨_,rfl,rfl,fun K hK=>?_⟩
        go_wp2
        have hE:=((hD.setCell (p:=⟨wn7.heap.size,0,none⟩) la (.int .i64 x)).setCell (p:=⟨wn7.heap.size,1,none⟩) la (.int .i64 ot)).setCell (p:=⟨wn7.heap.size,2,none⟩) la (.slice Ao fl co)
        have vn:=((va.set 0 (.int .i64 x)).set 1 (.int .i64 ot)).set 2 (.slice Ao fl co)
        have vo:=((vb.other ⟨wn7.heap.size,0,none⟩ (.int .i64 x) (show wn2.heap.size≠wn7.heap.size by omega)).other ⟨wn7.heap.size,1,none⟩ (.int .i64 ot) (show wn2.heap.size≠wn7.heap.size by omega)).other ⟨wn7.heap.size,2,none⟩ (.slice Ao fl co) (show wn2.heap.size≠wn7.heap.size by omega)
        refine hK.out _ _ (HS.out _ hE) ?_
        clear hK hH hD va vb z0 z1 z2 f0 f1 f2
        have hH:=HS.out _ hE
        have hD:=hE
        clear hE
        generalize ((wn8.setCell ⟨wn7.heap.size,0,none⟩ (.int .i64 x)).setCell ⟨wn7.heap.size,1,none⟩ (.int .i64 ot)).setCell ⟨wn7.heap.size,2,none⟩ (.slice Ao fl co)=wn9 at *
        have va:=vn
        have vb:=vo
        clear vn vo
        have z0:=vb.cell (j:=0) rfl
        have z1:=vb.cell (j:=1) rfl
        have z2:=vb.cell (j:=2) rfl
        have f0:=vb.frozen 0
        have f1:=vb.frozen 1
        have f2:=vb.frozen 2
        refine fr_op [9] (by kernel_rfl) (by simp) ?_;intro jj hjj;simp only[List.mem_cons,List.not_mem_nil,or_false] at hjj;subst hjj;refine⟨_,rfl,rfl,fun K hK=>?_⟩
        go_wp2
        have hE:=((hD.setCell (p:=⟨wn2.heap.size,0,none⟩) lb (.int .i64 x)).setCell (p:=⟨wn2.heap.size,1,none⟩) lb (.int .i64 pt)).setCell (p:=⟨wn2.heap.size,2,none⟩) lb (.slice Ap fl cp)
        have vn:=((vb.set 0 (.int .i64 x)).set 1 (.int .i64 pt)).set 2 (.slice Ap fl cp)
        have vo:=((va.other ⟨wn2.heap.size,0,none⟩ (.int .i64 x) (show wn7.heap.size≠wn2.heap.size by omega)).other ⟨wn2.heap.size,1,none⟩ (.int .i64 pt) (show wn7.heap.size≠wn2.heap.size by omega)).other ⟨wn2.heap.size,2,none⟩ (.slice Ap fl cp) (show wn7.heap.size≠wn2.heap.size by omega)
        refine hK.out _ _ (HS.out _ hE) ?_
        clear hK hH hD va vb z0 z1 z2 f0 f1 f2
        have hH:=HS.out _ hE
        have hD:=hE
        clear hE
        generalize ((wn9.setCell ⟨wn2.heap.size,0,none⟩ (.int .i64 x)).setCell ⟨wn2.heap.size,1,none⟩ (.int .i64 pt)).setCell ⟨wn2.heap.size,2,none⟩ (.slice Ap fl cp)=wn10 at *
        have vb:=vn
        have va:=vo
        clear vn vo
        refine fr_done (by kernel_rfl) ?_
        go_wp2
        go_meet
        case rel=>exact⟨_,_,rfl,rfl,va,vb,la,lb,hD⟩
      ·refine⟨_,rfl,rfl,fun K hK=>?_⟩
       go_wp2
       have hE:=hD.alloc hD.size (.cells #[.int .i64 0,.int .i64 0,.slice none 0 0] 53)
       have va:=Blk.new wn1 53 [.int .i64 0,.int .i64 0,.slice none 0 0]
       have la:=hD.size
       refine hK.out _ _ (HS.out _ hE) ?_
       clear hK hH hD
       have hH:=HS.out _ hE
       have hD:=hE
       clear hE
       generalize wn1.alloc (.cells #[.int .i64 0,.int .i64 0,.slice none 0 0] 53)=wn11 at *
       refine fr_op [5,7] (by kernel_rfl) (by simp) ?_;intro jj hjj;simp only[List.mem_cons,List.not_mem_nil,or_false] at hjj;rcases hjj with rfl | rfl
       ·refine⟨_,rfl,rfl,fun K hK=>?_⟩
        go_wp2_with (go_at_call 57;refine (TB.out _ hD).mono ?_;rintro e wn12 ⟨rfl,hB⟩)
        have hE:=hD.trans (hB.mono hD.size)
        replace va:=va.to hB
        refine hK.out _ _ (HS.out _ hE) ?_
        clear hK hH hB hD
        have hH:=HS.out _ hE
        have hD:=hE
        clear hE
        refine fr_op [7] (by kernel_rfl) (by simp) ?_;intro jj hjj;simp only[List.mem_cons,List.not_mem_nil,or_false] at hjj;subst hjj;refine⟨_,rfl,rfl,fun K hK=>?_⟩
        go_wp2
        have hE:=hD.alloc hD.size (.cells #[.int .i64 0,.int .i64 0,.slice none 0 0] 53)
        have vb:=Blk.new wn12 53 [.int .i64 0,.int .i64 0,.slice none 0 0]
        have lb:=hD.size
        have lb3:=va.lt
        replace va:=va.alloc (.cells #[.int .i64 0,.int .i64 0,.slice none 0 0] 53)
        refine hK.out _ _ (HS.out _ hE) ?_
        clear hK hH hD
        have hH:=HS.out _ hE
        have hD:=hE
        clear hE
        generalize wn12.alloc (.cells #[.int .i64 0,.int .i64 0,.slice none 0 0] 53)=wn13 at *
        have la2:=va.lt
        have lb2:=vb.lt
        have z0:=va.cell (j:=0) rfl
        have z1:=va.cell (j:=1) rfl
        have z2:=va.cell (j:=2) rfl
        have f0:=va.frozen 0
        have f1:=va.frozen 1
        have f2:=va.frozen 2
        refine fr_op [8] (by kernel_rfl) (by simp) ?_;intro jj hjj;simp only[List.mem_cons,List.not_mem_nil,or_false] at hjj;subst hjj;refine⟨_,rfl,rfl,fun K hK=>?_⟩
        go_wp2
        have hE:=((hD.setCell (p:=⟨wn1.heap.size,0,none⟩) la (.int .i64 x)).setCell (p:=⟨wn1.heap.size,1,none⟩) la (.int .i64 ot)).setCell (p:=⟨wn1.heap.size,2,none⟩) la (.slice Ao fl co)
        have vn:=((va.set 0 (.int .i64 x)).set 1 (.int .i64 ot)).set 2 (.slice Ao fl co)
        have vo:=((vb.other ⟨wn1.heap.size,0,none⟩ (.int .i64 x) (show wn12.heap.size≠wn1.heap.size by omega)).other ⟨wn1.heap.size,1,none⟩ (.int .i64 ot) (show wn12.heap.size≠wn1.heap.size by omega)).other ⟨wn1.heap.size,2,none⟩ (.slice Ao fl co) (show wn12.heap.size≠wn1.heap.size by omega)
        refine hK.out _ _ (HS.out _ hE) ?_
        clear hK hH hD va vb z0 z1 z2 f0 f1 f2
        have hH:=HS.out _ hE
        have hD:=hE
        clear hE
        generalize ((wn13.setCell ⟨wn1.heap.size,0,none⟩ (.int .i64 x)).setCell ⟨wn1.heap.size,1,none⟩ (.int .i64 ot)).setCell ⟨wn1.heap.size,2,none⟩ (.slice Ao fl co)=wn14 at *
        have va:=vn
        have vb:=vo
        clear vn vo
        have z0:=vb.cell (j:=0) rfl
        have z1:=vb.cell (j:=1) rfl
        have z2:=vb.cell (j:=2) rfl
        have f0:=vb.frozen 0
        have f1:=vb.frozen 1
        have f2:=vb.frozen 2
        refine fr_op [9] (by kernel_rfl) (by simp) ?_;intro jj hjj;simp only[List.mem_cons,List.not_mem_nil,or_false] at hjj;subst hjj;refine⟨_,rfl,rfl,fun K hK=>?_⟩
        go_wp2
        have hE:=((hD.setCell (p:=⟨wn12.heap.size,0,none⟩) lb (.int .i64 x)).setCell (p:=⟨wn12.heap.size,1,none⟩) lb (.int .i64 pt)).setCell (p:=⟨wn12.heap.size,2,none⟩) lb (.slice Ap fl cp)
        have vn:=((vb.set 0 (.int .i64 x)).set 1 (.int .i64 pt)).set 2 (.slice Ap fl cp)
        have vo:=((va.other ⟨wn12.heap.size,0,none⟩ (.int .i64 x) (show wn1.heap.size≠wn12.heap.size by omega)).other ⟨wn12.heap.size,1,none⟩ (.int .i64 pt) (show wn1.heap.size≠wn12.heap.size by omega)).other ⟨wn12.heap.size,2,none⟩ (.slice Ap fl cp) (show wn1.heap.size≠wn12.heap.size by omega)
        refine hK.out _ _ (HS.out _ hE) ?_
        clear hK hH hD va vb z0 z1 z2 f0 f1 f2
        have hH:=HS.out _ hE
        have hD:=hE
        clear hE
        generalize ((wn14.setCell ⟨wn12.heap.size,0,none⟩ (.int .i64 x)).setCell ⟨wn12.heap.size,1,none⟩ (.int .i64 pt)).setCell ⟨wn12.heap.size,2,none⟩ (.slice Ap fl cp)=wn15 at *
        have vb:=vn
        have va:=vo
        clear vn vo
        refine fr_done (by kernel_rfl) ?_
        go_wp2
        go_meet
        case rel=>exact⟨_,_,rfl,rfl,va,vb,la,lb,hD⟩
       ·refine⟨_,rfl,rfl,fun K hK=>?_⟩
        go_wp2
        have hE:=hD.alloc hD.size (.cells #[.int .i64 0,.int .i64 0,.slice none 0 0] 53)
        have vb:=Blk.new wn11 53 [.int .i64 0,.int .i64 0,.slice none 0 0]
        have lb:=hD.size
        have lb3:=va.lt
        replace va:=va.alloc (.cells #[.int .i64 0,.int .i64 0,.slice none 0 0] 53)
        refine hK.out _ _ (HS.out _ hE) ?_
        clear hK hH hD
        have hH:=HS.out _ hE
        have hD:=hE
        clear hE
        generalize wn11.alloc (.cells #[.int .i64 0,.int .i64 0,.slice none 0 0] 53)=wn16 at *
        refine fr_op [5] (by kernel_rfl) (by simp) ?_;intro jj hjj;simp only[List.mem_cons,List.not_mem_nil,or_false] at hjj;subst hjj;refine⟨_,rfl,rfl,fun K hK=>?_⟩
        go_wp2_with (go_at_call 57;refine (TB.out _ hD).mono ?_;rintro e wn17 ⟨rfl,hB⟩)
        have hE:=hD.trans (hB.mono hD.size)
        replace va:=va.to hB
        replace vb:=vb.to hB
        refine hK.out _ _ (HS.out _ hE) ?_
        clear hK hH hB hD
        have hH:=HS.out _ hE
        have hD:=hE
        clear hE
        have la2:=va.lt
        have lb2:=vb.lt
        have z0:=va.cell (j:=0) rfl
        have z1:=va.cell (j:=1) rfl
        have z2:=va.cell (j:=2) rfl
        have f0:=va.frozen 0
        have f1:=va.frozen 1
        have f2:=va.frozen 2
        refine fr_op [8] (by kernel_rfl) (by simp) ?_;intro jj hjj;simp only[List.mem_cons,List.not_mem_nil,or_false] at hjj;subst hjj;refine⟨_,rfl,rfl,fun K hK=>?_⟩
        go_wp2
        have hE:=((hD.setCell (p:=⟨wn1.heap.size,0,none⟩) la (.int .i64 x)).setCell (p:=⟨wn1.heap.size,1,none⟩) la (.int .i64 ot)).setCell (p:=⟨wn1.heap.size,2,none⟩) la (.slice Ao fl co)
        have vn:=((va.set 0 (.int .i64 x)).set 1 (.int .i64 ot)).set 2 (.slice Ao fl co)
        have vo:=((vb.other ⟨wn1.heap.size,0,none⟩ (.int .i64 x) (show wn11.heap.size≠wn1.heap.size by omega)).other ⟨wn1.heap.size,1,none⟩ (.int .i64 ot) (show wn11.heap.size≠wn1.heap.size by omega)).other ⟨wn1.heap.size,2,none⟩ (.slice Ao fl co) (show wn11.heap.size≠wn1.heap.size by omega)
        refine hK.out _ _ (HS.out _ hE) ?_
        clear hK hH hD va vb z0 z1 z2 f0 f1 f2
        have hH:=HS.out _ hE
        have hD:=hE
        clear hE
        generalize ((wn17.setCell ⟨wn1.heap.size,0,none⟩ (.int .i64 x)).setCell ⟨wn1.heap.size,1,none⟩ (.int .i64 ot)).setCell ⟨wn1.heap.size,2,none⟩ (.slice Ao fl co)=wn18 at *
        have va:=vn
        have vb:=vo
        clear vn vo
        have z0:=vb.cell (j:=0) rfl
        have z1:=vb.cell (j:=1) rfl
        have z2:=vb.cell (j:=2) rfl
        have f0:=vb.frozen 0
        have f1:=vb.frozen 1
        have f2:=vb.frozen 2
        refine fr_op [9] (by kernel_rfl) (by simp) ?_;intro jj hjj;simp only[List.mem_cons,List.not_mem_nil,or_false] at hjj;subst hjj;refine⟨_,rfl,rfl,fun K hK=>?_⟩
        go_wp2
        have hE:=((hD.setCell (p:=⟨wn11.heap.size,0,none⟩) lb (.int .i64 x)).setCell (p:=⟨wn11.heap.size,1,none⟩) lb (.int .i64 pt)).setCell (p:=⟨wn11.heap.size,2,none⟩) lb (.slice Ap fl cp)
        have vn:=((vb.set 0 (.int .i64 x)).set 1 (.int .i64 pt)).set 2 (.slice Ap fl cp)
        have vo:=((va.other ⟨wn11.heap.size,0,none⟩ (.int .i64 x) (show wn1.heap.size≠wn11.heap.size by omega)).other ⟨wn11.heap.size,1,none⟩ (.int .i64 pt) (show wn1.heap.size≠wn11.heap.size by omega)).other ⟨wn11.heap.size,2,none⟩ (.slice Ap fl cp) (show wn1.heap.size≠wn11.heap.size by omega)
        refine hK.out _ _ (HS.out _ hE) ?_
        clear hK hH hD va vb z0 z1 z2 f0 f1 f2
        have hH:=HS.out _ hE
        have hD:=hE
        clear hE
        generalize ((wn18.setCell ⟨wn11.heap.size,0,none⟩ (.int .i64 x)).setCell ⟨wn11.heap.size,1,none⟩ (.int .i64 pt)).setCell ⟨wn11.heap.size,2,none⟩ (.slice Ap fl cp)=wn19 at *
        have vb:=vn
        have va:=vo
        clear vn vo
        refine fr_done (by kernel_rfl) ?_
        go_wp2
        go_meet
        case rel=>exact⟨_,_,rfl,rfl,va,vb,la,lb,hD⟩
      ·refine⟨_,rfl,rfl,fun K hK=>?_⟩
       go_wp2
       have hE:=hD.alloc hD.size (.cells #[.int .i64 0,.int .i64 0,.slice none 0 0] 53)
       have vb:=Blk.new wn1 53 [.int .i64 0,.int .i64 0,.slice none 0 0]
       have lb:=hD.size
       refine hK.out _ _ (HS.out _ hE) ?_
       clear hK hH hD
       have hH:=HS.out _ hE
       have hD:=hE
       clear hE
       generalize wn1.alloc (.cells #[.int .i64 0,.int .i64 0,.slice none 0 0] 53)=wn20 at *
       refine fr_op [5,6] (by kernel_rfl) (by simp) ?_;intro jj hjj;simp only[List.mem_cons,List.not_mem_nil,or_false] at hjj;rcases hjj with rfl | rfl
       ·refine⟨_,rfl,rfl,fun K hK=>?_⟩
        go_wp2_with (go_at_call 57;refine (TB.out _ hD).mono ?_;rintro e wn21 ⟨rfl,hB⟩)
        have hE:=hD.trans (hB.mono hD.size)
        replace vb:=vb.to hB
        refine hK.out _ _ (HS.out _ hE) ?_
        clear hK hH hB hD
        have hH:=HS.out _ hE
        have hD:=hE
        clear hE
        refine fr_op [6] (by kernel_rfl) (by simp) ?_;intro jj hjj;simp only[List.mem_cons,List.not_mem_nil,or_false] at hjj;subst hjj;refine⟨_,rfl,rfl,fun K hK=>?_⟩
        go_wp2
        have hE:=hD.alloc hD.size (.cells #[.int .i64 0,.int .i64 0,.slice none 0 0] 53)
        have va:=Blk.new wn21 53 [.int .i64 0,.int .i64 0,.slice none 0 0]
        have la:=hD.size
        have la3:=vb.lt
        replace vb:=vb.alloc (.cells #[.int .i64 0,.int .i64 0,.slice none 0 0] 53)
        refine hK.out _ _ (HS.out _ hE) ?_
        clear hK hH hD
        have hH:=HS.out _ hE
        have hD:=hE
        clear hE
        generalize wn21.alloc (.cells #[.int .i64 0,.int .i64 0,.slice none 0 0] 53)=wn22 at *
        have la2:=va.lt
        have lb2:=vb.lt
        have z0:=va.cell (j:=0) rfl
        have z1:=va.cell (j:=1) rfl
        have z2:=va.cell (j:=2) rfl
        have f0:=va.frozen 0
        have f1:=va.frozen 1
        have f2:=va.frozen 2
        refine fr_op [8] (by kernel_rfl) (by simp) ?_;intro jj hjj;simp only[List.mem_cons,List.not_mem_nil,or_false] at hjj;subst hjj;refine⟨_,rfl,rfl,fun K hK=>?_⟩
        go_wp2
        have hE:=((hD.setCell (p:=⟨wn21.heap.size,0,none⟩) la (.int .i64 x)).setCell (p:=⟨wn21.heap.size,1,none⟩) la (.int .i64 ot)).setCell (p:=⟨wn21.heap.size,2,none⟩) la (.slice Ao fl co)
        have vn:=((va.set 0 (.int .i64 x)).set 1 (.int .i64 ot)).set 2 (.slice Ao fl co)
        have vo:=((vb.other ⟨wn21.heap.size,0,none⟩ (.int .i64 x) (show wn1.heap.size≠wn21.heap.size by omega)).other ⟨wn21.heap.size,1,none⟩ (.int .i64 ot) (show wn1.heap.size≠wn21.heap.size by omega)).other ⟨wn21.heap.size,2,none⟩ (.slice Ao fl co) (show wn1.heap.size≠wn21.heap.size by omega)
        refine hK.out _ _ (HS.out _ hE) ?_
        clear hK hH hD va vb z0 z1 z2 f0 f1 f2
        have hH:=HS.out _ hE
        have hD:=hE
        clear hE
        generalize ((wn22.setCell ⟨wn21.heap.size,0,none⟩ (.int .i64 x)).setCell ⟨wn21.heap.size,1,none⟩ (.int .i64 ot)).setCell ⟨wn21.heap.size,2,none⟩ (.slice Ao fl co)=wn23 at *
        have va:=vn
        have vb:=vo
        clear vn vo
        have z0:=vb.cell (j:=0) rfl
        have z1:=vb.cell (j:=1) rfl
        have z2:=vb.cell (j:=2) rfl
        have f0:=vb.frozen 0
        have f1:=vb.frozen 1
        have f2:=vb.frozen 2
        refine fr_op [9] (by kernel_rfl) (by simp) ?_;intro jj hjj;simp only[List.mem_cons,List.not_mem_nil,or_false] at hjj;subst hjj;refine⟨_,rfl,rfl,fun K hK=>?_⟩
        go_wp2
        have hE:=((hD.setCell (p:=⟨wn1.heap.size,0,none⟩) lb (.int .i64 x)).setCell (p:=⟨wn1.heap.size,1,none⟩) lb (.int .i64 pt)).setCell (p:=⟨wn1.heap.size,2,none⟩) lb (.slice Ap fl cp)
        have vn:=((vb.set 0 (.int .i64 x)).set 1 (.int .i64 pt)).set 2 (.slice Ap fl cp)
        have vo:=((va.other ⟨wn1.heap.size,0,none⟩ (.int .i64 x) (show wn21.heap.size≠wn1.heap.size by omega)).other ⟨wn1.heap.size,1,none⟩ (.int .i64 pt) (show wn21.heap.size≠wn1.heap.size by omega)).other ⟨wn1.heap.size,2,none⟩ (.slice Ap fl cp) (show wn21.heap.size≠wn1.heap.size by omega)
        refine hK.out _ _ (HS.out _ hE) ?_
        clear hK hH hD va vb z0 z1 z2 f0 f1 f2
        have hH:=HS.out _ hE
        have hD:=hE
        clear hE
        generalize ((wn23.setCell ⟨wn1.heap.size,0,none⟩ (.int .i64 x)).setCell ⟨wn1.heap.size,1,none⟩ (.int .i64 pt)).setCell ⟨wn1.heap.size,2,none⟩ (.slice Ap fl cp)=wn24 at *
        have vb:=vn
        have va:=vo
        clear vn vo
        refine fr_done (by kernel_rfl) ?_
        go_wp2
        go_meet
        case rel=>exact⟨_,_,rfl,rfl,va,vb,la,lb,hD⟩
       ·refine⟨_,rfl,rfl,fun K hK=>?_⟩
        go_wp2
        have hE:=hD.alloc hD.size (.cells #[.int .i64 0,.int .i64 0,.slice none 0 0] 53)
        have va:=Blk.new wn20 53 [.int .i64 0,.int .i64 0,.slice none 0 0]
        have la:=hD.size
        have la3:=vb.lt
        replace vb:=vb.alloc (.cells #[.int .i64 0,.int .i64 0,.slice none 0 0] 53)
        refine hK.out _ _ (HS.out _ hE) ?_
        clear hK hH hD
        have hH:=HS.out _ hE
        have hD:=hE
        clear hE
        generalize wn20.alloc (.cells #[.int .i64 0,.int .i64 0,.slice none 0 0] 53)=wn25 at *
        refine fr_op [5] (by kernel_rfl) (by simp) ?_;intro jj hjj;simp only[List.mem_cons,List.not_mem_nil,or_false] at hjj;subst hjj;refine⟨_,rfl,rfl,fun K hK=>?_⟩
        go_wp2_with (go_at_call 57;refine (TB.out _ hD).mono ?_;rintro e wn26 ⟨rfl,hB⟩)
        have hE:=hD.trans (hB.mono hD.size)
        replace va:=va.to hB
        replace vb:=vb.to hB
        refine hK.out _ _ (HS.out _ hE) ?_
        clear hK hH hB hD
        have hH:=HS.out _ hE
        have hD:=hE
        clear hE
        have la2:=va.lt
        have lb2:=vb.lt
        have z0:=va.cell (j:=0) rfl
        have z1:=va.cell (j:=1) rfl
        have z2:=va.cell (j:=2) rfl
        have f0:=va.frozen 0
        have f1:=va.frozen 1
        have f2:=va.frozen 2
        refine fr_op [8] (by kernel_rfl) (by simp) ?_;intro jj hjj;simp only[List.mem_cons,List.not_mem_nil,or_false] at hjj;subst hjj;refine⟨_,rfl,rfl,fun K hK=>?_⟩
        go_wp2
        have hE:=((hD.setCell (p:=⟨wn20.heap.size,0,none⟩) la (.int .i64 x)).setCell (p:=⟨wn20.heap.size,1,none⟩) la (.int .i64 ot)).setCell (p:=⟨wn20.heap.size,2,none⟩) la (.slice Ao fl co)
        have vn:=((va.set 0 (.int .i64 x)).set 1 (.int .i64 ot)).set 2 (.slice Ao fl co)
        have vo:=((vb.other ⟨wn20.heap.size,0,none⟩ (.int .i64 x) (show wn1.heap.size≠wn20.heap.size by omega)).other ⟨wn20.heap.size,1,none⟩ (.int .i64 ot) (show wn1.heap.size≠wn20.heap.size by omega)).other ⟨wn20.heap.size,2,none⟩ (.slice Ao fl co) (show wn1.heap.size≠wn20.heap.size by omega)
        refine hK.out _ _ (HS.out _ hE) ?_
        clear hK hH hD va vb z0 z1 z2 f0 f1 f2
        have hH:=HS.out _ hE
        have hD:=hE
        clear hE
        generalize ((wn26.setCell ⟨wn20.heap.size,0,none⟩ (.int .i64 x)).setCell ⟨wn20.heap.size,1,none⟩ (.int .i64 ot)).setCell ⟨wn20.heap.size,2,none⟩ (.slice Ao fl co)=wn27 at *
        have va:=vn
        have vb:=vo
        clear vn vo
        have z0:=vb.cell (j:=0) rfl
        have z1:=vb.cell (j:=1) rfl
        have z2:=vb.cell (j:=2) rfl
        have f0:=vb.frozen 0
        have f1:=vb.frozen 1
        have f2:=vb.frozen 2
        refine fr_op [9] (by kernel_rfl) (by simp) ?_;intro jj hjj;simp only[List.mem_cons,List.not_mem_nil,or_false] at hjj;subst hjj;refine⟨_,rfl,rfl,fun K hK=>?_⟩
        go_wp2
        have hE:=((hD.setCell (p:=⟨wn1.heap.size,0,none⟩) lb (.int .i64 x)).setCell (p:=⟨wn1.heap.size,1,none⟩) lb (.int .i64 pt)).setCell (p:=⟨wn1.heap.size,2,none⟩) lb (.slice Ap fl cp)
        have vn:=((vb.set 0 (.int .i64 x)).set 1 (.int .i64 pt)).set 2 (.slice Ap fl cp)
        have vo:=((va.other ⟨wn1.heap.size,0,none⟩ (.int .i64 x) (show wn20.heap.size≠wn1.heap.size by omega)).other ⟨wn1.heap.size,1,none⟩ (.int .i64 pt) (show wn20.heap.size≠wn1.heap.size by omega)).other ⟨wn1.heap.size,2,none⟩ (.slice Ap fl cp) (show wn20.heap.size≠wn1.heap.size by omega)
        refine hK.out _ _ (HS.out _ hE) ?_
        clear hK hH hD va vb z0 z1 z2 f0 f1 f2
        have hH:=HS.out _ hE
        have hD:=hE
        clear hE
        generalize ((wn27.setCell ⟨wn1.heap.size,0,none⟩ (.int .i64 x)).setCell ⟨wn1.heap.size,1,none⟩ (.int .i64 pt)).setCell ⟨wn1.heap.size,2,none⟩ (.slice Ap fl cp)=wn28 at *
        have vb:=vn
        have va:=vo
        clear vn vo
        refine fr_done (by kernel_rfl) ?_
        go_wp2
        go_meet
        case rel=>exact⟨_,_,rfl,rfl,va,vb,la,lb,hD⟩
     ·refine⟨_,rfl,rfl,fun K hK=>?_⟩
      go_wp2
      have hE:=hD.alloc hD.size (.cells #[.int .i64 0,.int .i64 0,.slice none 0 0] 53)
      have va:=Blk.new wd 53 [.int .i64 0,.int .i64 0,.slice none 0 0]
      have la:=hD.size
      refine hK.out _ _ (HS.out _ hE) ?_
      clear hK hH hD
      have hH:=HS.out _ hE
      have hD:=hE
      clear hE
      generalize wd.alloc (.cells #[.int .i64 0,.int .i64 0,.slice none 0 0] 53)=wn29 at *
      refine fr_op [2,7] (by kernel_rfl) (by simp) ?_;intro jj hjj;simp only[List.mem_cons,List.not_mem_nil,or_false] at hjj;rcases hjj with rfl | rfl
      ·refine⟨_,rfl,rfl,fun K hK=>?_⟩
       go_wp2_with (go_at_call 57;refine (TA.out _ hD).mono ?_;rintro e wn30 ⟨rfl,hB⟩)
       have hE:=hD.trans (hB.mono hD.size)
       replace va:=va.to hB
       refine hK.out _ _ (HS.out _ hE) ?_
       clear hK hH hB hD
       have hH:=HS.out _ hE
       have hD:=hE
       clear hE
       refine fr_op [5,7] (by kernel_rfl) (by simp) ?_;intro jj hjj;simp only[List.mem_cons,List.not_mem_nil,or_false] at hjj;rcases hjj with rfl | rfl
       ·refine⟨_,rfl,rfl,fun K hK=>?_⟩
        go_wp2_with (go_at_call 57;refine (TB.out _ hD).mono ?_;rintro e wn31 ⟨rfl,hB⟩)
        have hE:=hD.trans (hB.mono hD.size)
        replace va:=va.to hB
        refine hK.out _ _ (HS.out _ hE) ?_
        clear hK hH hB hD
        have hH:=HS.out _ hE
        have hD:=hE
        clear hE
        refine fr_op [7] (by kernel_rfl) (by simp) ?_;intro jj hjj;simp only[List.mem_cons,List.not_mem_nil,or_false] at hjj;subst hjj;refine⟨_,rfl,rfl,fun K hK=>?_⟩
        go_wp2
        have hE:=hD.alloc hD.size (.cells #[.int .i64 0,.int .i64 0,.slice none 0 0] 53)
        have vb:=Blk.new wn31 53 [.int .i64 0,.int .i64 0,.slice none 0 0]
        have lb:=hD.size
        have lb3:=va.lt
        replace va:=va.alloc (.cells #[.int .i64 0,.int .i64 0,.slice none 0 0] 53)
        refine hK.out _ _ (HS.out _ hE) ?_
        clear hK hH hD
        have hH:=HS.out _ hE
        have hD:=hE
        clear hE
        generalize wn31.alloc (.cells #[.int .i64 0,.int .i64 0,.slice none 0 0] 53)=wn32 at *
        have la2:=va.lt
        have lb2:=vb.lt
        have z0:=va.cell (j:=0) rfl
        have z1:=va.cell (j:=1) rfl
        have z2:=va.cell (j:=2) rfl
        have f0:=va.frozen 0
        have f1:=va.frozen 1
        have f2:=va.frozen 2
        refine fr_op [8] (by kernel_rfl) (by simp) ?_;intro jj hjj;simp only[List.mem_cons,List.not_mem_nil,or_false] at hjj;subst hjj;refine⟨_,rfl,rfl,fun K hK=>?_⟩
        go_wp2
        have hE:=((hD.setCell (p:=⟨wd.heap.size,0,none⟩) la (.int .i64 x)).setCell (p:=⟨wd.heap.size,1,none⟩) la (.int .i64 ot)).setCell (p:=⟨wd.heap.size,2,none⟩) la (.slice Ao fl co)
        have vn:=((va.set 0 (.int .i64 x)).set 1 (.int .i64 ot)).set 2 (.slice Ao fl co)
        have vo:=((vb.other ⟨wd.heap.size,0,none⟩ (.int .i64 x) (show wn31.heap.size≠wd.heap.size by omega)).other ⟨wd.heap.size,1,none⟩ (.int .i64 ot) (show wn31.heap.size≠wd.heap.size by omega)).other ⟨wd.heap.size,2,none⟩ (.slice Ao fl co) (show wn31.heap.size≠wd.heap.size by omega)
        refine hK.out _ _ (HS.out _ hE) ?_
        clear hK hH hD va vb z0 z1 z2 f0 f1 f2
        have hH:=HS.out _ hE
        have hD:=hE
        clear hE
        generalize ((wn32.setCell ⟨wd.heap.size,0,none⟩ (.int .i64 x)).setCell ⟨wd.heap.size,1,none⟩ (.int .i64 ot)).setCell ⟨wd.heap.size,2,none⟩ (.slice Ao fl co)=wn33 at *
        have va:=vn
        have vb:=vo
        clear vn vo
        have z0:=vb.cell (j:=0) rfl
        have z1:=vb.cell (j:=1) rfl
        have z2:=vb.cell (j:=2) rfl
        have f0:=vb.frozen 0
        have f1:=vb.frozen 1
        have f2:=vb.frozen 2
        refine fr_op [9] (by kernel_rfl) (by simp) ?_;intro jj hjj;simp only[List.mem_cons,List.not_mem_nil,or_false] at hjj;subst hjj;refine⟨_,rfl,rfl,fun K hK=>?_⟩
        go_wp2
        have hE:=((hD.setCell (p:=⟨wn31.heap.size,0,none⟩) lb (.int .i64 x)).setCell (p:=⟨wn31.heap.size,1,none⟩) lb (.int .i64 pt)).setCell (p:=⟨wn31.heap.size,2,none⟩) lb (.slice Ap fl cp)
        have vn:=((vb.set 0 (.int .i64 x)).set 1 (.int .i64 pt)).set 2 (.slice Ap fl cp)
        have vo:=((va.other ⟨wn31.heap.size,0,none⟩ (.int .i64 x) (show wd.heap.size≠wn31.heap.size by omega)).other ⟨wn31.heap.size,1,none⟩ (.int .i64 pt) (show wd.heap.size≠wn31.heap.size by omega)).other ⟨wn31.heap.size,2,none⟩ (.slice Ap fl cp) (show wd.heap.size≠wn31.heap.size by omega)
        refine hK.out _ _ (HS.out _ hE) ?_
        clear hK hH hD va vb z0 z1 z2 f0 f1 f2
        have hH:=HS.out _ hE
        have hD:=hE
        clear hE
        generalize ((wn33.setCell ⟨wn31.heap.size,0,none⟩ (.int .i64 x)).setCell ⟨wn31.heap.size,1,none⟩ (.int .i64 pt)).setCell ⟨wn31.heap.size,2,none⟩ (.slice Ap fl cp)=wn34 at *
        have vb:=vn
        have va:=vo
        clear vn vo
        refine fr_done (by kernel_rfl) ?_
        go_wp2
        go_meet
        case rel=>exact⟨_,_,rfl,rfl,va,vb,la,lb,hD⟩
       ·refine⟨_,rfl,rfl,fun K hK=>?_⟩
        go_wp2
        have hE:=hD.alloc hD.size (.cells #[.int .i64 0,.int .i64 0,.slice none 0 0] 53)
        have vb:=Blk.new wn30 53 [.int .i64 0,.int .i64 0,.slice none 0 0]
        have lb:=hD.size
        have lb3:=va.lt
        replace va:=va.alloc (.cells #[.int .i64 0,.int .i64 0,.slice none 0 0] 53)
        refine hK.out _ _ (HS.out _ hE) ?_
        clear hK hH hD
        have hH:=HS.out _ hE
        have hD:=hE
        clear hE
        generalize wn30.alloc (.cells #[.int .i64 0,.int .i64 0,.slice none 0 0] 53)=wn35 at *
        refine fr_op [5] (by kernel_rfl) (by simp) ?_;intro jj hjj;simp only[List.mem_cons,List.not_mem_nil,or_false] at hjj;subst hjj;refine⟨_,rfl,rfl,fun K hK=>?_⟩
        go_wp2_with (go_at_call 57;refine (TB.out _ hD).mono ?_;rintro e wn36 ⟨rfl,hB⟩)
        have hE:=hD.trans (hB.mono hD.size)
        replace va:=va.to hB
        replace vb:=vb.to hB
        refine hK.out _ _ (HS.out _ hE) ?_
        clear hK hH hB hD
        have hH:=HS.out _ hE
        have hD:=hE
        clear hE
        have la2:=va.lt
        have lb2:=vb.lt
        have z0:=va.cell (j:=0) rfl
        have z1:=va.cell (j:=1) rfl
        have z2:=va.cell (j:=2) rfl
        have f0:=va.frozen 0
        have f1:=va.frozen 1
        have f2:=va.frozen 2
        refine fr_op [8] (by kernel_rfl) (by simp) ?_;intro jj hjj;simp only[List.mem_cons,List.not_mem_nil,or_false] at hjj;subst hjj;refine⟨_,rfl,rfl,fun K hK=>?_⟩
        go_wp2
        have hE:=((hD.setCell (p:=⟨wd.heap.size,0,none⟩) la (.int .i64 x)).setCell (p:=⟨wd.heap.size,1,none⟩) la (.int .i64 ot)).setCell (p:=⟨wd.heap.size,2,none⟩) la (.slice Ao fl co)
        have vn:=((va.set 0 (.int .i64 x)).set 1 (.int .i64 ot)).set 2 (.slice Ao fl co)
        have vo:=((vb.other ⟨wd.heap.size,0,none⟩ (.int .i64 x) (show wn30.heap.size≠wd.heap.size by omega)).other ⟨wd.heap.size,1,none⟩ (.int .i64 ot) (show wn30.heap.size≠wd.heap.size by omega)).other ⟨wd.heap.size,2,none⟩ (.slice Ao fl co) (show wn30.heap.size≠wd.heap.size by omega)
        refine hK.out _ _ (HS.out _ hE) ?_
        clear hK hH hD va vb z0 z1 z2 f0 f1 f2
        have hH:=HS.out _ hE
        have hD:=hE
        clear hE
        generalize ((wn36.setCell ⟨wd.heap.size,0,none⟩ (.int .i64 x)).setCell ⟨wd.heap.size,1,none⟩ (.int .i64 ot)).setCell ⟨wd.heap.size,2,none⟩ (.slice Ao fl co)=wn37 at *
        have va:=vn
        have vb:=vo
        clear vn vo
        have z0:=vb.cell (j:=0) rfl
        have z1:=vb.cell (j:=1) rfl
        have z2:=vb.cell (j:=2) rfl
        have f0:=vb.frozen 0
        have f1:=vb.frozen 1
        have f2:=vb.frozen 2
        refine fr_op [9] (by kernel_rfl) (by simp) ?_;intro jj hjj;simp only[List.mem_cons,List.not_mem_nil,or_false] at hjj;subst hjj;refine⟨_,rfl,rfl,fun K hK=>?_⟩
        go_wp2
        have hE:=((hD.setCell (p:=⟨wn30.heap.size,0,none⟩) lb (.int .i64 x)).setCell (p:=⟨wn30.heap.size,1,none⟩) lb (.int .i64 pt)).setCell (p:=⟨wn30.heap.size,2,none⟩) lb (.slice Ap fl cp)
        have vn:=((vb.set 0 (.int .i64 x)).set 1 (.int .i64 pt)).set 2 (.slice Ap fl cp)
        have vo:=((va.other ⟨wn30.heap.size,0,none⟩ (.int .i64 x) (show wd.heap.size≠wn30.heap.size by omega)).other ⟨wn30.heap.size,1,none⟩ (.int .i64 pt) (show wd.heap.size≠wn30.heap.size by omega)).other ⟨wn30.heap.size,2,none⟩ (.slice Ap fl cp) (show wd.heap.size≠wn30.heap.size by omega)
        refine hK.out _ _ (HS.out _ hE) ?_
        clear hK hH hD va vb z0 z1 z2 f0 f1 f2
        have hH:=HS.out _ hE
        have hD:=hE
        clear hE
        generalize ((wn37.setCell ⟨wn30.heap.size,0,none⟩ (.int .i64 x)).setCell ⟨wn30.heap.size,1,none⟩ (.int .i64 pt)).setCell ⟨wn30.heap.size,2,none⟩ (.slice Ap fl cp)=wn38 at *
        have vb:=vn
        have va:=vo
        clear vn vo
        refine fr_done (by kernel_rfl) ?_
        go_wp2
        go_meet
        case rel=>exact⟨_,_,rfl,rfl,va,vb,la,lb,hD⟩
      ·refine⟨_,rfl,rfl,fun K hK=>?_⟩
       go_wp2
       have hE:=hD.alloc hD.size (.cells #[.int .i64 0,.int .i64 0,.slice none 0 0] 53)
       have vb:=Blk.new wn29 53 [.int .i64 0,.int .i64 0,.slice none 0 0]
       have lb:=hD.size
       have lb3:=va.lt
       replace va:=va.alloc (.cells #[.int .i64 0,.int .i64 0,.slice none 0 0] 53)
       refine hK.out _ _ (HS.out _ hE) ?_
       clear hK hH hD
       have hH:=HS.out _ hE
       have hD:=hE
       clear hE
       generalize wn29.alloc (.cells #[.int .i64 0,.int .i64 0,.slice none 0 0] 53)=wn39 at *
       refine fr_op [2] (by kernel_rfl) (by simp) ?_;intro jj hjj;simp only[List.mem_cons,List.not_mem_nil,or_false] at hjj;subst hjj;refine⟨_,rfl,rfl,fun K hK=>?_⟩
       go_wp2_with (go_at_call 57;refine (TA.out _ hD).mono ?_;rintro e wn40 ⟨rfl,hB⟩)
       have hE:=hD.trans (hB.mono hD.size)
       replace va:=va.to hB
       replace vb:=vb.to hB
       refine hK.out _ _ (HS.out _ hE) ?_
       clear hK hH hB hD
       have hH:=HS.out _ hE
       have hD:=hE
       clear hE
       refine fr_op [5] (by kernel_rfl) (by simp) ?_;intro jj hjj;simp only[List.mem_cons,List.not_mem_nil,or_false] at hjj;subst hjj;refine⟨_,rfl,rfl,fun K hK=>?_⟩
       go_wp2_with (go_at_call 57;refine (TB.out _ hD).mono ?_;rintro e wn41 ⟨rfl,hB⟩)
       have hE:=hD.trans (hB.mono hD.size)
       replace va:=va.to hB
       replace vb:=vb.to hB
       refine hK.out _ _ (HS.out _ hE) ?_
       clear hK hH hB hD
       have hH:=HS.out _ hE
       have hD:=hE
       clear hE
       have la2:=va.lt
       have lb2:=vb.lt
       have z0:=va.cell (j:=0) rfl
       have z1:=va.cell (j:=1) rfl
       have z2:=va.cell (j:=2) rfl
       have f0:=va.frozen 0
       have f1:=va.frozen 1
       have f2:=va.frozen 2
       refine fr_op [8] (by kernel_rfl) (by simp) ?_;intro jj hjj;simp only[List.mem_cons,List.not_mem_nil,or_false] at hjj;subst hjj;refine⟨_,rfl,rfl,fun K hK=>?_⟩
       go_wp2
       have hE:=((hD.setCell (p:=⟨wd.heap.size,0,none⟩) la (.int .i64 x)).setCell (p:=⟨wd.heap.size,1,none⟩) la (.int .i64 ot)).setCell (p:=⟨wd.heap.size,2,none⟩) la (.slice Ao fl co)
       have vn:=((va.set 0 (.int .i64 x)).set 1 (.int .i64 ot)).set 2 (.slice Ao fl co)
       have vo:=((vb.other ⟨wd.heap.size,0,none⟩ (.int .i64 x) (show wn29.heap.size≠wd.heap.size by omega)).other ⟨wd.heap.size,1,none⟩ (.int .i64 ot) (show wn29.heap.size≠wd.heap.size by omega)).other ⟨wd.heap.size,2,none⟩ (.slice Ao fl co) (show wn29.heap.size≠wd.heap.size by omega)
       refine hK.out _ _ (HS.out _ hE) ?_
       clear hK hH hD va vb z0 z1 z2 f0 f1 f2
       have hH:=HS.out _ hE
       have hD:=hE
       clear hE
       generalize ((wn41.setCell ⟨wd.heap.size,0,none⟩ (.int .i64 x)).setCell ⟨wd.heap.size,1,none⟩ (.int .i64 ot)).setCell ⟨wd.heap.size,2,none⟩ (.slice Ao fl co)=wn42 at *
       have va:=vn
       have vb:=vo
       clear vn vo
       have z0:=vb.cell (j:=0) rfl
       have z1:=vb.cell (j:=1) rfl
       have z2:=vb.cell (j:=2) rfl
       have f0:=vb.frozen 0
       have f1:=vb.frozen 1
       have f2:=vb.frozen 2
       refine fr_op [9] (by kernel_rfl) (by simp) ?_;intro jj hjj;simp only[List.mem_cons,List.not_mem_nil,or_false] at hjj;subst hjj;refine⟨_,rfl,rfl,fun K hK=>?_⟩
       go_wp2
       have hE:=((hD.setCell (p:=⟨wn29.heap.size,0,none⟩) lb (.int .i64 x)).setCell (p:=⟨wn29.heap.size,1,none⟩) lb (.int .i64 pt)).setCell (p:=⟨wn29.heap.size,2,none⟩) lb (.slice Ap fl cp)
       have vn:=((vb.set 0 (.int .i64 x)).set 1 (.int .i64 pt)).set 2 (.slice Ap fl cp)
       have vo:=((va.other ⟨wn29.heap.size,0,none⟩ (.int .i64 x) (show wd.heap.size≠wn29.heap.size by omega)).other ⟨wn29.heap.size,1,none⟩ (.int .i64 pt) (show wd.heap.size≠wn29.heap.size by omega)).other ⟨wn29.heap.size,2,none⟩ (.slice Ap fl cp) (show wd.heap.size≠wn29.heap.size by omega)
       refine hK.out _ _ (HS.out _ hE) ?_
       clear hK hH hD va vb z0 z1 z2 f0 f1 f2
       have hH:=HS.out _ hE
       have hD:=hE
       clear hE
       generalize ((wn42.setCell ⟨wn29.heap.size,0,none⟩ (.int .i64 x)).setCell ⟨wn29.heap.size,1,none⟩ (.int .i64 pt)).setCell ⟨wn29.heap.size,2,none⟩ (.slice Ap fl cp)=wn43 at *
       have vb:=vn
       have va:=vo
       clear vn vo
       refine fr_done (by kernel_rfl) ?_
       go_wp2
       go_meet
       case rel=>exact⟨_,_,rfl,rfl,va,vb,la,lb,hD⟩
     ·refine⟨_,rfl,rfl,fun K hK=>?_⟩
      go_wp2
      have hE:=hD.alloc hD.size (.cells #[.int .i64 0,.int .i64 0,.slice none 0 0] 53)
      have vb:=Blk.new wd 53 [.int .i64 0,.int .i64 0,.slice none 0 0]
      have lb:=hD.size
      refine hK.out _ _ (HS.out _ hE) ?_
      clear hK hH hD
      have hH:=HS.out _ hE
      have hD:=hE
      clear hE
      generalize wd.alloc (.cells #[.int .i64 0,.int .i64 0,.slice none 0 0] 53)=wn44 at *
      refine fr_op [2,6] (by kernel_rfl) (by simp) ?_;intro jj hjj;simp only[List.mem_cons,List.not_mem_nil,or_false] at hjj;rcases hjj with rfl | rfl
      ·refine⟨_,rfl,rfl,fun K hK=>?_⟩
       go_wp2_with (go_at_call 57;refine (TA.out _ hD).mono ?_;rintro e wn45 ⟨rfl,hB⟩)
       have hE:=hD.trans (hB.mono hD.size)
       replace vb:=vb.to hB
       refine hK.out _ _ (HS.out _ hE) ?_
       clear hK hH hB hD
       have hH:=HS.out _ hE
       have hD:=hE
       clear hE
       refine fr_op [5,6] (by kernel_rfl) (by simp) ?_;intro jj hjj;simp only[List.mem_cons,List.not_mem_nil,or_false] at hjj;rcases hjj with rfl | rfl
       ·refine⟨_,rfl,rfl,fun K hK=>?_⟩
        go_wp2_with (go_at_call 57;refine (TB.out _ hD).mono ?_;rintro e wn46 ⟨rfl,hB⟩)
        have hE:=hD.trans (hB.mono hD.size)
        replace vb:=vb.to hB
        refine hK.out _ _ (HS.out _ hE) ?_
        clear hK hH hB hD
        have hH:=HS.out _ hE
        have hD:=hE
        clear hE
        refine fr_op [6] (by kernel_rfl) (by simp) ?_;intro jj hjj;simp only[List.mem_cons,List.not_mem_nil,or_false] at hjj;subst hjj;refine⟨_,rfl,rfl,fun K hK=>?_⟩
        go_wp2
        have hE:=hD.alloc hD.size (.cells #[.int .i64 0,.int .i64 0,.slice none 0 0] 53)
        have va:=Blk.new wn46 53 [.int .i64 0,.int .i64 0,.slice none 0 0]
        have la:=hD.size
        have la3:=vb.lt
        replace vb:=vb.alloc (.cells #[.int .i64 0,.int .i64 0,.slice none 0 0] 53)
        refine hK.out _ _ (HS.out _ hE) ?_
        clear hK hH hD
        have hH:=HS.out _ hE
        have hD:=hE
        clear hE
        generalize wn46.alloc (.cells #[.int .i64 0,.int .i64 0,.slice none 0 0] 53)=wn47 at *
        have la2:=va.lt
        have lb2:=vb.lt
        have z0:=va.cell (j:=0) rfl
        have z1:=va.cell (j:=1) rfl
        have z2:=va.cell (j:=2) rfl
        have f0:=va.frozen 0
        have f1:=va.frozen 1
        have f2:=va.frozen 2
        refine fr_op [8] (by kernel_rfl) (by simp) ?_;intro jj hjj;simp only[List.mem_cons,List.not_mem_nil,or_false] at hjj;subst hjj;refine⟨_,rfl,rfl,fun K hK=>?_⟩
        go_wp2
        have hE:=((hD.setCell (p:=⟨wn46.heap.size,0,none⟩) la (.int .i64 x)).setCell (p:=⟨wn46.heap.size,1,none⟩) la (.int .i64 ot)).setCell (p:=⟨wn46.heap.size,2,none⟩) la (.slice Ao fl co)
        have vn:=((va.set 0 (.int .i64 x)).set 1 (.int .i64 ot)).set 2 (.slice Ao fl co)
        have vo:=((vb.other ⟨wn46.heap.size,0,none⟩ (.int .i64 x) (show wd.heap.size≠wn46.heap.size by omega)).other ⟨wn46.heap.size,1,none⟩ (.int .i64 ot) (show wd.heap.size≠wn46.heap.size by omega)).other ⟨wn46.heap.size,2,none⟩ (.slice Ao fl co) (show wd.heap.size≠wn46.heap.size by omega)
        refine hK.out _ _ (HS.out _ hE) ?_
        clear hK hH hD va vb z0 z1 z2 f0 f1 f2
        have hH:=HS.out _ hE
        have hD:=hE
        clear hE
        generalize ((wn47.setCell ⟨wn46.heap.size,0,none⟩ (.int .i64 x)).setCell ⟨wn46.heap.size,1,none⟩ (.int .i64 ot)).setCell ⟨wn46.heap.size,2,none⟩ (.slice Ao fl co)=wn48 at *
        have va:=vn
        have vb:=vo
        clear vn vo
        have z0:=vb.cell (j:=0) rfl
        have z1:=vb.cell (j:=1) rfl
        have z2:=vb.cell (j:=2) rfl
        have f0:=vb.frozen 0
        have f1:=vb.frozen 1
        have f2:=vb.frozen 2
        refine fr_op [9] (by kernel_rfl) (by simp) ?_;intro jj hjj;simp only[List.mem_cons,List.not_mem_nil,or_false] at hjj;subst hjj;refine⟨_,rfl,rfl,fun K hK=>?_⟩
        go_wp2
        have hE:=((hD.setCell (p:=⟨wd.heap.size,0,none⟩) lb (.int .i64 x)).setCell (p:=⟨wd.heap.size,1,none⟩) lb (.int .i64 pt)).setCell (p:=⟨wd.heap.size,2,none⟩) lb (.slice Ap fl cp)
        have vn:=((vb.set 0 (.int .i64 x)).set 1 (.int .i64 pt)).set 2 (.slice Ap fl cp)
        have vo:=((va.other ⟨wd.heap.size,0,none⟩ (.int .i64 x) (show wn46.heap.size≠wd.heap.size by omega)).other ⟨wd.heap.size,1,none⟩ (.int .i64 pt) (show wn46.heap.size≠wd.heap.size by omega)).other ⟨wd.heap.size,2,none⟩ (.slice Ap fl cp) (show wn46.heap.size≠wd.heap.size by omega)
        refine hK.out _ _ (HS.out _ hE) ?_
        clear hK hH hD va vb z0 z1 z2 f0 f1 f2
        have hH:=HS.out _ hE
        have hD:=hE
        clear hE
        generalize ((wn48.setCell ⟨wd.heap.size,0,none⟩ (.int .i64 x)).setCell ⟨wd.heap.size,1,none⟩ (.int .i64 pt)).setCell ⟨wd.heap.size,2,none⟩ (.slice Ap fl cp)=wn49 at *
        have vb:=vn
        have va:=vo
        clear vn vo
        refine fr_done (by kernel_rfl) ?_
        go_wp2
        go_meet
        case rel=>exact⟨_,_,rfl,rfl,va,vb,la,lb,hD⟩
       ·refine⟨_,rfl,rfl,fun K hK=>?_⟩
        go_wp2
        have hE:=hD.alloc hD.size (.cells #[.int .i64 0,.int .i64 0,.slice none 0 0] 53)
        have va:=Blk.new wn45 53 [.int .i64 0,.int .i64 0,.slice none 0 0]
        have la:=hD.size
        have la3:=vb.lt
        replace vb:=vb.alloc (.cells #[.int .i64 0,.int .i64 0,.slice none 0 0] 53)
        refine hK.out _ _ (HS.out _ hE) ?_
        clear hK hH hD
        have hH:=HS.out _ hE
        have hD:=hE
        clear hE
        generalize wn45.alloc (.cells #[.int .i64 0,.int .i64 0,.slice none 0 0] 53)=wn50 at *
        refine fr_op [5] (by kernel_rfl) (by simp) ?_;intro jj hjj;simp only[List.mem_cons,List.not_mem_nil,or_false] at hjj;subst hjj;refine⟨_,rfl,rfl,fun K hK=>?_⟩
        go_wp2_with (go_at_call 57;refine (TB.out _ hD).mono ?_;rintro e wn51 ⟨rfl,hB⟩)
        have hE:=hD.trans (hB.mono hD.size)
        replace va:=va.to hB
        replace vb:=vb.to hB
        refine hK.out _ _ (HS.out _ hE) ?_
        clear hK hH hB hD
        have hH:=HS.out _ hE
        have hD:=hE
        clear hE
        have la2:=va.lt
        have lb2:=vb.lt
        have z0:=va.cell (j:=0) rfl
        have z1:=va.cell (j:=1) rfl
        have z2:=va.cell (j:=2) rfl
        have f0:=va.frozen 0
        have f1:=va.frozen 1
        have f2:=va.frozen 2
        refine fr_op [8] (by kernel_rfl) (by simp) ?_;intro jj hjj;simp only[List.mem_cons,List.not_mem_nil,or_false] at hjj;subst hjj;refine⟨_,rfl,rfl,fun K hK=>?_⟩
        go_wp2
        have hE:=((hD.setCell (p:=⟨wn45.heap.size,0,none⟩) la (.int .i64 x)).setCell (p:=⟨wn45.heap.size,1,none⟩) la (.int .i64 ot)).setCell (p:=⟨wn45.heap.size,2,none⟩) la (.slice Ao fl co)
        have vn:=((va.set 0 (.int .i64 x)).set 1 (.int .i64 ot)).set 2 (.slice Ao fl co)
        have vo:=((vb.other ⟨wn45.heap.size,0,none⟩ (.int .i64 x) (show wd.heap.size≠wn45.heap.size by omega)).other ⟨wn45.heap.size,1,none⟩ (.int .i64 ot) (show wd.heap.size≠wn45.heap.size by omega)).other ⟨wn45.heap.size,2,none⟩ (.slice Ao fl co) (show wd.heap.size≠wn45.heap.size by omega)
        refine hK.out _ _ (HS.out _ hE) ?_
        clear hK hH hD va vb z0 z1 z2 f0 f1 f2
        have hH:=HS.out _ hE
        have hD:=hE
        clear hE
        generalize ((wn51.setCell ⟨wn45.heap.size,0,none⟩ (.int .i64 x)).setCell ⟨wn45.heap.size,1,none⟩ (.int .i64 ot)).setCell ⟨wn45.heap.size,2,none⟩ (.slice Ao fl co)=wn52 at *
        have va:=vn
        have vb:=vo
        clear vn vo
        have z0:=vb.cell (j:=0) rfl
        have z1:=vb.cell (j:=1) rfl
        have z2:=vb.cell (j:=2) rfl
        have f0:=vb.frozen 0
        have f1:=vb.frozen 1
        have f2:=vb.frozen 2
        refine fr_op [9] (by kernel_rfl) (by simp) ?_;intro jj hjj;simp only[List.mem_cons,List.not_mem_nil,or_false] at hjj;subst hjj;refine⟨_,rfl,rfl,fun K hK=>?_⟩
        go_wp2
        have hE:=((hD.setCell (p:=⟨wd.heap.size,0,none⟩) lb (.int .i64 x)).setCell (p:=⟨wd.heap.size,1,none⟩) lb (.int .i64 pt)).setCell (p:=⟨wd.heap.size,2,none⟩) lb (.slice Ap fl cp)
        have vn:=((vb.set 0 (.int .i64 x)).set 1 (.int .i64 pt)).set 2 (.slice Ap fl cp)
        have vo:=((va.other ⟨wd.heap.size,0,none⟩ (.int .i64 x) (show wn45.heap.size≠wd.heap.size by omega)).other ⟨wd.heap.size,1,none⟩ (.int .i64 pt) (show wn45.heap.size≠wd.heap.size by omega)).other ⟨wd.heap.size,2,none⟩ (.slice Ap fl cp) (show wn45.heap.size≠wd.heap.size by omega)
        refine hK.out _ _ (HS.out _ hE) ?_
        clear hK hH hD va vb z0 z1 z2 f0 f1 f2
        have hH:=HS.out _ hE
        have hD:=hE
        clear hE
        generalize ((wn52.setCell ⟨wd.heap.size,0,none⟩ (.int .i64 x)).setCell ⟨wd.heap.size,1,none⟩ (.int .i64 pt)).setCell ⟨wd.heap.size,2,none⟩ (.slice Ap fl cp)=wn53 at *
        have vb:=vn
        have va:=vo
        clear vn vo
        refine fr_done (by kernel_rfl) ?_
        go_wp2
        go_meet
        case rel=>exact⟨_,_,rfl,rfl,va,vb,la,lb,hD⟩
      ·refine⟨_,rfl,rfl,fun K hK=>?_⟩
       go_wp2
       have hE:=hD.alloc hD.size (.cells #[.int .i64 0,.int .i64 0,.slice none 0 0] 53)
       have va:=Blk.new wn44 53 [.int .i64 0,.int .i64 0,.slice none 0 0]
       have la:=hD.size
       have la3:=vb.lt
       replace vb:=vb.alloc (.cells #[.int .i64 0,.int .i64 0,.slice none 0 0] 53)
       refine hK.out _ _ (HS.out _ hE) ?_
       clear hK hH hD
       have hH:=HS.out _ hE
       have hD:=hE
       clear hE
       generalize wn44.alloc (.cells #[.int .i64 0,.int .i64 0,.slice none 0 0] 53)=wn54 at *
       refine fr_op [2] (by kernel_rfl) (by simp) ?_;intro jj hjj;simp only[List.mem_cons,List.not_mem_nil,or_false] at hjj;subst hjj;refine⟨_,rfl,rfl,fun K hK=>?_⟩
       go_wp2_with (go_at_call 57;refine (TA.out _ hD).mono ?_;rintro e wn55 ⟨rfl,hB⟩)
       have hE:=hD.trans (hB.mono hD.size)
       replace va:=va.to hB
       replace vb:=vb.to hB
       refine hK.out _ _ (HS.out _ hE) ?_
       clear hK hH hB hD
       have hH:=HS.out _ hE
       have hD:=hE
       clear hE
       refine fr_op [5] (by kernel_rfl) (by simp) ?_;intro jj hjj;simp only[List.mem_cons,List.not_mem_nil,or_false] at hjj;subst hjj;refine⟨_,rfl,rfl,fun K hK=>?_⟩
       go_wp2_with (go_at_call 57;refine (TB.out _ hD).mono ?_;rintro e wn56 ⟨rfl,hB⟩)
       have hE:=hD.trans (hB.mono hD.size)
       replace va:=va.to hB
       replace vb:=vb.to hB
       refine hK.out _ _ (HS.out _ hE) ?_
       clear hK hH hB hD
       have hH:=HS.out _ hE
       have hD:=hE
       clear hE
       have la2:=va.lt
       have lb2:=vb.lt
       have z0:=va.cell (j:=0) rfl
       have z1:=va.cell (j:=1) rfl
       have z2:=va.cell (j:=2) rfl
       have f0:=va.frozen 0
       have f1:=va.frozen 1
       have f2:=va.frozen 2
       refine fr_op [8] (by kernel_rfl) (by simp) ?_;intro jj hjj;simp only[List.mem_cons,List.not_mem_nil,or_false] at hjj;subst hjj;refine⟨_,rfl,rfl,fun K hK=>?_⟩
       go_wp2
       have hE:=((hD.setCell (p:=⟨wn44.heap.size,0,none⟩) la (.int .i64 x)).setCell (p:=⟨wn44.heap.size,1,none⟩) la (.int .i64 ot)).setCell (p:=⟨wn44.heap.size,2,none⟩) la (.slice Ao fl co)
       have vn:=((va.set 0 (.int .i64 x)).set 1 (.int .i64 ot)).set 2 (.slice Ao fl co)
       have vo:=((vb.other ⟨wn44.heap.size,0,none⟩ (.int .i64 x) (show wd.heap.size≠wn44.heap.size by omega)).other ⟨wn44.heap.size,1,none⟩ (.int .i64 ot) (show wd.heap.size≠wn44.heap.size by omega)).other ⟨wn44.heap.size,2,none⟩ (.slice Ao fl co) (show wd.heap.size≠wn44.heap.size by omega)
       refine hK.out _ _ (HS.out _ hE) ?_
       clear hK hH hD va vb z0 z1 z2 f0 f1 f2
       have hH:=HS.out _ hE
       have hD:=hE
       clear hE
       generalize ((wn56.setCell ⟨wn44.heap.size,0,none⟩ (.int .i64 x)).setCell ⟨wn44.heap.size,1,none⟩ (.int .i64 ot)).setCell ⟨wn44.heap.size,2,none⟩ (.slice Ao fl co)=wn57 at *
       have va:=vn
       have vb:=vo
       clear vn vo
       have z0:=vb.cell (j:=0) rfl
       have z1:=vb.cell (j:=1) rfl
       have z2:=vb.cell (j:=2) rfl
       have f0:=vb.frozen 0
       have f1:=vb.frozen 1
       have f2:=vb.frozen 2
       refine fr_op [9] (by kernel_rfl) (by simp) ?_;intro jj hjj;simp only[List.mem_cons,List.not_mem_nil,or_false] at hjj;subst hjj;refine⟨_,rfl,rfl,fun K hK=>?_⟩
       go_wp2
       have hE:=((hD.setCell (p:=⟨wd.heap.size,0,none⟩) lb (.int .i64 x)).setCell (p:=⟨wd.heap.size,1,none⟩) lb (.int .i64 pt)).setCell (p:=⟨wd.heap.size,2,none⟩) lb (.slice Ap fl cp)
       have vn:=((vb.set 0 (.int .i64 x)).set 1 (.int .i64 pt)).set 2 (.slice Ap fl cp)
       have vo:=((va.other ⟨wd.heap.size,0,none⟩ (.int .i64 x) (show wn44.heap.size≠wd.heap.size by omega)).other ⟨wd.heap.size,1,none⟩ (.int .i64 pt) (show wn44.heap.size≠wd.heap.size by omega)).other ⟨wd.heap.size,2,none⟩ (.slice Ap fl cp) (show wn44.heap.size≠wd.heap.size by omega)
       refine hK.out _ _ (HS.out _ hE) ?_
       clear hK hH hD va vb z0 z1 z2 f0 f1 f2
       have hH:=HS.out _ hE
       have hD:=hE
       clear hE
       generalize ((wn57.setCell ⟨wd.heap.size,0,none⟩ (.int .i64 x)).setCell ⟨wd.heap.size,1,none⟩ (.int .i64 pt)).setCell ⟨wd.heap.size,2,none⟩ (.slice Ap fl cp)=wn58 at *
       have vb:=vn
       have va:=vo
       clear vn vo
       refine fr_done (by kernel_rfl) ?_
       go_wp2
       go_meet
       case rel=>exact⟨_,_,rfl,rfl,va,vb,la,lb,hD⟩
    case rest=>
     obtain⟨bA,bB,rfl,rfl,va,vb,la,lb,hD⟩:=hcut
     have TW:=zZ (without_any AF2 Ao Ap fl cF2 fl fl co cp bA bB x ot x pt o.2.2 p.2.2 (allC cv) _ (fun y hy=>by
      obtain⟨k,hk⟩:=List.getElem?_of_mem hy
      have hkl:=(List.getElem?_eq_some_iff.1 hk).1
      rw[allC,List.getElem?_mapIdx] at hk
      cases hc:cv[k]? with
      | none=>rw[hc] at hk;cases hk
      | some u=>
       rw[hc] at hk
       injection hk with hk
       have:=Hal.out
       exact⟨k,by rw[← hk],by omega,by omega⟩) va vb (vals_below hD Hvo.out) (vals_below hD Hvp.out) (cels_below hD (rCels_stays.to (Keeps.mono fun b hb=>hb.2) (cels_own HI.out Hal.out hcv.out))) hf5)
     have b4:=HB4.out.to hD
     have e2:=b4.cell (j:=2) rfl
     have HD:=zZ hD
     have B4:=zZ b4
     clear TA TB HS Hvo Hvp hD va vb HI hcv b4
     go_wp2_with fail
     refine TW.out.mono ?_
     rintro e w9 ⟨v,rfl,⟨A9,c9,zs,rfl,ho9,hc9⟩,hB9⟩
     have HDw:=zZ (HD.out.trans (hB9.mono HD.out.size))
     have r3:=HR3.out.to HDw.out
     have b4:=B4.out.to hB9
     have Ho9:=zZ ho9
     have Hc9:=zZ hc9
     have HZ:=zZ (HBx.out.trans (HDw.out.mono HBx.out.size))
     have sD:=HD.out.size
     have e2':=b4.cell (j:=2) rfl
     have f2':=b4.frozen 2
     have e0':=b4.cell (j:=0) rfl
     have e1':=b4.cell (j:=1) rfl
     have y0:=r3.cell (j:=0) rfl
     have y1:=r3.cell (j:=1) rfl
     have y2:=r3.cell (j:=2) rfl
     have g0:=r3.frozen 0
     have g1:=r3.frozen 1
     have g2:=r3.frozen 2
     clear TW e2 hB9 ho9 hc9 B4 HR3 HB4 HD
     generalize hnl:((allC cv).filter (otherC o.2.2 p.2.2)).length=nl at *
     have Hnl:=zZ hnl
     clear hnl
     go_wp2
     have P9:=(((r3.other ⟨w.heap.size+4,2,none⟩ (.slice A9 nl c9) (show w.heap.size+3≠w.heap.size+4 by omega)).set 0 (.int .i64 fr)).set 1 (.int .i64 ft)).set 2 (.slice A9 nl c9)
     refine ret_cell0 (d:=.struct _) (cs:=[.int .i64 fr,.int .i64 ft,.slice A9 nl c9]) rfl P9 rfl rfl rfl rfl rfl ?_
     rw[Hsd.out,Hnl.out]
     refine⟨A9,c9,rfl,?_,?_⟩
     ·have sx2:=HBx.out.size
      exact cels_own (own_mono (own_keep Ho9.out fun k a1 a2=>by rw[Below.heap_setCell _ _ _ _ (show k≠w.heap.size+3 by omega),Below.heap_setCell _ _ _ _ (show k≠w.heap.size+3 by omega),Below.heap_setCell _ _ _ _ (show k≠w.heap.size+3 by omega),Below.heap_setCell _ _ _ _ (show k≠w.heap.size+4 by omega)]) (by omega)) Hnl.out Hc9.out
     ·exact (((HZ.out.setCell (p:=⟨w.heap.size+4,2,none⟩) (by simp) (.slice A9 nl c9)).setCell (p:=⟨w.heap.size+3,0,none⟩) (by simp) (.int .i64 fr)).setCell (p:=⟨w.heap.size+3,1,none⟩) (by simp) (.int .i64 ft)).setCell (p:=⟨w.heap.size+3,2,none⟩) (by simp) (.slice A9 nl c9)
end Go.Proofs.YtnljjnkindjeoaaGreatDoor
