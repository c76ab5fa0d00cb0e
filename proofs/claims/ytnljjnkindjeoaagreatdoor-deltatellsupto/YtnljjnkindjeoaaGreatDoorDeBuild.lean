/- The contract of delta's build: the graph that items tell, of one that may be, and whether they can. Condition: at most 1000000 items. -/
import Derived.Test.YtnljjnkindjeoaaGreatDoorDeVals4
import Derived.Test.YtnljjnkindjeoaaGreatDoorGCanon
import Derived.Test.YtnljjnkindjeoaaGreatDoorAl
set_option maxRecDepth 100000
set_option maxHeartbeats 4000000
namespace Go.Proofs.YtnljjnkindjeoaaGreatDoor
open Go.RowKit Go.Maps
def buildG (g:Gr) (q:Dlt):Gr:=match buildQ g q.2.2 with | some l=>(g.1,l,q.2.1) | none=>([],[],[])
theorem objsP_at {g:Gr} {l:List Itm} {i:Nat} {x:Itm} (h:l[i]?=some x):objsP g l i (l.drop i)=(valsQ g l x).bind fun vs=>(objsP g l (i+1) (l.drop (i+1))).map (((i:Int),x.2.1,vs) :: ·):=by
 obtain⟨h1,h2⟩:=List.getElem?_eq_some_iff.1 h
 rw[List.drop_eq_getElem_cons h1,h2,objsP]
theorem buildG_no {g:Gr} {q:Dlt} (h:buildQ g q.2.2=none):buildG g q=([],[],[]):=by rw[buildG,h]
theorem buildG_yes {g:Gr} {q:Dlt} {l:List Ob} (h:buildQ g q.2.2=some l):buildG g q=(g.1,l,q.2.1):=by rw[buildG,h]
theorem build_any (A B C:Option Addr) (N c M d K e:Nat) (g:Gr) (R L:Option Addr) (rn rc ln lc:Nat) (q:Dlt) (w:World) (hmay:mayG g=true) (h:rGr (All w) w [.slice A N c,.slice B M d,.slice C K e] g) (hq:rDlt (All w) w [.int .u32 q.1,.slice R rn rc,.slice L ln lc] q) (hln:ln≤1000000):
  Calls Tryz.prog 32 #[.agg #[.slice A N c,.slice B M d,.slice C K e],.agg #[.int .u32 q.1,.slice R rn rc,.slice L ln lc]] w fun r w'=>∃ A1 c1 B1 d1 C1 e1,r=.returned (.tuple #[.agg #[.slice A1 (buildG g q).1.length c1,.slice B1 (buildG g q).2.1.length d1,.slice C1 (buildG g q).2.2.length e1],.bool (buildQ g q.2.2).isSome]) ∧
   rGr (All w') w' [.slice A1 (buildG g q).1.length c1,.slice B1 (buildG g q).2.1.length d1,.slice C1 (buildG g q).2.2.length e1] (buildG g q)∧Below w.heap.size w w':=by
 obtain⟨i0,hi,hz0,hz1,hz2⟩:=info_parts info_obs
 obtain⟨-,-,hRi,hLi⟩:=rDlt_open hq
 obtain⟨hN,-,-⟩:=slice_len (rGr_open h).1
 obtain⟨hrn,-,-⟩:=slice_len hRi
 obtain⟨hll,-,-⟩:=slice_len hLi
 have hB0:Below w.heap.size w (((w.alloc (.cells #[.slice A N c,.slice B M d,.slice C K e] 28)).alloc (.cells #[.int .u32 q.1,.slice R rn rc,.slice L ln lc] 32)).alloc (.cells #[.slice none 0 0,.slice none 0 0,.slice none 0 0] 28)):=(((zA _ w).alloc (zW _) _).alloc (by simp) _).alloc (by simp;omega) _
 obtain⟨p0,p1,p2⟩:=blk_three w 28 32 28 [.slice A N c,.slice B M d,.slice C K e] [.int .u32 q.1,.slice R rn rc,.slice L ln lc] [.slice none 0 0,.slice none 0 0,.slice none 0 0]
 have T1:=zZ (placesNow_any L ln lc q.2.2 _ (itms_below hB0 hLi) hln)
 have Hg:=zZ (gr_below hB0 h)
 have HLi:=zZ (itms_below hB0 hLi)
 have Hw:=zZ h
 have HRw:=zZ hRi
 have HB0:=zZ hB0
 have P0:=zZ p0
 have P1:=zZ p1
 have P2:=zZ p2
 have HN:=zZ hN
 have Hrn:=zZ hrn
 have Hll:=zZ hll
 have i2:=p1.cell (j:=2) rfl
 clear h hq hB0 hRi hLi p0 p1 p2 hN hrn hll
 generalize hu:q.1=u at *
 clear hu
 go_enter Tryz.func32,Tryz.ntmps32
 go_wp2_with fail
 generalize ((w.alloc (.cells #[.slice A N c,.slice B M d,.slice C K e] 28)).alloc (.cells #[.int .u32 u,.slice R rn rc,.slice L ln lc] 32)).alloc (.cells #[.slice none 0 0,.slice none 0 0,.slice none 0 0] 28)=w1 at *
 refine T1.out.mono ?_
 rintro e w2 ⟨v,rfl,hv,hB2⟩
 have H12:=zZ hB2
 have HV:=zZ hv
 have H2:=zZ (HB0.out.trans (hB2.mono HB0.out.size))
 clear hv hB2 T1 i2
 cases hon:onceD q.2.2 with
 | false=>
  have Hq:Hid (buildQ g q.2.2=none):=zZ (by rw[buildQ,if_neg (by rw[hon];decide)])
  have r2:=P2.out.to H12.out
  have y0:=r2.cell (j:=0) rfl
  have y1:=r2.cell (j:=1) rfl
  have y2:=r2.cell (j:=2) rfl
  have g0:=r2.frozen 0
  have g1:=r2.frozen 1
  have g2:=r2.frozen 2
  clear hon HV
  go_wp2
  have P9:=((r2.set 0 (.slice none 0 0)).set 1 (.slice none 0 0)).set 2 (.slice none 0 0)
  refine ret_cell1 (d:=.struct _) (cs:=[.slice none 0 0,.slice none 0 0,.slice none 0 0]) rfl P9 rfl rfl rfl rfl rfl ?_
  rw[buildG_no Hq.out,Hq.out]
  refine⟨none,0,none,0,none,0,rfl,rGr_none _,?_⟩
  exact ((H2.out.setCell (p:=⟨w.heap.size+2,0,none⟩) (by simp) (.slice none 0 0)).setCell (p:=⟨w.heap.size+2,1,none⟩) (by simp) (.slice none 0 0)).setCell (p:=⟨w.heap.size+2,2,none⟩) (by simp) (.slice none 0 0)
 | true=>
  obtain⟨Mb,rfl,hM,-⟩:=HV.out hon
  have Hbq:Hid (buildQ g q.2.2=objsP g q.2.2 0 q.2.2):=zZ (by rw[buildQ,if_pos hon])
  have HM:=zZ hM
  have r0:=P0.out.to H12.out
  have r1:=P1.out.to H12.out
  have c0:=r0.cell (j:=0) rfl
  have c1:=r1.cell (j:=1) rfl
  have c2:=r1.cell (j:=2) rfl
  have hl1:w.heap.size+2<w2.heap.size:=Nat.lt_of_lt_of_le P2.out.lt H12.out.size
  have b8:=Blk.new w2 28 [.slice A N c,.slice none 0 0,.slice R rn rc]
  have hB3:Below w2.heap.size w2 (w2.alloc (.cells #[.slice A N c,.slice none 0 0,.slice R rn rc] 28)):=(zA _ w2).alloc (zW _) _
  have s3:(w2.alloc (.cells #[.slice A N c,.slice none 0 0,.slice R rn rc] 28)).heap.size=w2.heap.size+1:=by simp
  have HX:=zZ (fun (W:World) (hW:Below w2.heap.size w2 W)=>And.intro (gr_below hW (gr_below H12.out Hg.out)) (And.intro (itms_below hW (itms_below H12.out HLi.out)) (And.intro (HM.out.below hW) (And.intro ((r0.to hW).cell (j:=0) rfl) (And.intro ((r0.to hW).cell (j:=1) rfl) ((r0.to hW).cell (j:=2) rfl))))))
  have c3:=(r1.to hB3).cell (j:=2) rfl
  have R2:=zZ (P2.out.to H12.out)
  have B8:=zZ b8
  have HB3:=zZ hB3
  clear hon HV hM r0 r1 b8 hB3 Hg HLi P0 P1 P2 HM
  go_wp2
  clear c0 c1 c2 c3
  generalize w2.alloc (.cells #[.slice A N c,.slice none 0 0,.slice R rn rc] 28)=w3 at *
  go_loopw [30] (fun iv w'=>∃ (i:Nat) (vO:Value) (xs:List Value) (objs:List Ob),i≤ln∧iv=.int .i64 (i:Int)∧Hid (RowIn w2.heap.size 1 28 53 3 [.slice A N c,.slice none 0 0,.slice R rn rc] w3 vO i xs w')∧Hid (Chunks 3 (rOb (fun k=>w3.heap.size≤k∧k<w'.heap.size∧some k≠vO.ownBlock) w') xs objs)∧Hid (objs.length=i)∧Hid (objsP g q.2.2 0 q.2.2=(objsP g q.2.2 i (q.2.2.drop i)).map (objs++·))) (fun iv _=>ln - (intOf iv).toNat)
  case atStart=>exact⟨0,.slice none 0 0,[],[],by omega,rfl,zZ (RowIn.start B8.out rfl),zZ Chunks.nil,zZ rfl,zZ (by rw[List.drop_zero];simp)⟩
  case round=>
   rename World=>wr
   obtain⟨i,vO,xs,objs,hi',rfl,hO,hch,hol,hpl⟩:=hrel
   have hsr:=hO.out.bel.size
   have HBr:=zZ (HB3.out.trans hO.out.bel)
   by_cases hin:i<ln
   ·obtain⟨x,hx⟩:∃ x,q.2.2[i]?=some x:=⟨_,zV (by have:=Hll.out;omega)⟩
    obtain⟨b,off,A2,c2,rfl,hb,x0,x1,x2,hcs,-,hxt⟩:=itm_at (HX.out _ HBr.out).2.1 hx
    have hil:(i:Int)<(ln:Int):=by omega
    have hi0:(0:Int)≤(i:Int):=by omega
    have hat:=objsP_at (g:=g) hx
    have hBi:Below wr.heap.size wr (wr.alloc (.cells #[.int .i64 x.1,.int .i64 x.2.1,.slice A2 x.2.2.length c2] 50)):=(zA _ wr).alloc (zW _) _
    have bi:=Blk.new wr 50 [.int .i64 x.1,.int .i64 x.2.1,.slice A2 x.2.2.length c2]
    have hBw:Below w2.heap.size w2 (wr.alloc (.cells #[.int .i64 x.1,.int .i64 x.2.1,.slice A2 x.2.2.length c2] 50)):=HBr.out.trans (hBi.mono HBr.out.size)
    have si:(wr.alloc (.cells #[.int .i64 x.1,.int .i64 x.2.1,.slice A2 x.2.2.length c2] 50)).heap.size=wr.heap.size+1:=by simp
    obtain⟨hg4,-,hM4,a0,a1,a2⟩:=HX.out _ hBw
    have T4:=zZ (valuesOf_any A B C N c M d K e g x A2 x.2.2.length c2 Mb (ln+1) q.2.2 _ hmay hg4 (cels_below hBi hcs) hM4 (by have:=Hll.out;omega))
    have n0:=bi.cell (j:=0) rfl
    have n1:=bi.cell (j:=1) rfl
    have n2:=bi.cell (j:=2) rfl
    have Bi:=zZ bi
    have HBi:=zZ hBi
    have Hat:=zZ hat
    have Hxt:=zZ (WalkArith.wf_i64 hxt)
    clear hx hat hcs hBi bi hBw hg4 hM4 hxt
    generalize x.1=xf at *
    generalize x.2.1=xt at *
    generalize x.2.2.length=xl at *
    go_wp2_with fail
    generalize wr.alloc (.cells #[.int .i64 xf,.int .i64 xt,.slice A2 xl c2] 50)=wi at *
    refine T4.out.mono ?_
    rintro e w4 ⟨v,rfl,hv,hB4⟩
    have HV:=zZ hv
    have H4:=zZ (HBi.out.trans (hB4.mono HBi.out.size))
    have H24:=zZ (HBr.out.trans (H4.out.mono HBr.out.size))
    have bi4:=Bi.out.to hB4
    clear hv hB4 T4 a0 a1 a2 n0 n1 n2
    cases hvq:valsQ g q.2.2 x with
    | none=>
     have Hq:Hid (buildQ g q.2.2=none):=zZ (by rw[Hbq.out,hpl.out,Hat.out,hvq];rfl)
     have r2:=R2.out.to H24.out
     have y0:=r2.cell (j:=0) rfl
     have y1:=r2.cell (j:=1) rfl
     have y2:=r2.cell (j:=2) rfl
     have g0:=r2.frozen 0
     have g1:=r2.frozen 1
     have g2:=r2.frozen 2
     clear hvq HV bi4
     go_wp2
     have P9:=((r2.set 0 (.slice none 0 0)).set 1 (.slice none 0 0)).set 2 (.slice none 0 0)
     refine ret_cell1 (d:=.struct _) (cs:=[.slice none 0 0,.slice none 0 0,.slice none 0 0]) rfl P9 rfl rfl rfl rfl rfl ?_
     rw[buildG_no Hq.out,Hq.out]
     refine⟨none,0,none,0,none,0,rfl,rGr_none _,?_⟩
     have hz:=H2.out.trans (H24.out.mono H2.out.size)
     exact ((hz.setCell (p:=⟨w.heap.size+2,0,none⟩) (by simp) (.slice none 0 0)).setCell (p:=⟨w.heap.size+2,1,none⟩) (by simp) (.slice none 0 0)).setCell (p:=⟨w.heap.size+2,2,none⟩) (by simp) (.slice none 0 0)
    | some vs=>
     obtain⟨A4,c4,ys,rfl,ho4,hc4⟩:=HV.out vs hvq
     have Hpl2:Hid (objsP g q.2.2 0 q.2.2=(objsP g q.2.2 (i+1) (q.2.2.drop (i+1))).map ((objs++[((i:Int),xt,vs)])++·)):=zZ (by
      rw[hpl.out,Hat.out,hvq,Option.bind_some,Option.map_map]
      congr 1
      funext t
      simp)
     have hval:rOb (fun k=>wr.heap.size≤k∧k<w4.heap.size) w4 [.int .i64 (i:Int),.int .i64 xt,.slice A4 vs.length c4] ((i:Int),xt,vs):=by
      have hv:=own_vals ho4 rfl hc4
      have hl:=ho4.lt
      exact rOb_mk (S:=fun k=>wr.heap.size≤k∧k<w4.heap.size) (w:=w4) (o:=((i:Int),xt,vs)) (A:=A4) (n:=vs.length) (c:=c4) (show (Lit.int .i64 (i:Int)).wf=true from WalkArith.wf_i64 ⟨by omega,by omega⟩) Hxt.out (rVals_stays.to (Keeps.mono fun b hb=>by have:=hl b hb;omega) hv)
     have hOt:=hO.out.more (by omega) H4.out
     obtain⟨Av,cv,rfl⟩:=own_slice3 hO.out.own
     have d1:=hOt.bx.cell (j:=1) rfl
     have n1:=bi4.cell (j:=1) rfl
     have s4:=H4.out.size
     have t1:i+1≤maxLen:=by simp only[maxLen];omega
     have t2:(i+1) * 40≤140737488355328:=by omega
     have t3:w3.heap.size≤(w4.alloc (.cells #[.int .i64 (i:Int),.int .i64 xt,.slice A4 vs.length c4] 53)).heap.size:=by simp only[World.size_alloc];omega
     have t4:=(Blk.new w4 53 [.int .i64 (i:Int),.int .i64 xt,.slice A4 vs.length c4]).rd
     have t5:=hOt.own.alloc (.cells #[.int .i64 (i:Int),.int .i64 xt,.slice A4 vs.length c4] 53)
     have Hval:=zZ hval
     have Hol:Hid ((objs++[((i:Int),xt,vs)]).length=i+1):=zZ (by rw[List.length_append,hol.out];rfl)
     clear hval hOt hvq HV ho4 hc4 hpl Hat bi4 hol
     generalize ((i:Int),xt,vs)=newO at *
     generalize vs.length=vl at *
     go_wp2_with (first
      | (at_builtin;refine wpList_apps rfl (.tmp 46) (.tmp 52) 25 rfl w3.heap.size 53 i0 (.agg #[.int .i64 0,.int .i64 0,.slice none 0 0]) 3 40 Tryz.underlying25 hi hz0 hz1 hz2 rfl (by omega) (.slice Av i cv) i xs rfl t5 (some ⟨w4.heap.size,0,none⟩) 1 1 [.int .i64 (i:Int),.int .i64 xt,.slice A4 vl c4] rfl rfl t4 (by simp[Value.oneCell']) t1 t2 t3 ?_;intro v5 w5 hown5 hg5 hv5;obtain⟨bx5,hR5⟩:=hO.out.step (by omega) H4.out hg5 hown5;have HC5:=zZ (hO.out.obs (by omega) hch.out H4.out Hval.out rfl hg5 hv5);obtain⟨A5,c5,rfl⟩:=own_slice3 hown5;have e5:=bx5.cell (j:=1) rfl;have f5:=bx5.frozen 1;have HR5:=zZ hR5;clear hR5 hown5 hg5 hv5 bx5)
      | fail)
     go_roundw
     case rel=>exact⟨i+1,_,_,_,by omega,by go_num,HR5,HC5,Hol,Hpl2⟩
     case measure=>simp[intOf];omega
   ·have hin':i=ln:=by omega
    have hd:q.2.2.drop i=[]:=List.drop_eq_nil_of_le (by have:=Hll.out;omega)
    have Hq:Hid (buildQ g q.2.2=some objs):=zZ (by rw[Hbq.out,hpl.out,hd,objsP];simp)
    rw[hin'] at hO hol
    obtain⟨Av,cv,rfl⟩:=own_slice3 hO.out.own
    have e0:=hO.out.bx.cell (j:=0) rfl
    have e1:=hO.out.bx.cell (j:=1) rfl
    have e2:=hO.out.bx.cell (j:=2) rfl
    have r2:=R2.out.to HBr.out
    have y0:=r2.cell (j:=0) rfl
    have y1:=r2.cell (j:=1) rfl
    have y2:=r2.cell (j:=2) rfl
    have g0:=r2.frozen 0
    have g1:=r2.frozen 1
    have g2:=r2.frozen 2
    have Hz:=zZ (H2.out.trans (HBr.out.mono H2.out.size))
    clear hin' hd hpl
    go_wp2
    have P9:=((r2.set 0 (.slice A N c)).set 1 (.slice Av ln cv)).set 2 (.slice R rn rc)
    refine ret_cell1 (d:=.struct _) (cs:=[.slice A N c,.slice Av ln cv,.slice R rn rc]) rfl P9 rfl rfl rfl rfl rfl ?_
    rw[buildG_yes Hq.out,Hq.out]
    simp only
    rw[HN.out,Hrn.out,hol.out]
    have hkp:∀ k,k≠w.heap.size+2→(((wr.setCell ⟨w.heap.size+2,0,none⟩ (.slice A N c)).setCell ⟨w.heap.size+2,1,none⟩ (.slice Av ln cv)).setCell ⟨w.heap.size+2,2,none⟩ (.slice R rn rc)).heap[k]?=wr.heap[k]?:=fun k hk=>by
     rw[Below.heap_setCell _ _ _ _ hk,Below.heap_setCell _ _ _ _ hk,Below.heap_setCell _ _ _ _ hk]
    have hBf:=((Hz.out.setCell (p:=⟨w.heap.size+2,0,none⟩) (by simp) (.slice A N c)).setCell (p:=⟨w.heap.size+2,1,none⟩) (by simp) (.slice Av ln cv)).setCell (p:=⟨w.heap.size+2,2,none⟩) (by simp) (.slice R rn rc)
    refine⟨A,c,Av,cv,R,rc,rfl,rGr_mk (rGr_open (gr_below hBf Hw.out)).1 ?_ (ids_below hBf HRw.out),hBf⟩
    refine own_rSlice rOb_stays (own_keep hO.out.own fun k h1 h2=>hkp k (by omega)) hol.out (hch.out.imp fun cs o hq=>rOb_stays.to (fun k hk=>⟨⟨by simp only[World.size_setCell];exact hk.2.1,hk.2.2⟩,hkp k (by omega)⟩) hq)
end Go.Proofs.YtnljjnkindjeoaaGreatDoor
