/- The contract of delta's Make: the document's delta. Condition: the table of kinds' texts is laid. -/
import Derived.Test.YtnljjnkindjeoaaGreatDoorDeMakeKit
import Derived.Test.YtnljjnkindjeoaaGreatDoorDeKind
import Derived.Test.YtnljjnkindjeoaaGreatDoorGCanon
import Derived.Test.YtnljjnkindjeoaaGreatDoorGCode
import Derived.Test.YtnljjnkindjeoaaGreatDoorAl
set_option maxRecDepth 100000
set_option maxHeartbeats 8000000
namespace Go.Proofs.YtnljjnkindjeoaaGreatDoor
open Go.RowKit Go.Maps
theorem dmake_any (A B C:Option Addr) (N c M d K e:Nat) (A1 B1 C1:Option Addr) (N1 c1 M1 d1 K1 e1:Nat) (g h:Gr) (w:World) (hKt:Kt w) (hg:rGr (All w) w [.slice A N c,.slice B M d,.slice C K e] g) (hh:rGr (All w) w [.slice A1 N1 c1,.slice B1 M1 d1,.slice C1 K1 e1] h):
  Calls Tryz.prog 7 #[.agg #[.slice A N c,.slice B M d,.slice C K e],.agg #[.slice A1 N1 c1,.slice B1 M1 d1,.slice C1 K1 e1]] w fun r w'=>∃ B9 d9 C9 e9,r=.returned (.tuple #[.agg #[.int .u32 (makeD g h).1,.slice B9 (makeD g h).2.1.length d9,.slice C9 (makeD g h).2.2.length e9],.int .i64 (makeE g h)]) ∧
   rDlt (All w') w' [.int .u32 (makeD g h).1,.slice B9 (makeD g h).2.1.length d9,.slice C9 (makeD g h).2.2.length e9] (makeD g h)∧Below w.heap.size w w':=by
 obtain⟨i0,hi,hz0,hz1,hz2⟩:=info_parts info_itm
 have hB0:Below w.heap.size w (((w.alloc (.cells #[.slice A N c,.slice B M d,.slice C K e] 28)).alloc (.cells #[.slice A1 N1 c1,.slice B1 M1 d1,.slice C1 K1 e1] 28)).alloc (.cells #[.int .u32 0,.slice none 0 0,.slice none 0 0] 32)):=(((zA _ w).alloc (zW _) _).alloc (by simp) _).alloc (by simp;omega) _
 obtain⟨p0,p1,p2⟩:=blk_three w 28 28 32 [.slice A N c,.slice B M d,.slice C K e] [.slice A1 N1 c1,.slice B1 M1 d1,.slice C1 K1 e1] [.int .u32 0,.slice none 0 0,.slice none 0 0]
 have Hg:=zZ (gr_below hB0 hg)
 have Hh:=zZ (gr_below hB0 hh)
 have HK:=zZ (hKt.below hB0)
 have Hok:=zZ (gr_ok hg)
 have HB0:=zZ hB0
 have P0:=zZ p0
 have P1:=zZ p1
 have P2:=zZ p2
 have c0:=p0.cell (j:=0) rfl
 have c1':=p0.cell (j:=1) rfl
 have c2':=p0.cell (j:=2) rfl
 clear hg hh hKt hB0 p0 p1 p2
 go_enter Tryz.func7,Tryz.ntmps7
 go_wp2_with fail
 generalize ((w.alloc (.cells #[.slice A N c,.slice B M d,.slice C K e] 28)).alloc (.cells #[.slice A1 N1 c1,.slice B1 M1 d1,.slice C1 K1 e1] 28)).alloc (.cells #[.int .u32 0,.slice none 0 0,.slice none 0 0] 32)=w1 at *
 refine (gmay_any A B C N c M d K e g _ Hg.out).mono ?_
 rintro e w2 ⟨rfl,hB2⟩
 have H2:=zZ hB2
 clear hB2 c0 c1' c2'
 cases hm1:mayG g with
 | false=>
  have r2:=P2.out.to H2.out
  have y0:=r2.cell (j:=0) rfl
  have y1:=r2.cell (j:=1) rfl
  have y2:=r2.cell (j:=2) rfl
  have g0:=r2.frozen 0
  have g1:=r2.frozen 1
  have g2:=r2.frozen 2
  have HE:=zZ (makeE_may (a:=g) (b:=h) (by rw[hm1];rfl))
  have HD:Hid (makeD g h=(0,[],[])):=zZ (makeD_no (by rw[HE.out];decide))
  clear hm1
  go_wp2
  have P9:=((r2.set 0 (.int .u32 0)).set 1 (.slice none 0 0)).set 2 (.slice none 0 0)
  refine ret_cell1 (d:=.struct _) (cs:=[.int .u32 0,.slice none 0 0,.slice none 0 0]) rfl P9 rfl rfl rfl rfl rfl ?_
  rw[HD.out,HE.out]
  refine⟨none,0,none,0,rfl,dlt_none _,?_⟩
  have hz:=HB0.out.trans (H2.out.mono HB0.out.size)
  exact ((hz.setCell (p:=⟨w.heap.size+2,0,none⟩) (by simp) (.int .u32 0)).setCell (p:=⟨w.heap.size+2,1,none⟩) (by simp) (.slice none 0 0)).setCell (p:=⟨w.heap.size+2,2,none⟩) (by simp) (.slice none 0 0)
 | true=>
 have b0:=(P1.out.to H2.out).cell (j:=0) rfl
 have b1:=(P1.out.to H2.out).cell (j:=1) rfl
 have b2:=(P1.out.to H2.out).cell (j:=2) rfl
 go_wp2_with fail
 refine (gmay_any A1 B1 C1 N1 c1 M1 d1 K1 e1 h _ (gr_below H2.out Hh.out)).mono ?_
 rintro e w3 ⟨rfl,hB3⟩
 have H3:=zZ (H2.out.trans (hB3.mono H2.out.size))
 clear hB3 H2 b0 b1 b2
 cases hm2:mayG h with
 | false=>
  have r2:=P2.out.to H3.out
  have y0:=r2.cell (j:=0) rfl
  have y1:=r2.cell (j:=1) rfl
  have y2:=r2.cell (j:=2) rfl
  have g0:=r2.frozen 0
  have g1:=r2.frozen 1
  have g2:=r2.frozen 2
  have HE:=zZ (makeE_may (a:=g) (b:=h) (by rw[hm1,hm2];rfl))
  have HD:Hid (makeD g h=(0,[],[])):=zZ (makeD_no (by rw[HE.out];decide))
  clear hm1 hm2
  go_wp2
  have P9:=((r2.set 0 (.int .u32 0)).set 1 (.slice none 0 0)).set 2 (.slice none 0 0)
  refine ret_cell1 (d:=.struct _) (cs:=[.int .u32 0,.slice none 0 0,.slice none 0 0]) rfl P9 rfl rfl rfl rfl rfl ?_
  rw[HD.out,HE.out]
  refine⟨none,0,none,0,rfl,dlt_none _,?_⟩
  have hz:=HB0.out.trans (H3.out.mono HB0.out.size)
  exact ((hz.setCell (p:=⟨w.heap.size+2,0,none⟩) (by simp) (.int .u32 0)).setCell (p:=⟨w.heap.size+2,1,none⟩) (by simp) (.slice none 0 0)).setCell (p:=⟨w.heap.size+2,2,none⟩) (by simp) (.slice none 0 0)
 | true=>
 have a0:=(P0.out.to H3.out).cell (j:=0) rfl
 have a1:=(P0.out.to H3.out).cell (j:=1) rfl
 have a2:=(P0.out.to H3.out).cell (j:=2) rfl
 have b0:=(P1.out.to H3.out).cell (j:=0) rfl
 have b1:=(P1.out.to H3.out).cell (j:=1) rfl
 have b2:=(P1.out.to H3.out).cell (j:=2) rfl
 have TS:=zZ (sameTypes_any A B C N c M d K e A1 B1 C1 N1 c1 M1 d1 K1 e1 g h _ (gr_below H3.out Hg.out) (gr_below H3.out Hh.out))
 rw[kindQ_eq hm1 hm2] at TS
 go_wp2_with fail
 refine TS.out.mono ?_
 rintro e w4 ⟨rfl,hB4⟩
 have H4:=zZ (H3.out.trans (hB4.mono H3.out.size))
 clear hB4 H3 TS a0 a1 a2 b0 b1 b2
 have hmm:(mayG g && mayG h)=true:=by rw[hm1,hm2];rfl
 cases hk:kindG g h with
 | false=>
  have r2:=P2.out.to H4.out
  have y0:=r2.cell (j:=0) rfl
  have y1:=r2.cell (j:=1) rfl
  have y2:=r2.cell (j:=2) rfl
  have g0:=r2.frozen 0
  have g1:=r2.frozen 1
  have g2:=r2.frozen 2
  have HE:=zZ (makeE_kind hmm hk)
  have HD:Hid (makeD g h=(0,[],[])):=zZ (makeD_no (by rw[HE.out];decide))
  clear hm1 hm2 hmm hk
  go_wp2
  have P9:=((r2.set 0 (.int .u32 0)).set 1 (.slice none 0 0)).set 2 (.slice none 0 0)
  refine ret_cell1 (d:=.struct _) (cs:=[.int .u32 0,.slice none 0 0,.slice none 0 0]) rfl P9 rfl rfl rfl rfl rfl ?_
  rw[HD.out,HE.out]
  refine⟨none,0,none,0,rfl,dlt_none _,?_⟩
  have hz:=HB0.out.trans (H4.out.mono HB0.out.size)
  exact ((hz.setCell (p:=⟨w.heap.size+2,0,none⟩) (by simp) (.int .u32 0)).setCell (p:=⟨w.heap.size+2,1,none⟩) (by simp) (.slice none 0 0)).setCell (p:=⟨w.heap.size+2,2,none⟩) (by simp) (.slice none 0 0)
 | true=>
 have a0:=(P0.out.to H4.out).cell (j:=0) rfl
 have a1:=(P0.out.to H4.out).cell (j:=1) rfl
 have a2:=(P0.out.to H4.out).cell (j:=2) rfl
 have HEc:=zZ (makeE_code hmm hk)
 go_wp2_with fail
 refine (csum_any A B C N c M d K e g _ (HK.out.below H4.out) (gr_below H4.out Hg.out)).mono ?_
 rintro e w5 ⟨rfl,hB5⟩
 have H5:=zZ (H4.out.trans (hB5.mono H4.out.size))
 clear hB5 H4 a0 a1 a2
 by_cases he:codeE g=0
 rotate_left
 ·have he':(codeE g != 0)=true:=by simp[he]
  have Her:=zZ he
  have r2:=P2.out.to H5.out
  have y0:=r2.cell (j:=0) rfl
  have y1:=r2.cell (j:=1) rfl
  have y2:=r2.cell (j:=2) rfl
  have g0:=r2.frozen 0
  have g1:=r2.frozen 1
  have g2:=r2.frozen 2
  have HE:=zZ (makeE_code hmm hk)
  have HD:Hid (makeD g h=(0,[],[])):=zZ (makeD_no (by rw[HE.out];exact Her.out))
  clear he hm1 hm2 hmm hk Her HEc
  generalize codeE g=er at *
  generalize (codeS g:Int)=sm at *
  go_wp2
  have P9:=((r2.set 0 (.int .u32 0)).set 1 (.slice none 0 0)).set 2 (.slice none 0 0)
  refine ret_cell1 (d:=.struct _) (cs:=[.int .u32 0,.slice none 0 0,.slice none 0 0]) rfl P9 rfl rfl rfl rfl rfl ?_
  rw[HD.out,HE.out]
  refine⟨none,0,none,0,rfl,dlt_none _,?_⟩
  have hz:=HB0.out.trans (H5.out.mono HB0.out.size)
  exact ((hz.setCell (p:=⟨w.heap.size+2,0,none⟩) (by simp) (.int .u32 0)).setCell (p:=⟨w.heap.size+2,1,none⟩) (by simp) (.slice none 0 0)).setCell (p:=⟨w.heap.size+2,2,none⟩) (by simp) (.slice none 0 0)
 have he':(codeE g != 0)=false:=by simp[he]
 have HE:Hid (makeE g h=0):=zZ (by rw[HEc.out,he])
 have HD:=zZ (makeD_yes HE.out)
 have Hsw:=zZ (codeS_wf (g:=g) Hok.out)
 have Hm1:=zZ hm1
 have Hm2:=zZ hm2
 have Hk:=zZ hk
 have b0:=(P1.out.to H5.out).cell (j:=0) rfl
 have b1:=(P1.out.to H5.out).cell (j:=1) rfl
 have b2:=(P1.out.to H5.out).cell (j:=2) rfl
 clear he hm1 hm2 hmm hk HEc Hok HK
 generalize codeE g=er at *
 generalize (codeS g:Int)=sm at *
 go_wp2_with fail
 refine (canon_any A1 B1 C1 N1 c1 M1 d1 K1 e1 h _ (gr_below H5.out Hh.out)).mono ?_
 rintro e w8 ⟨A5,c5,B5,d5,C5,e5,rfl,hr8,hB8⟩
 have H8:=zZ (H5.out.trans (hB8.mono H5.out.size))
 have Hr8:=zZ hr8
 clear hB8 H5 b0 b1 b2 hr8
 have HlM:Hid ((canonG h).2.1.length=(ordG h).length):=zZ (canon_len Hm2.out)
 generalize hN5:(canonG h).1.length=N5 at *
 generalize hM5:(canonG h).2.1.length=M5 at *
 generalize hK5:(canonG h).2.2.length=K5 at *
 have HK5:=zZ hK5
 clear hN5 hM5 hK5
 have hBa:Below w8.heap.size w8 ((w8.alloc (.cells #[.slice A5 N5 c5,.slice B5 M5 d5,.slice C5 K5 e5] 28)).alloc (.cells #[.int .u32 sm,.slice C5 K5 e5,.slice none 0 0] 32)):=((zA _ w8).alloc (zW _) _).alloc (by simp) _
 obtain⟨p8,p9⟩:=blk_two w8 28 32 [.slice A5 N5 c5,.slice B5 M5 d5,.slice C5 K5 e5] [.int .u32 sm,.slice C5 K5 e5,.slice none 0 0]
 have sa:((w8.alloc (.cells #[.slice A5 N5 c5,.slice B5 M5 d5,.slice C5 K5 e5] 28)).alloc (.cells #[.int .u32 sm,.slice C5 K5 e5,.slice none 0 0] 32)).heap.size=w8.heap.size+1+1:=by simp
 have k2:=(Blk.new w8 28 [.slice A5 N5 c5,.slice B5 M5 d5,.slice C5 K5 e5]).cell (j:=2) rfl
 have H1a:=zZ (H8.out.trans (hBa.mono H8.out.size))
 have a0:=(P0.out.to H1a.out).cell (j:=0) rfl
 have a1:=(P0.out.to H1a.out).cell (j:=1) rfl
 have a2:=(P0.out.to H1a.out).cell (j:=2) rfl
 have P8:=zZ p8
 have P9:=zZ p9
 have HBa:=zZ hBa
 clear p8 p9 hBa
 go_wp2_with fail
 generalize (w8.alloc (.cells #[.slice A5 N5 c5,.slice B5 M5 d5,.slice C5 K5 e5] 28)).alloc (.cells #[.int .u32 sm,.slice C5 K5 e5,.slice none 0 0] 32)=wa at *
 refine (order_any A B C N c M d K e g _ (gr_below H1a.out Hg.out)).mono ?_
 rintro e w10 ⟨A10,c10,rfl,hr10,hB10⟩
 have Ha10:=zZ hB10
 have T11:=zZ (placesOf_any A10 (ordG g).length c10 (ordG g) w10 (rIds_stays.to (Keeps.mono fun k hk=>hk.2) hr10) (ordG_nodup Hm1.out) (ordG_few Hm1.out))
 clear hB10 hr10 k2 a0 a1 a2
 go_wp2_with fail
 refine T11.out.mono ?_
 rintro e wp ⟨Mb,rfl,hM,hMb,hBp⟩
 have Hap:=zZ (Ha10.out.trans (hBp.mono Ha10.out.size))
 have HMp:=zZ hM
 have s10:=Ha10.out.size
 have b0:=(P1.out.to (H1a.out.trans (Hap.out.mono H1a.out.size))).cell (j:=0) rfl
 have b1:=(P1.out.to (H1a.out.trans (Hap.out.mono H1a.out.size))).cell (j:=1) rfl
 have b2:=(P1.out.to (H1a.out.trans (Hap.out.mono H1a.out.size))).cell (j:=2) rfl
 clear T11 hM hBp
 go_wp2_with fail
 refine (order_any A1 B1 C1 N1 c1 M1 d1 K1 e1 h _ (gr_below (H1a.out.trans (Hap.out.mono H1a.out.size)) Hh.out)).mono ?_
 rintro e w11 ⟨A12,c12,rfl,hr12,hB11⟩
 have Ha11:=zZ (Hap.out.trans (hB11.mono Hap.out.size))
 have HM11:=zZ (HMp.out.below hB11)
 have Hr12:=zZ hr12
 have sp:=Hap.out.size
 have s11:=hB11.size
 have B9:=zZ (P9.out.to Ha11.out)
 have Hw8:=zZ (fun k (hk:k<w8.heap.size)=>HBa.out.block k hk)
 have s8:w.heap.size+2<w8.heap.size:=Nat.lt_of_lt_of_le P2.out.lt H8.out.size
 have Hn1:Hid ((ordG g).length≤8):=zZ (ordG_few Hm1.out)
 have hn8:(ordG h).length≤8:=ordG_few Hm2.out
 clear hB11 hr12 b0 b1 b2 HMp P9 Hap Ha10
 generalize hn:(ordG h).length=n at *
 have Hn:=zZ hn
 clear hn
 go_wp2
 go_loopw [48] (fun iv w'=>∃ (i:Nat) (v:Value) (xs:List Value),i≤n∧iv=.int .i64 (i:Int)∧Hid (RowIn (w8.heap.size+1) 2 32 50 3 [.int .u32 sm,.slice C5 K5 e5,.slice none 0 0] w11 v i xs w')∧Hid (Chunks 3 (rItm (fun k=>w11.heap.size≤k∧k<w'.heap.size∧some k≠v.ownBlock) w') xs (((ordG h).mapIdx (itemD g h)).take i))) (fun iv _=>n - (intOf iv).toNat)
 case atStart=>exact⟨0,.slice none 0 0,[],by omega,rfl,zZ (RowIn.start B9.out rfl),zZ Chunks.nil⟩
 case round=>
  rename World=>wr
  obtain⟨i,v,xs,hi',rfl,hI,hch⟩:=hrel
  have sr:=hI.out.bel.size
  have hbl:w8.heap.size+1<w11.heap.size:=by omega
  have HWr:=zZ (Ha11.out.mono (show w8.heap.size+1≤wa.heap.size by omega) |>.trans hI.out.bel)
  by_cases hin:i<n
  ·obtain⟨x,hx⟩:∃ x,(ordG h)[i]?=some x:=⟨_,zV (by have:=Hn.out;omega)⟩
   have hgr:rGr (All wr) wr [.slice A N c,.slice B M d,.slice C K e] g:=rGr_stays.to (S':=All wr) (fun k hk=>⟨by have:k<w1.heap.size:=hk;have:=H8.out.size;show k<_;omega,by have h1:k<w1.heap.size:=hk;have h2:=H8.out.size;rw[HWr.out.block k (by omega),Hw8.out k (by omega),H8.out.block k h1]⟩) Hg.out
   have hhr:rGr (All wr) wr [.slice A1 N1 c1,.slice B1 M1 d1,.slice C1 K1 e1] h:=rGr_stays.to (S':=All wr) (fun k hk=>⟨by have:k<w1.heap.size:=hk;have:=H8.out.size;show k<_;omega,by have h1:k<w1.heap.size:=hk;have h2:=H8.out.size;rw[HWr.out.block k (by omega),Hw8.out k (by omega),H8.out.block k h1]⟩) Hh.out
   have hcr:rGr (fun k=>k<w8.heap.size) wr [.slice A5 N5 c5,.slice B5 M5 d5,.slice C5 K5 e5] (canonG h):=rGr_stays.to (S':=fun k=>k<w8.heap.size) (fun k hk=>⟨hk,by have h1:k<w8.heap.size:=hk;rw[HWr.out.block k (by omega),Hw8.out k h1]⟩) Hr8.out
   have hor:rIds (All wr) wr [.slice A12 n c12] (ordG h):=rIds_stays.to (S':=All wr) (fun k hk=>⟨by show k<_;omega,hI.out.kept k hk.2 (by have:=hk.1;omega)⟩) Hr12.out
   have hMr:=HM11.out.kept hI.out.grown (by simp;omega)
   obtain⟨b,off,rfl,hb,hx1,hxb⟩:=id_at hor hx
   have hcan:=canon_at Hm2.out hx
   obtain⟨bo,offo,Ao,co,rfl,hbo,x0,x1,x2,hvo,ob1,ob2⟩:=ob_at (rGr_open hcr).2.1 hcan
   have hit:=setD_item (a:=g) Hm2.out hx
   have hpl:=item_place Hm1.out Hm2.out Hk.out hx
   have hTm:(objG h.2.1 x).2.1=(canO h (ordG h) i x).2.1:=rfl
   have hc1:(canO h (ordG h) i x).1=(i:Int):=rfl
   have hmx:((ordG h).mapIdx (itemD g h))[i]?=some (itemD g h i x):=by rw[List.getElem?_mapIdx,hx];rfl
   have htk:=take_at hmx
   have hat:=atL_wf (L:=ordG g) Hn1.out x
   have hvl:=(slice_len hvo).1
   have hv5:(canO h (ordG h) i x).2.2.length≤1000:=by
    have hmo:=mayG_obj (canon_may Hm2.out) (List.mem_of_getElem? hcan)
    have h5:=fields_few (canon_may Hm2.out) (canO h (ordG h) i x).2.1
    rw[hmo.len] at h5
    omega
   rw[hc1] at x0
   rw[hTm] at hit
   have hil:(i:Int)<(n:Int):=by omega
   have hi0:(0:Int)≤(i:Int):=by omega
   have hilM:(i:Int)<(M5:Int):=by have:=HlM.out;omega
   generalize canO h (ordG h) i x=ob at *
   generalize hfr:atL (ordG g) x=fr at *
   have TP:=zZ (placeIn_any Mb (ordG g).length (atF (ordG g)) x (-1))
   rw[atF_getD,hfr] at TP
   have TI:=zZ (fun W (hW:Below wr.heap.size wr W)=>itemOf_any A B C N c M d K e A1 B1 C1 N1 c1 M1 d1 K1 e1 g h x fr (i:Int) ob.2.1 Ao ob.2.2.length co ob.2.2 W (gr_below hW hgr) (gr_below hW hhr) (vals_below hW (rVals_stays.to (S':=All wr) (Keeps.mono fun k hk=>by have:k<w8.heap.size:=hk;show k<_;omega) hvo)) hv5 hpl)
   have HMr:=zZ (fun W (hW:Below wr.heap.size wr W)=>hMr.below hW)
   obtain⟨Av,cv,rfl⟩:=own_slice3 hI.out.own
   have pa:Blk wr w.heap.size 28 [.slice A N c,.slice B M d,.slice C K e]:=((HWr.out.block _ (by omega)).trans (Hw8.out _ (by omega))).trans (P0.out.to H8.out)
   have pb:Blk wr (w.heap.size+1) 28 [.slice A1 N1 c1,.slice B1 M1 d1,.slice C1 K1 e1]:=((HWr.out.block _ (by omega)).trans (Hw8.out _ (by omega))).trans (P1.out.to H8.out)
   have pc:Blk wr w8.heap.size 28 [.slice A5 N5 c5,.slice (some ⟨bo,offo,none⟩) M5 d5,.slice C5 K5 e5]:=(HWr.out.block _ (by omega)).trans P8.out
   have hbo':bo<w8.heap.size:=hbo
   have HS:=zZ (fun (W:World) (hW:∀ k,k<w11.heap.size→W.heap[k]?=wr.heap[k]?)=>And.intro ((World.cell?_of_block (a:=⟨w8.heap.size+1,2,none⟩) (hW _ (by show w8.heap.size+1<_;omega))).trans (hI.out.bx.cell (j:=2) rfl))
    (And.intro ((World.cell?_of_block (a:=⟨w.heap.size,0,none⟩) (hW _ (by show w.heap.size<_;omega))).trans (pa.cell (j:=0) rfl)) (And.intro ((World.cell?_of_block (a:=⟨w.heap.size,1,none⟩) (hW _ (by show w.heap.size<_;omega))).trans (pa.cell (j:=1) rfl)) (And.intro ((World.cell?_of_block (a:=⟨w.heap.size,2,none⟩) (hW _ (by show w.heap.size<_;omega))).trans (pa.cell (j:=2) rfl))
    (And.intro ((World.cell?_of_block (a:=⟨w.heap.size+1,0,none⟩) (hW _ (by show w.heap.size+1<_;omega))).trans (pb.cell (j:=0) rfl)) (And.intro ((World.cell?_of_block (a:=⟨w.heap.size+1,1,none⟩) (hW _ (by show w.heap.size+1<_;omega))).trans (pb.cell (j:=1) rfl)) (And.intro ((World.cell?_of_block (a:=⟨w.heap.size+1,2,none⟩) (hW _ (by show w.heap.size+1<_;omega))).trans (pb.cell (j:=2) rfl))
    (And.intro ((World.cell?_of_block (a:=⟨w8.heap.size,1,none⟩) (hW _ (by show w8.heap.size<_;omega))).trans (pc.cell (j:=1) rfl)) (And.intro ((World.cell?_of_block (a:=⟨bo,offo+i * 3,none⟩) (hW _ (by show bo<_;omega))).trans x0) (And.intro ((World.cell?_of_block (a:=⟨bo,offo+i * 3+1,none⟩) (hW _ (by show bo<_;omega))).trans x1) ((World.cell?_of_block (a:=⟨bo,offo+i * 3+2,none⟩) (hW _ (by show bo<_;omega))).trans x2)))))))))))
   have Hwt:Hid ((Lit.int .i64 ob.2.1).wf=true):=zZ (WalkArith.wf_i64 ob2)
   have Hwf:Hid ((Lit.int .i64 fr).wf=true):=zZ (WalkArith.wf_i64 ⟨by omega,by omega⟩)
   have Hwx:=zZ (WalkArith.wf_i64 hxb)
   generalize hst:setD fr (objG g.2.1 x).2.2 (objG h.2.1 x).2.2 ob.2.2=st at *
   rw[← hit] at htk
   have Htk:=zZ htk
   have hx1':=hx1
   clear hx hgr hhr hcr hor hMr hcan x0 x1 x2 hvo ob1 ob2 hit hpl hTm hc1 hmx hat hvl hv5 hxb pa pb pc hst htk hx1
   generalize ob.2.1=ot at *
   generalize ob.2.2.length=ol at *
   generalize hsl:st.length=sl at *
   have Hsl:=zZ hsl
   clear hsl
   have HsX:Hid (∀ k,k<w11.heap.size→wr.drew.heap[k]?=wr.heap[k]?):=zZ fun k hk=>((zA wr.heap.size wr).drew).block k (by omega)
   go_wp2
   refine scl_start 17 [(0,true),(1,true),(2,true),(3,true),(4,true),(5,true),(6,true),(8,true),(9,true),(10,true),(11,true),(12,true),(7,false),(13,false),(14,false),(15,false),(16,true),(17,false)]
    (fun W=>W.cell? ⟨w8.heap.size+1,2,none⟩=some (.slice Av i cv)∧W.cell? ⟨w.heap.size,0,none⟩=some (.slice A N c)∧W.cell? ⟨w.heap.size,1,none⟩=some (.slice B M d)∧W.cell? ⟨w.heap.size,2,none⟩=some (.slice C K e)∧W.cell? ⟨w.heap.size+1,0,none⟩=some (.slice A1 N1 c1)∧W.cell? ⟨w.heap.size+1,1,none⟩=some (.slice B1 M1 d1)∧W.cell? ⟨w.heap.size+1,2,none⟩=some (.slice C1 K1 e1)∧W.cell? ⟨w8.heap.size,1,none⟩=some (.slice (some ⟨bo,offo,none⟩) M5 d5)∧W.cell? ⟨bo,offo+i * 3,none⟩=some (.int .i64 (i:Int))∧W.cell? ⟨bo,offo+i * 3+1,none⟩=some (.int .i64 ot)∧W.cell? ⟨bo,offo+i * 3+2,none⟩=some (.slice Ao ol co)) (by kernel_rfl) rfl (by kernel_rfl) (fun _ _ _ _ _ h=>h) (HS.out _ HsX.out) (fun hH=>?_)
   repeat (first | (refine scl_yes (v:=?_) rfl rfl ?_ hH ?_;rotate_left;(focus ((rintro W ⟨hW1,hW2,hW3,hW4,hW5,hW6,hW7,hW8,hW9,hW10,hW11⟩;go_simp) <;> with_reducible rfl));simp only[Act.put,zY,zX,zQ]) | (refine scl_no rfl rfl hH ?_;simp only[Act.put,zY,zX,zQ]))
   refine scl_call rfl rfl (fun K' hK=>?_)
   have hD0:Below wr.heap.size wr wr.drew:=(zA wr.heap.size wr).drew
   go_wp2_with (go_at_call 24;refine (TP.out _ (HMr.out _ hD0) Hwx.out).mono ?_;rintro e wz ⟨rfl,rfl⟩)
   refine hK.out _ _ (fun _=>HS.out _ HsX.out) ?_
   clear hK
   refine scl_call rfl rfl (fun K' hK=>?_)
   go_wp2_with (go_at_call 23;refine (TI.out _ hD0).mono ?_;rintro e wq ⟨A9,c9,rfl,hset,hBq⟩)
   have hQ:Below wr.heap.size wr wq:=hD0.trans (hBq.mono (zW _))
   refine hK.out _ _ (fun _=>HS.out _ (fun k hk=>hQ.block k (by omega))) ?_
   clear hK hH
   refine scl_call rfl rfl (fun K' hK=>?_)
   go_wp2
   have hQ2:=hQ.alloc hQ.size (.cells #[.int .i64 fr,.int .i64 ot,.slice A9 sl c9] 50)
   refine hK.out _ _ (fun _=>HS.out _ (fun k hk=>hQ2.block k (by omega))) ?_
   clear hK
   have hH:=HS.out _ (fun k hk=>hQ2.block k (by omega))
   have hval:rItm (fun k=>wr.heap.size≤k∧k<wq.heap.size) wq [.int .i64 fr,.int .i64 ot,.slice A9 sl c9] (fr,ot,st):=rItm_mk (x:=(fr,ot,st)) Hwf.out Hwt.out hset
   have rdq:=(Blk.new wq 50 [.int .i64 fr,.int .i64 ot,.slice A9 sl c9]).rd
   have sq:=hQ.size
   have sq2:=hQ2.size
   refine scl_call rfl rfl (fun K' hK=>?_)
   refine wp_apps (.tmp 54) (.tmp 67) 30 rfl w11.heap.size 50 i0 (.agg #[.int .i64 0,.int .i64 0,.slice none 0 0]) 3 40 Tryz.underlying30 hi hz0 hz1 hz2 rfl (by omega) (.slice Av i cv) i xs rfl ((own_below hI.out.own hQ).alloc _) (some ⟨wq.heap.size,0,none⟩) 1 1 [.int .i64 fr,.int .i64 ot,.slice A9 sl c9] rfl rfl rdq (by simp[Value.oneCell']) (by simp only[maxLen];omega) (by omega) (by omega) ?_
   intro v4 w4 hown4 hg4 hv4
   obtain⟨bx4,hR4⟩:=hI.out.step hbl hQ hg4 hown4
   have HC4:=zZ (hI.out.els rItm_stays hbl hch.out hQ hval rfl hg4 hv4)
   have hS4:=HS.out w4 (fun k hk=>by
    rw[hg4.block k (by simp only[World.size_alloc];omega) (fun e=>by have:=(hI.out.own.lt k e.symm).1;omega),Below.heap_alloc _ _ _ (by omega),hQ.block k (by omega)])
   obtain⟨A4,c4,rfl⟩:=own_slice3 hown4
   have e4:=bx4.cell (j:=2) rfl
   have f4:=bx4.frozen 2
   have HR4:=zZ hR4
   clear hR4 hown4 hg4 hv4 bx4 hval rdq hset
   refine hK.out _ _ (fun _=>hS4) ?_
   clear hK hH
   have hH:=hS4
   repeat (first | (refine scl_yes (v:=?_) rfl rfl ?_ hH ?_;rotate_left;(focus ((rintro W ⟨hW1,hW2,hW3,hW4,hW5,hW6,hW7,hW8,hW9,hW10,hW11⟩;go_simp) <;> with_reducible rfl));simp only[Act.put,zY,zX,zQ]) | (refine scl_no rfl rfl hH ?_;simp only[Act.put,zY,zX,zQ]))
   refine scl_call rfl rfl (fun K' hK=>?_)
   go_wp2
   refine hK.out _ _ (fun h=>absurd rfl h) ?_
   clear hK hH
   refine scl_done ?_
   go_wp2
   go_roundw
   case rel=>exact⟨i+1,_,_,by omega,by go_num,HR4,zZ (by rw[Htk.out];exact HC4.out)⟩
   case measure=>simp[intOf];omega
  ·have hin':i=n:=by omega
   have htk:((ordG h).mapIdx (itemD g h)).take i=(ordG h).mapIdx (itemD g h):=List.take_of_length_le (by rw[List.length_mapIdx,Hn.out];omega)
   rw[htk] at hch
   rw[hin'] at hI
   obtain⟨Av,cv,rfl⟩:=own_slice3 hI.out.own
   have HlI:Hid (((ordG h).mapIdx (itemD g h)).length=n):=zZ (by rw[List.length_mapIdx,Hn.out])
   have eb0:=hI.out.bx.cell (j:=0) rfl
   have eb1:=hI.out.bx.cell (j:=1) rfl
   have eb2:=hI.out.bx.cell (j:=2) rfl
   have p28:=P2.out.to H8.out
   have r2:Blk wr (w.heap.size+2) 32 [.int .u32 0,.slice none 0 0,.slice none 0 0]:=((HWr.out.block _ (by omega)).trans (Hw8.out _ (by omega))).trans p28
   have Hids:=zZ (ids_avoid p28 (rGr_open Hr8.out).2.2)
   have y0:=r2.cell (j:=0) rfl
   have y1:=r2.cell (j:=1) rfl
   have y2:=r2.cell (j:=2) rfl
   have g0:=r2.frozen 0
   have g1:=r2.frozen 1
   have g2:=r2.frozen 2
   have HZ:=zZ (HB0.out.trans (H8.out.mono HB0.out.size) |>.trans ((show Below w.heap.size w8 wr from ⟨by rw[HWr.out.os,HBa.out.os],by rw[HWr.out.tape,HBa.out.tape],by rw[HWr.out.output,HBa.out.output],by omega,fun k hk=>by rw[HWr.out.block k (by omega),Hw8.out k (by omega)]⟩)))
   clear hin' htk p28
   go_wp2
   have P99:=((r2.set 0 (.int .u32 sm)).set 1 (.slice C5 K5 e5)).set 2 (.slice Av n cv)
   refine ret_cell1 (d:=.struct _) (cs:=[.int .u32 sm,.slice C5 K5 e5,.slice Av n cv]) rfl P99 rfl rfl rfl rfl rfl ?_
   rw[HD.out,HE.out]
   simp only
   rw[HK5.out,HlI.out]
   have hkp:∀ k,k≠w.heap.size+2→(((wr.setCell ⟨w.heap.size+2,0,none⟩ (.int .u32 sm)).setCell ⟨w.heap.size+2,1,none⟩ (.slice C5 K5 e5)).setCell ⟨w.heap.size+2,2,none⟩ (.slice Av n cv)).heap[k]?=wr.heap[k]?:=fun k hk=>by
    rw[Below.heap_setCell _ _ _ _ hk,Below.heap_setCell _ _ _ _ hk,Below.heap_setCell _ _ _ _ hk]
   have hid9:rIds (All (((wr.setCell ⟨w.heap.size+2,0,none⟩ (.int .u32 sm)).setCell ⟨w.heap.size+2,1,none⟩ (.slice C5 K5 e5)).setCell ⟨w.heap.size+2,2,none⟩ (.slice Av n cv))) (((wr.setCell ⟨w.heap.size+2,0,none⟩ (.int .u32 sm)).setCell ⟨w.heap.size+2,1,none⟩ (.slice C5 K5 e5)).setCell ⟨w.heap.size+2,2,none⟩ (.slice Av n cv)) [.slice C5 K5 e5] (canonG h).2.2:=by
    refine rIds_stays.to (fun k hk=>?_) Hids.out
    have h1:k<w8.heap.size:=hk.1
    refine⟨by simp only[All,World.size_setCell];omega,?_⟩
    rw[hkp k hk.2,HWr.out.block k (by omega),Hw8.out k h1]
   have hit9:rItms (All (((wr.setCell ⟨w.heap.size+2,0,none⟩ (.int .u32 sm)).setCell ⟨w.heap.size+2,1,none⟩ (.slice C5 K5 e5)).setCell ⟨w.heap.size+2,2,none⟩ (.slice Av n cv))) (((wr.setCell ⟨w.heap.size+2,0,none⟩ (.int .u32 sm)).setCell ⟨w.heap.size+2,1,none⟩ (.slice C5 K5 e5)).setCell ⟨w.heap.size+2,2,none⟩ (.slice Av n cv)) [.slice Av n cv] ((ordG h).mapIdx (itemD g h)):=
    own_rSlice rItm_stays (own_keep hI.out.own fun k a1 a2=>hkp k (by omega)) HlI.out (hch.out.imp fun cs o hq=>rItm_stays.to (fun k hk=>⟨⟨by simp only[World.size_setCell];exact hk.2.1,hk.2.2⟩,hkp k (by omega)⟩) hq)
   refine⟨C5,e5,Av,cv,rfl,rDlt_mk (x:=(sm,(canonG h).2.2,(ordG h).mapIdx (itemD g h))) Hsw.out hid9 hit9,?_⟩
   ·exact ((HZ.out.setCell (p:=⟨w.heap.size+2,0,none⟩) (by simp) (.int .u32 sm)).setCell (p:=⟨w.heap.size+2,1,none⟩) (by simp) (.slice C5 K5 e5)).setCell (p:=⟨w.heap.size+2,2,none⟩) (by simp) (.slice Av n cv)
end Go.Proofs.YtnljjnkindjeoaaGreatDoor
