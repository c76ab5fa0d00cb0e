/- The contract of the document's own Make (layer 11). Conditions: short names. -/
import Derived.Test.YtnljjnkindjeoaaGreatDoorDeRef3
import Derived.Test.YtnljjnkindjeoaaGreatDoorDeMake
import Derived.Test.YtnljjnkindjeoaaGreatDoorGCoRef
import Derived.Test.YtnljjnkindjeoaaGreatDoorGRef
import Derived.Test.YtnljjnkindjeoaaGreatDoorAl
set_option maxRecDepth 100000
set_option maxHeartbeats 8000000
namespace Go.Proofs.YtnljjnkindjeoaaGreatDoor
open Go.RowKit
theorem item_kit {g h:Gr} (hm1:mayG g=true) (hm2:mayG h=true) (hk:kindG g h=true) {i:Nat} {x:Int} (hx:(ordG h)[i]?=some x):
  ∃ (J:Nat) (px pt:Int) (now cv old:List Vl),findG h.2.1 x=(J:Int)∧h.2.1[J]?=some (px,pt,now)∧(canonG h).2.1[i]?=some ((i:Int),pt,cv)∧cv.length=now.length∧now.length≤5 ∧
   itemD g h i x=(atL (ordG g) x,pt,setK (decide (atL (ordG g) x<0)) old now cv now.length) ∧
   (decide (atL (ordG g) x<0)=true∨(decide (atL (ordG g) x<0)=false∧∃ (I:Nat) (ox ot:Int),findG g.2.1 x=(I:Int)∧g.2.1[I]?=some (ox,ot,old)∧old.length=now.length)):=by
 obtain⟨p,hp,hpx,hpb⟩:=ord_obj hm2 (List.mem_of_getElem? hx)
 obtain⟨J,hJ1,hJ2⟩:=obj_place hm2 hp
 have hlp:=(mayG_obj hm2 hp).len
 have h5:p.2.2.length≤5:=by have:=fields_few hm2 p.2.1;omega
 have hc:=canon_at hm2 hx
 have hce:canO h (ordG h) i x=((i:Int),p.2.1,(canO h (ordG h) i x).2.2):=by rw[← hpb];rfl
 have hcl:(canO h (ordG h) i x).2.2.length=p.2.2.length:=by
  have:=leadV_len (atL (ordG h)) (fldsG h.1 (objG h.2.1 x).2.1) (objG h.2.1 x).2.2 (by rw[hpb];exact hlp)
  rw[← hpb]
  exact this
 rw[hce] at hc
 rw[hpx] at hJ1
 refine⟨J,p.1,p.2.1,p.2.2,(canO h (ordG h) i x).2.2,(objG g.2.1 x).2.2,hJ1,hJ2,hc,hcl,h5,?_,?_⟩
 ·rw[itemD,hpb]
 ·by_cases h0:atL (ordG g) x<0
  ·exact .inl (zJ h0)
  ·refine .inr ⟨zK h0,?_⟩
   obtain⟨I,o,J',p',a1,a2,a3,b1,b2,b3,a4,b4⟩:=item_place hm1 hm2 hk hx (by intro e;rw[e] at h0;exact h0 (by decide))
   exact⟨I,o.1,o.2.1,a1,by rw[objG_at a1 a2];exact a2,by rw[objG_at a1 a2,a4,hcl]⟩
theorem setK_go {fb:Bool} {old now cv:List Vl} {k:Nat} {v:Vl} (hv:cv[k]?=some v) (h:(!(!fb && decide (old[k]?=now[k]?)))=true):setK fb old now cv (k+1)=setK fb old now cv k++[((k:Int),v)]:=by
 rw[setK_succ,if_neg,hv]
 ·rfl
 ·rintro⟨h1,h2⟩
  rw[h1,h2] at h
  simp at h
theorem setK_skip {fb:Bool} {old now cv:List Vl} {k:Nat} (h:(!(!fb && decide (old[k]?=now[k]?)))=false):setK fb old now cv (k+1)=setK fb old now cv k:=by
 rw[setK_succ,if_pos]
 ·simp
 ·cases fb
  ·exact⟨rfl,by simpa using h⟩
  ·simp at h
theorem rdmake_any (A B C:Option Addr) (N c M d K e:Nat) (A1 B1 C1:Option Addr) (N1 c1 M1 d1 K1 e1:Nat) (g h:Gr) (w:World) (hta:tameS g.1) (htb:tameS h.1) (hg:rGr (All w) w [.slice A N c,.slice B M d,.slice C K e] g) (hh:rGr (All w) w [.slice A1 N1 c1,.slice B1 M1 d1,.slice C1 K1 e1] h):
  Calls Tryz.prog 8 #[.agg #[.slice A N c,.slice B M d,.slice C K e],.agg #[.slice A1 N1 c1,.slice B1 M1 d1,.slice C1 K1 e1]] w fun r w'=>∃ B9 d9 C9 e9,r=.returned (.tuple #[.agg #[.int .u32 (makeD g h).1,.slice B9 (makeD g h).2.1.length d9,.slice C9 (makeD g h).2.2.length e9],.int .i64 (makeE g h)]) ∧
   rDlt (All w') w' [.int .u32 (makeD g h).1,.slice B9 (makeD g h).2.1.length d9,.slice C9 (makeD g h).2.2.length e9] (makeD g h)∧Below w.heap.size w w':=by
 obtain⟨i0,hi,hz0,hz1,hz2⟩:=info_parts info_itm
 obtain⟨j0,hj,hy0,hy1,hy2⟩:=info_parts info_cel
 have hB0:Below w.heap.size w (((w.alloc (.cells #[.slice A N c,.slice B M d,.slice C K e] 28)).alloc (.cells #[.slice A1 N1 c1,.slice B1 M1 d1,.slice C1 K1 e1] 28)).alloc (.cells #[.int .u32 0,.slice none 0 0,.slice none 0 0] 32)):=(((zA _ w).alloc (zW _) _).alloc (by simp) _).alloc (by simp;omega) _
 obtain⟨p0,p1,p2⟩:=blk_three w 28 28 32 [.slice A N c,.slice B M d,.slice C K e] [.slice A1 N1 c1,.slice B1 M1 d1,.slice C1 K1 e1] [.int .u32 0,.slice none 0 0,.slice none 0 0]
 have Hg:=zZ (gr_below hB0 hg)
 have Hh:=zZ (gr_below hB0 hh)
 have HB0:=zZ hB0
 have P0:=zZ p0
 have P1:=zZ p1
 have P2:=zZ p2
 have Hta:=zZ hta
 have Hok:=zZ (gr_ok hg)
 have Htb:=zZ htb
 have S1:Hid ((((w.alloc (.cells #[.slice A N c,.slice B M d,.slice C K e] 28)).alloc (.cells #[.slice A1 N1 c1,.slice B1 M1 d1,.slice C1 K1 e1] 28)).alloc (.cells #[.int .u32 0,.slice none 0 0,.slice none 0 0] 32)).heap.size=w.heap.size+3):=zZ (by simp)
 have c0:=p0.cell (j:=0) rfl
 have c1':=p0.cell (j:=1) rfl
 have c2':=p0.cell (j:=2) rfl
 clear hg hh hB0 p0 p1 p2 hta htb
 go_enter Tryz.func8,Tryz.ntmps8
 go_wp2_with fail
 generalize ((w.alloc (.cells #[.slice A N c,.slice B M d,.slice C K e] 28)).alloc (.cells #[.slice A1 N1 c1,.slice B1 M1 d1,.slice C1 K1 e1] 28)).alloc (.cells #[.int .u32 0,.slice none 0 0,.slice none 0 0] 32)=w1 at *
 have HS:=zZ (fun (W:World) (hW:Below w1.heap.size w1 W)=>And.intro ((P0.out.to hW).cell (j:=0) rfl) (And.intro ((P0.out.to hW).cell (j:=1) rfl) (And.intro ((P0.out.to hW).cell (j:=2) rfl) (And.intro ((P1.out.to hW).cell (j:=0) rfl) (And.intro ((P1.out.to hW).cell (j:=1) rfl) ((P1.out.to hW).cell (j:=2) rfl))))))
 have HP2:=zZ (fun (W:World) (hW:Below w1.heap.size w1 W)=>P2.out.to hW)
 refine (rgmay_any A B C N c M d K e g _ Hg.out Hta.out).mono ?_
 rintro e' w2 ⟨rfl,hB2⟩
 have H2:=zZ hB2
 clear hB2 c0 c1' c2' P0 P1 P2
 obtain⟨a0,a1,a2,b0,b1,b2⟩:=HS.out _ H2.out
 go_wp2_with fail
 refine (rgmay_any A1 B1 C1 N1 c1 M1 d1 K1 e1 h _ (gr_below H2.out Hh.out) Htb.out).mono ?_
 rintro e' w3 ⟨rfl,hB3⟩
 have H3:=zZ (H2.out.trans (hB3.mono H2.out.size))
 clear hB3 H2 a0 a1 a2 b0 b1 b2
 by_cases hm1:mayG g=true
 case neg=>
  replace hm1:mayG g=false:=by simpa using hm1
  have HE:=zZ (makeE_may (a:=g) (b:=h) (by rw[hm1];rfl))
  have HD:Hid (makeD g h=(0,[],[])):=zZ (makeD_no (by rw[HE.out];decide))
  rw[hm1]
  clear hm1
  generalize mayG h=m2 at *
  have q2:=HP2.out _ H3.out
  have u0:=q2.cell (j:=0) rfl
  have u1:=q2.cell (j:=1) rfl
  have u2:=q2.cell (j:=2) rfl
  have z0:=q2.frozen 0
  have z1:=q2.frozen 1
  have z2:=q2.frozen 2
  have QQ:=zZ q2
  clear q2
  go_wp2
  have P9:=((QQ.out.set 0 (.int .u32 0)).set 1 (.slice none 0 0)).set 2 (.slice none 0 0)
  refine ret_cell1 (d:=.struct _) (cs:=[.int .u32 0,.slice none 0 0,.slice none 0 0]) rfl P9 rfl rfl rfl rfl rfl ?_
  rw[HD.out,HE.out]
  refine⟨none,0,none,0,rfl,dlt_none _,?_⟩
  exact (((HB0.out.trans (H3.out.mono HB0.out.size)).setCell (p:=⟨w.heap.size+2,0,none⟩) (by simp) (.int .u32 0)).setCell (p:=⟨w.heap.size+2,1,none⟩) (by simp) (.slice none 0 0)).setCell (p:=⟨w.heap.size+2,2,none⟩) (by simp) (.slice none 0 0)
 by_cases hm2:mayG h=true
 case neg=>
  replace hm2:mayG h=false:=by simpa using hm2
  have HE:=zZ (makeE_may (a:=g) (b:=h) (by rw[hm1,hm2];rfl))
  have HD:Hid (makeD g h=(0,[],[])):=zZ (makeD_no (by rw[HE.out];decide))
  rw[hm1,hm2]
  clear hm1 hm2
  have q2:=HP2.out _ H3.out
  have u0:=q2.cell (j:=0) rfl
  have u1:=q2.cell (j:=1) rfl
  have u2:=q2.cell (j:=2) rfl
  have z0:=q2.frozen 0
  have z1:=q2.frozen 1
  have z2:=q2.frozen 2
  have QQ:=zZ q2
  clear q2
  go_wp2
  have P9:=((QQ.out.set 0 (.int .u32 0)).set 1 (.slice none 0 0)).set 2 (.slice none 0 0)
  refine ret_cell1 (d:=.struct _) (cs:=[.int .u32 0,.slice none 0 0,.slice none 0 0]) rfl P9 rfl rfl rfl rfl rfl ?_
  rw[HD.out,HE.out]
  refine⟨none,0,none,0,rfl,dlt_none _,?_⟩
  exact (((HB0.out.trans (H3.out.mono HB0.out.size)).setCell (p:=⟨w.heap.size+2,0,none⟩) (by simp) (.int .u32 0)).setCell (p:=⟨w.heap.size+2,1,none⟩) (by simp) (.slice none 0 0)).setCell (p:=⟨w.heap.size+2,2,none⟩) (by simp) (.slice none 0 0)
 have TK:=zZ (rkind_any A B C N c M d K e A1 B1 C1 N1 c1 M1 d1 K1 e1 g h w3 (gr_below H3.out Hg.out) (gr_below H3.out Hh.out))
 have HE0:Hid (makeE g h=if kindG g h=true then codeE g else 6):=zZ (by rw[makeE,hm1,hm2];rfl)
 have Hm1:=zZ hm1
 have Hm2:=zZ hm2
 rw[hm1,hm2]
 clear hm1 hm2
 obtain⟨a0,a1,a2,b0,b1,b2⟩:=HS.out _ H3.out
 go_wp2_with fail
 refine TK.out.mono ?_
 rintro e' w4 ⟨rfl,hB4⟩
 have H4:=zZ (H3.out.trans (hB4.mono H3.out.size))
 clear hB4 H3 TK a0 a1 a2 b0 b1 b2
 by_cases hk:kindG g h=true
 case neg=>
  have HE:Hid (makeE g h=6):=zZ (by rw[HE0.out,if_neg hk])
  have HD:Hid (makeD g h=(0,[],[])):=zZ (makeD_no (by rw[HE.out];decide))
  replace hk:kindG g h=false:=by simpa using hk
  rw[hk]
  clear hk HE0
  have q2:=HP2.out _ H4.out
  have u0:=q2.cell (j:=0) rfl
  have u1:=q2.cell (j:=1) rfl
  have u2:=q2.cell (j:=2) rfl
  have z0:=q2.frozen 0
  have z1:=q2.frozen 1
  have z2:=q2.frozen 2
  have QQ:=zZ q2
  clear q2
  go_wp2
  have P9:=((QQ.out.set 0 (.int .u32 0)).set 1 (.slice none 0 0)).set 2 (.slice none 0 0)
  refine ret_cell1 (d:=.struct _) (cs:=[.int .u32 0,.slice none 0 0,.slice none 0 0]) rfl P9 rfl rfl rfl rfl rfl ?_
  rw[HD.out,HE.out]
  refine⟨none,0,none,0,rfl,dlt_none _,?_⟩
  exact (((HB0.out.trans (H4.out.mono HB0.out.size)).setCell (p:=⟨w.heap.size+2,0,none⟩) (by simp) (.int .u32 0)).setCell (p:=⟨w.heap.size+2,1,none⟩) (by simp) (.slice none 0 0)).setCell (p:=⟨w.heap.size+2,2,none⟩) (by simp) (.slice none 0 0)
 have HE:Hid (makeE g h=codeE g):=zZ (by rw[HE0.out,if_pos hk])
 have Hk:=zZ hk
 rw[hk]
 clear hk HE0
 have TS:=zZ (rcsum_any A B C N c M d K e g w4 Hta.out (gr_below H4.out Hg.out))
 obtain⟨a0,a1,a2,b0,b1,b2⟩:=HS.out _ H4.out
 go_wp2_with fail
 refine TS.out.mono ?_
 rintro e' w5 ⟨rfl,hB5⟩
 have H5:=zZ (H4.out.trans (hB5.mono H4.out.size))
 clear hB5 H4 TS a0 a1 a2 b0 b1 b2
 by_cases hce:codeE g=0
 case neg=>
  have he':(codeE g != 0)=true:=by simp[hce]
  have HD:Hid (makeD g h=(0,[],[])):=zZ (makeD_no (by rw[HE.out];exact hce))
  clear hce
  generalize codeE g=er at *
  generalize (codeS g:Int)=sm at *
  have q2:=HP2.out _ H5.out
  have u0:=q2.cell (j:=0) rfl
  have u1:=q2.cell (j:=1) rfl
  have u2:=q2.cell (j:=2) rfl
  have z0:=q2.frozen 0
  have z1:=q2.frozen 1
  have z2:=q2.frozen 2
  have QQ:=zZ q2
  clear q2
  go_wp2
  have P9:=((QQ.out.set 0 (.int .u32 0)).set 1 (.slice none 0 0)).set 2 (.slice none 0 0)
  refine ret_cell1 (d:=.struct _) (cs:=[.int .u32 0,.slice none 0 0,.slice none 0 0]) rfl P9 rfl rfl rfl rfl rfl ?_
  rw[HD.out,HE.out]
  refine⟨none,0,none,0,rfl,dlt_none _,?_⟩
  exact (((HB0.out.trans (H5.out.mono HB0.out.size)).setCell (p:=⟨w.heap.size+2,0,none⟩) (by simp) (.int .u32 0)).setCell (p:=⟨w.heap.size+2,1,none⟩) (by simp) (.slice none 0 0)).setCell (p:=⟨w.heap.size+2,2,none⟩) (by simp) (.slice none 0 0)
 rw[hce] at HE ⊢
 clear hce
 have HD:=zZ (makeD_yes HE.out)
 have Hsw:=zZ (codeS_wf (g:=g) Hok.out)
 clear Hok
 generalize (codeS g:Int)=sm at *
 have TC:=zZ (rcanon_any A1 B1 C1 N1 c1 M1 d1 K1 e1 h w5 (gr_below H5.out Hh.out) Htb.out)
 obtain⟨a0,a1,a2,b0,b1,b2⟩:=HS.out _ H5.out
 go_wp2_with fail
 refine TC.out.mono ?_
 rintro e' w6 ⟨A5,c5,B5,d5,C5,e5,rfl,hg6,hB6⟩
 clear a0 a1 a2 b0 b1 b2 TC
 have hB7:Below w6.heap.size w6 (w6.alloc (.cells #[.slice A5 (canonG h).1.length c5,.slice B5 (canonG h).2.1.length d5,.slice C5 (canonG h).2.2.length e5] 28)):=(zA _ w6).alloc (zW _) _
 have P11:=zZ (Blk.new w6 28 [.slice A5 (canonG h).1.length c5,.slice B5 (canonG h).2.1.length d5,.slice C5 (canonG h).2.2.length e5])
 have H7:=zZ (H5.out.trans ((hB6.trans (hB7.mono hB6.size)).mono H5.out.size))
 have HG7:=zZ (gr_below hB7 hg6)
 have S67:=zZ (And.intro H5.out.size hB6.size)
 clear hB6 hB7 hg6
 go_upto_region 12 with fail
 generalize w6.alloc (.cells #[.slice A5 (canonG h).1.length c5,.slice B5 (canonG h).2.1.length d5,.slice C5 (canonG h).2.2.length e5] 28)=w7 at *
 have T12:=zZ (rorder_any A B C N c M d K e g w7 (gr_below H7.out Hg.out) Hta.out)
 obtain⟨a0,a1,a2,b0,b1,b2⟩:=HS.out _ H7.out
 go_wp2_with fail
 refine T12.out.mono ?_
 rintro e' w8 ⟨AW,cW,rfl,hW8,hB8⟩
 have H8:=zZ (H7.out.trans (hB8.mono H7.out.size))
 have H78:=zZ hB8
 clear hB8 T12 a0 a1 a2 b0 b1 b2
 have T13:=zZ (rorder_any A1 B1 C1 N1 c1 M1 d1 K1 e1 h w8 (gr_below H8.out Hh.out) Htb.out)
 obtain⟨a0,a1,a2,b0,b1,b2⟩:=HS.out _ H8.out
 go_wp2_with fail
 refine T13.out.mono ?_
 rintro e' w9 ⟨AI,cI,rfl,hI9,hB9⟩
 have H9:=zZ (H8.out.trans (hB9.mono H8.out.size))
 have H89:=zZ hB9
 have HW9:=zZ (rIds_stays.to (S':=fun k=>w7.heap.size≤k∧k<w9.heap.size) (fun k hk=>⟨⟨hk.1,by have:=hB9.size;have:=hk.2;omega⟩,hB9.block k hk.2⟩) hW8)
 have HI9:=zZ hI9
 clear hB9 T13 hW8 hI9 a0 a1 a2 b0 b1 b2
 have HlM:Hid ((canonG h).2.1.length=(ordG h).length):=zZ (canon_len Hm2.out)
 have Hat:Hid (∀ x,-1≤atL (ordG g) x∧atL (ordG g) x≤8):=zZ (fun x=>atL_wf (L:=ordG g) (ordG_few Hm1.out) x)
 have hn8:(ordG h).length≤8:=ordG_few Hm2.out
 have hB10:Below w9.heap.size w9 (w9.alloc (.cells #[.int .u32 sm,.slice C5 (canonG h).2.2.length e5,.slice none 0 0] 32)):=(zA _ w9).alloc (zW _) _
 have P14:=zZ (Blk.new w9 32 [.int .u32 sm,.slice C5 (canonG h).2.2.length e5,.slice none 0 0])
 have H10:=zZ (H9.out.trans (hB10.mono H9.out.size))
 have H7x:=zZ ((H78.out.trans (H89.out.mono H78.out.size)).trans (hB10.mono (by have:=H78.out.size;have:=H89.out.size;omega)))
 have P11c:=zZ (And.intro (((P11.out.to H78.out).to H89.out).lt) (((P11.out.to H78.out).to H89.out).to hB10))
 have HW10:=zZ (rIds_stays.to (S':=fun k=>k<w9.heap.size) (fun k hk=>⟨hk.2,hB10.block k hk.2⟩) HW9.out)
 have HI10:=zZ (rIds_stays.to (S':=fun k=>k<w9.heap.size) (fun k hk=>⟨hk.2,hB10.block k hk.2⟩) HI9.out)
 have S10:Hid ((w9.alloc (.cells #[.int .u32 sm,.slice C5 (canonG h).2.2.length e5,.slice none 0 0] 32)).heap.size=w9.heap.size+1):=zZ (by simp)
 have S79:=zZ (And.intro H78.out.size H89.out.size)
 have k2:=((P11.out.to H78.out).to H89.out).cell (j:=2) rfl
 clear hB10 HW9 HI9 H78 H89
 generalize hN5:(canonG h).1.length=N5 at *
 generalize hM5:(canonG h).2.1.length=M5 at *
 generalize hK5:(canonG h).2.2.length=K5 at *
 have HK5:=zZ hK5
 clear hN5 hM5 hK5
 generalize hn:(ordG h).length=n at *
 have Hn:=zZ hn
 clear hn
 generalize (ordG g).length=nW at *
 go_upto_region 15 with fail
 generalize w9.alloc (.cells #[.int .u32 sm,.slice C5 K5 e5,.slice none 0 0] 32)=w10 at *
 clear k2
 go_wp2
 go_loopw [15] (fun iv w'=>∃ (i:Nat) (v:Value) (xs:List Value),i≤n∧iv=.int .i64 (i:Int)∧Hid (RowIn w9.heap.size 2 32 50 3 [.int .u32 sm,.slice C5 K5 e5,.slice none 0 0] w10 v i xs w')∧Hid (Chunks 3 (rItm (fun k=>w10.heap.size≤k∧k<w'.heap.size∧some k≠v.ownBlock) w') xs (((ordG h).mapIdx (itemD g h)).take i))) (fun iv _=>n - (intOf iv).toNat)
 case atStart=>exact⟨0,.slice none 0 0,[],by omega,rfl,zZ (RowIn.start P14.out rfl),zZ Chunks.nil⟩
 case round=>
  rename World=>wr
  obtain⟨i,vO,xs,hi',rfl,hO,hch⟩:=hrel
  have hbl:w9.heap.size<w10.heap.size:=by have:=S10.out;omega
  have H1r:=zZ (H10.out.trans (hO.out.bel.mono H9.out.size))
  have H7r:=zZ (H7x.out.trans (hO.out.bel.mono (by have:=S79.out;omega)))
  obtain⟨AV,cV,hvO⟩:=own_slice3 hO.out.own
  subst hvO
  by_cases hin:i<n
  ·obtain⟨x,hx⟩:∃ x,(ordG h)[i]?=some x:=⟨_,zV (by have:=Hn.out;omega)⟩
   obtain⟨J,px,pt,now,cv,old,hJ,hp,hc,hcl,h5,hit,hcase⟩:=item_kit Hm1.out Hm2.out Hk.out hx
   have hmx:((ordG h).mapIdx (itemD g h))[i]?=some (itemD g h i x):=by rw[List.getElem?_mapIdx,hx];rfl
   have htk:=take_at hmx
   rw[hit] at htk
   have hor:rIds (fun k=>k<w9.heap.size) wr [.slice AI n cI] (ordG h):=rIds_stays.to (S':=fun k=>k<w9.heap.size) (fun k hk=>⟨hk,hO.out.bel.block k hk⟩) HI10.out
   have hcr:rGr (fun k=>k<w7.heap.size) wr [.slice A5 N5 c5,.slice B5 M5 d5,.slice C5 K5 e5] (canonG h):=rGr_stays.to (S':=fun k=>k<w7.heap.size) (fun k hk=>⟨hk,H7r.out.block k hk⟩) HG7.out
   have pc:Blk wr w6.heap.size 28 [.slice A5 N5 c5,.slice B5 M5 d5,.slice C5 K5 e5]:=(hO.out.bel.block _ P11c.out.1).trans P11c.out.2
   obtain⟨b4,off4,rfl,hb4,z0,hxb⟩:=id_at hor hx
   obtain⟨bo,offo,Ao,co,rfl,hbo,-,x1,x2,hcv,-,hptb⟩:=ob_at (rGr_open hcr).2.1 hc
   obtain⟨bp,offp,Ap,cp,rfl,hbp,y0,y1,y2,hnv,hpxb,-⟩:=ob_at (rGr_open (gr_below H1r.out Hh.out)).2.1 hp
   simp only at x1 x2 hcv hptb y0 y1 y2 hnv hpxb
   rw[hcl] at x2 hcv
   have hlr:w9.heap.size≤wr.heap.size:=by have:=hO.out.bel.size;omega
   have hl7:w7.heap.size≤wr.heap.size:=H7r.out.size
   have hb4':b4<wr.heap.size:=by have:b4<w9.heap.size:=hb4;omega
   have hbo':bo<wr.heap.size:=by have:bo<w7.heap.size:=hbo;omega
   have hbp':bp<wr.heap.size:=hbp
   have HX:=zZ (fun (W:World) (hW:Below wr.heap.size wr W)=>And.intro (HS.out W (H1r.out.trans (hW.mono H1r.out.size))) (And.intro ((pc.to hW).cell (j:=1) rfl) (And.intro ((hW.cell (p:=⟨b4,off4+i,none⟩) hb4').trans z0) (And.intro ((hW.cell (p:=⟨bo,offo+i * 3+1,none⟩) hbo').trans x1) (And.intro ((hW.cell (p:=⟨bo,offo+i * 3+2,none⟩) hbo').trans x2)
    (And.intro ((hW.cell (p:=⟨bp,offp+J * 3,none⟩) hbp').trans y0) (And.intro ((hW.cell (p:=⟨bp,offp+J * 3+1,none⟩) hbp').trans y1) ((hW.cell (p:=⟨bp,offp+J * 3+2,none⟩) hbp').trans y2))))))))
   have TA:=zZ (fun W (hW:Below wr.heap.size wr W)=>rat_any AW nW cW (ordG g) x W (rIds_stays.to (S':=All W) (fun k hk=>⟨by have:k<w9.heap.size:=hk;have:=hW.size;show k<_;omega,by have:k<w9.heap.size:=hk;exact (hW.block k (by omega)).trans (hO.out.bel.block k hk)⟩) HW10.out))
   have TF:=zZ (fun W (hW:Below wr.heap.size wr W)=>rgfind_any A B C N c M d K e g x W (gr_below (H1r.out.trans (hW.mono H1r.out.size)) Hg.out))
   have TH:=zZ (fun W (hW:Below wr.heap.size wr W)=>rgfind_any A1 (some ⟨bp,offp,none⟩) C1 N1 c1 M1 d1 K1 e1 h x W (gr_below (H1r.out.trans (hW.mono H1r.out.size)) Hh.out))
   rw[hJ] at TH
   have hil:(i:Int)<(n:Int):=by omega
   have hi0':(0:Int)≤(i:Int):=by omega
   have hilM:(i:Int)<(M5:Int):=by have:=HlM.out;omega
   have hjl:(J:Int)<(M1:Int):=by have:=(List.getElem?_eq_some_iff.1 hp).1;have:=(slice_len (rGr_open Hh.out).2.1).1;omega
   have hj0':(0:Int)≤(J:Int):=by omega
   have hfb:=Hat.out x
   have Hcv:=zZ hcv
   have Hnv:=zZ hnv
   have Htk:=zZ htk
   have Hcase:=zZ hcase
   have Hptw:Hid ((Lit.int .i64 pt).wf=true):=zZ (WalkArith.wf_i64 hptb)
   have Hin:=zZ hin
   generalize atL (ordG g) x=fr at *
   have Hfw:Hid ((Lit.int .i64 fr).wf=true):=zZ (WalkArith.wf_i64 ⟨by omega,by omega⟩)
   generalize findG g.2.1 x=ov at *
   generalize hfl:now.length=fl at *
   have Hfl:=zZ hfl
   have Hcf:=zZ hcl
   clear hx hp hc hcl hit hcase hmx htk hor hcr pc z0 x1 x2 y0 y1 y2 hcv hnv hptb hpxb hxb hJ hlr hl7 hb4' hbo' hfl hfb hi' hin hbp'
   go_wp2
   go_cut [16] (fun vb wy=>∃ g7:Nat,vb=.pointer (some ⟨g7,0,none⟩)∧Hid (Blk wy g7 50 [.int .i64 fr,.int .i64 pt,.slice none 0 0])∧wr.heap.size≤g7∧Hid (Below wr.heap.size wr wy))
   case first=>
    refine fr_start (fun W=>Below wr.heap.size wr W) 15 (by kernel_rfl) rfl (fun _ _ _ _ _ h=>h) (zA _ wr).drew (fun hH=>?_)
    have hDs:wr.heap.size≤wr.drew.heap.size:=hH.size
    generalize wr.drew=wd at *
    (refine fr_yes 0 (v:=?_) rfl (by kernel_rfl) rfl ?_ hH ?_;rotate_left;(focus ((intro W hW;obtain⟨⟨a0,a1,a2,b0,b1,b2⟩,k1,z0,x1,x2,y0,y1,y2⟩:=HX.out W (hW);go_simp) <;> with_reducible rfl));simp only[Act.put,zY,zX,zQ]);(refine fr_yes 1 (v:=?_) rfl (by kernel_rfl) rfl ?_ hH ?_;rotate_left;(focus ((intro W hW;obtain⟨⟨a0,a1,a2,b0,b1,b2⟩,k1,z0,x1,x2,y0,y1,y2⟩:=HX.out W (hW);go_simp) <;> with_reducible rfl));simp only[Act.put,zY,zX,zQ]);(refine fr_yes 2 (v:=?_) rfl (by kernel_rfl) rfl ?_ hH ?_;rotate_left;(focus ((intro W hW;obtain⟨⟨a0,a1,a2,b0,b1,b2⟩,k1,z0,x1,x2,y0,y1,y2⟩:=HX.out W (hW);go_simp) <;> with_reducible rfl));simp only[Act.put,zY,zX,zQ]);(refine fr_yes 3 (v:=?_) rfl (by kernel_rfl) rfl ?_ hH ?_;rotate_left;(focus ((intro W hW;obtain⟨⟨a0,a1,a2,b0,b1,b2⟩,k1,z0,x1,x2,y0,y1,y2⟩:=HX.out W (hW);go_simp) <;> with_reducible rfl));simp only[Act.put,zY,zX,zQ]);(refine fr_yes 4 (v:=?_) rfl (by kernel_rfl) rfl ?_ hH ?_;rotate_left;(focus ((intro W hW;obtain⟨⟨a0,a1,a2,b0,b1,b2⟩,k1,z0,x1,x2,y0,y1,y2⟩:=HX.out W (hW);go_simp) <;> with_reducible rfl));simp only[Act.put,zY,zX,zQ]);(refine fr_yes 6 (v:=?_) rfl (by kernel_rfl) rfl ?_ hH ?_;rotate_left;(focus ((intro W hW;obtain⟨⟨a0,a1,a2,b0,b1,b2⟩,k1,z0,x1,x2,y0,y1,y2⟩:=HX.out W (hW);go_simp) <;> with_reducible rfl));simp only[Act.put,zY,zX,zQ]);(refine fr_yes 7 (v:=?_) rfl (by kernel_rfl) rfl ?_ hH ?_;rotate_left;(focus ((intro W hW;obtain⟨⟨a0,a1,a2,b0,b1,b2⟩,k1,z0,x1,x2,y0,y1,y2⟩:=HX.out W (hW);go_simp) <;> with_reducible rfl));simp only[Act.put,zY,zX,zQ]);(refine fr_yes 8 (v:=?_) rfl (by kernel_rfl) rfl ?_ hH ?_;rotate_left;(focus ((intro W hW;obtain⟨⟨a0,a1,a2,b0,b1,b2⟩,k1,z0,x1,x2,y0,y1,y2⟩:=HX.out W (hW);go_simp) <;> with_reducible rfl));simp only[Act.put,zY,zX,zQ]);(refine fr_yes 9 (v:=?_) rfl (by kernel_rfl) rfl ?_ hH ?_;rotate_left;(focus ((intro W hW;obtain⟨⟨a0,a1,a2,b0,b1,b2⟩,k1,z0,x1,x2,y0,y1,y2⟩:=HX.out W (hW);go_simp) <;> with_reducible rfl));simp only[Act.put,zY,zX,zQ]);(refine fr_yes 10 (v:=?_) rfl (by kernel_rfl) rfl ?_ hH ?_;rotate_left;(focus ((intro W hW;obtain⟨⟨a0,a1,a2,b0,b1,b2⟩,k1,z0,x1,x2,y0,y1,y2⟩:=HX.out W (hW);go_simp) <;> with_reducible rfl));simp only[Act.put,zY,zX,zQ]);(refine fr_yes 11 (v:=?_) rfl (by kernel_rfl) rfl ?_ hH ?_;rotate_left;(focus ((intro W hW;obtain⟨⟨a0,a1,a2,b0,b1,b2⟩,k1,z0,x1,x2,y0,y1,y2⟩:=HX.out W (hW);go_simp) <;> with_reducible rfl));simp only[Act.put,zY,zX,zQ])
    refine fr_op [5,13] (by kernel_rfl) (by simp) ?_;intro jj hjj;simp only[List.mem_cons,List.not_mem_nil,or_false] at hjj;rcases hjj with rfl | rfl
    ·refine⟨_,rfl,rfl,fun K hK=>?_⟩
     go_wp2_with (go_at_call 30;refine (TA.out _ hH).mono ?_;rintro e wg ⟨rfl,hCg⟩)
     subst hCg
     have hDg:=hH
     refine hK.out _ _ hDg ?_
     clear hK
     (refine fr_yes 12 (v:=?_) rfl (by kernel_rfl) rfl ?_ hH ?_;rotate_left;(focus ((intro W hW;obtain⟨⟨a0,a1,a2,b0,b1,b2⟩,k1,z0,x1,x2,y0,y1,y2⟩:=HX.out W (hW);go_simp) <;> with_reducible rfl));simp only[Act.put,zY,zX,zQ])
     refine fr_op [13] (by kernel_rfl) (by simp) ?_;intro jj hjj;simp only[List.mem_cons,List.not_mem_nil,or_false] at hjj;subst hjj;refine⟨_,rfl,rfl,fun K hK=>?_⟩
     go_wp2
     refine hK.out _ _ (hDg.alloc hDg.size (.cells #[.int .i64 0,.int .i64 0,.slice none 0 0] 50)) ?_
     clear hK hH
     refine fr_op [14] (by kernel_rfl) (by simp) ?_;intro jj hjj;simp only[List.mem_cons,List.not_mem_nil,or_false] at hjj;subst hjj;refine⟨_,rfl,rfl,fun K hK=>?_⟩
     go_wp2
     have hDe:=hDg.alloc hDg.size (.cells #[.int .i64 fr,.int .i64 pt,.slice none 0 0] 50)
     refine hK.out _ _ hDe ?_
     clear hK
     refine fr_done (by kernel_rfl) ?_
     go_wp2
     go_meet
     case rel=>exact⟨_,rfl,zZ (Blk.new _ _ [.int .i64 fr,.int .i64 pt,.slice none 0 0]),hDg.size,zZ hDe⟩
    ·refine⟨_,rfl,rfl,fun K hK=>?_⟩
     go_wp2
     have hDz:=hH.alloc hH.size (.cells #[.int .i64 0,.int .i64 0,.slice none 0 0] 50)
     have vz:=Blk.new wd 50 [.int .i64 0,.int .i64 0,.slice none 0 0]
     refine hK.out _ _ hDz ?_
     clear hK hH
     have hH:=hDz
     generalize wd.alloc (.cells #[.int .i64 0,.int .i64 0,.slice none 0 0] 50)=wz at *
     refine fr_op [5] (by kernel_rfl) (by simp) ?_;intro jj hjj;simp only[List.mem_cons,List.not_mem_nil,or_false] at hjj;subst hjj;refine⟨_,rfl,rfl,fun K hK=>?_⟩
     go_wp2_with (go_at_call 30;refine (TA.out _ hDz).mono ?_;rintro e wg ⟨rfl,hCg⟩)
     subst hCg
     have hDg:=hDz
     have vg:=vz
     refine hK.out _ _ hDg ?_
     clear hK hDz vz
     (refine fr_yes 12 (v:=?_) rfl (by kernel_rfl) rfl ?_ hH ?_;rotate_left;(focus ((intro W hW;obtain⟨⟨a0,a1,a2,b0,b1,b2⟩,k1,z0,x1,x2,y0,y1,y2⟩:=HX.out W (hW);go_simp) <;> with_reducible rfl));simp only[Act.put,zY,zX,zQ])
     have z0:=vg.cell (j:=0) rfl
     have z1:=vg.cell (j:=1) rfl
     have z2:=vg.cell (j:=2) rfl
     have f0:=vg.frozen 0
     have f1:=vg.frozen 1
     have f2:=vg.frozen 2
     refine fr_op [14] (by kernel_rfl) (by simp) ?_;intro jj hjj;simp only[List.mem_cons,List.not_mem_nil,or_false] at hjj;subst hjj;refine⟨_,rfl,rfl,fun K hK=>?_⟩
     go_wp2
     have hDe:=((hDg.setCell (p:=⟨wd.heap.size,0,none⟩) hDs (.int .i64 fr)).setCell (p:=⟨wd.heap.size,1,none⟩) hDs (.int .i64 pt)).setCell (p:=⟨wd.heap.size,2,none⟩) hDs (.slice none 0 0)
     refine hK.out _ _ hDe ?_
     clear hK hH
     refine fr_done (by kernel_rfl) ?_
     go_wp2
     go_meet
     case rel=>exact⟨_,rfl,zZ (((vg.set 0 (.int .i64 fr)).set 1 (.int .i64 pt)).set 2 (.slice none 0 0)),hDs,zZ hDe⟩
   case rest=>
   obtain⟨b7,rfl,P7,hb7,HBc⟩:=hcut
   have TFc:=zZ (fun W (hW:Below wc.heap.size wc W)=>TF.out W (HBc.out.trans (hW.mono HBc.out.size)))
   clear TA TF
   go_upto_region 19 with fail
   refine sch_start [(0,true),(1,true),(2,true),(3,true),(4,true),(5,false),(6,true)] (fun W=>Below wc.heap.size wc W) (by kernel_rfl) rfl (by kernel_rfl) (fun _ _ _ _ _ h=>h) ((zA _ wc).drew) (fun hH=>?_)
   repeat (first | (refine sch_yes (v:=?_) rfl rfl ?_ hH ?_;rotate_left;(focus ((intro W hW;obtain⟨⟨a0,a1,a2,b0,b1,b2⟩,k1,z0,x1,x2,y0,y1,y2⟩:=HX.out W (HBc.out.trans (hW.mono HBc.out.size));go_simp) <;> with_reducible rfl));simp only[Act.put,zY,zX,zQ]) | (refine sch_no rfl rfl hH ?_;simp only[Act.put,zY,zX,zQ]))
   refine sch_call rfl rfl (fun K' hK=>?_)
   go_wp2_with (go_at_call 31;refine (TFc.out _ hH).mono ?_;rintro e w55 ⟨rfl,hB5⟩)
   have hD5:=hH.trans (hB5.mono hH.size)
   refine hK.out _ _ hD5 ?_
   clear hK hH hB5
   have hH:=hD5
   repeat (first | (refine sch_yes (v:=?_) rfl rfl ?_ hH ?_;rotate_left;(focus ((intro W hW;obtain⟨⟨a0,a1,a2,b0,b1,b2⟩,k1,z0,x1,x2,y0,y1,y2⟩:=HX.out W (HBc.out.trans (hW.mono HBc.out.size));go_simp) <;> with_reducible rfl));simp only[Act.put,zY,zX,zQ]) | (refine sch_no rfl rfl hH ?_;simp only[Act.put,zY,zX,zQ]))
   refine sch_done ?_
   have H5c:=zZ hD5
   have HB5:=zZ (HBc.out.trans (hD5.mono HBc.out.size))
   have P75:=zZ (P7.out.to hD5)
   have THc:=zZ (fun W (hW:Below w55.heap.size w55 W)=>TH.out W (HB5.out.trans (hW.mono HB5.out.size)))
   clear hH hD5 TFc TH P7
   go_wp2
   go_cut [18] (fun vb wy=>∃ g7:Nat,vb=.pointer (some ⟨g7,0,none⟩)∧Hid (Blk wy g7 53 [.int .i64 px,.int .i64 pt,.slice Ap fl cp])∧w55.heap.size≤g7∧Hid (Below w55.heap.size w55 wy))
   case first=>
    refine fr_start (fun W=>Below w55.heap.size w55 W) 12 (by kernel_rfl) rfl (fun _ _ _ _ _ h=>h) (zA _ w55).drew (fun hH=>?_)
    have hDs:w55.heap.size≤w55.drew.heap.size:=hH.size
    generalize w55.drew=wd at *
    (refine fr_yes 0 (v:=?_) rfl (by kernel_rfl) rfl ?_ hH ?_;rotate_left;(focus ((intro W hW;obtain⟨⟨a0,a1,a2,b0,b1,b2⟩,k1,z0,x1,x2,y0,y1,y2⟩:=HX.out W (HB5.out.trans (hW.mono HB5.out.size));go_simp) <;> with_reducible rfl));simp only[Act.put,zY,zX,zQ]);(refine fr_yes 1 (v:=?_) rfl (by kernel_rfl) rfl ?_ hH ?_;rotate_left;(focus ((intro W hW;obtain⟨⟨a0,a1,a2,b0,b1,b2⟩,k1,z0,x1,x2,y0,y1,y2⟩:=HX.out W (HB5.out.trans (hW.mono HB5.out.size));go_simp) <;> with_reducible rfl));simp only[Act.put,zY,zX,zQ]);(refine fr_yes 2 (v:=?_) rfl (by kernel_rfl) rfl ?_ hH ?_;rotate_left;(focus ((intro W hW;obtain⟨⟨a0,a1,a2,b0,b1,b2⟩,k1,z0,x1,x2,y0,y1,y2⟩:=HX.out W (HB5.out.trans (hW.mono HB5.out.size));go_simp) <;> with_reducible rfl));simp only[Act.put,zY,zX,zQ]);(refine fr_yes 3 (v:=?_) rfl (by kernel_rfl) rfl ?_ hH ?_;rotate_left;(focus ((intro W hW;obtain⟨⟨a0,a1,a2,b0,b1,b2⟩,k1,z0,x1,x2,y0,y1,y2⟩:=HX.out W (HB5.out.trans (hW.mono HB5.out.size));go_simp) <;> with_reducible rfl));simp only[Act.put,zY,zX,zQ]);(refine fr_yes 4 (v:=?_) rfl (by kernel_rfl) rfl ?_ hH ?_;rotate_left;(focus ((intro W hW;obtain⟨⟨a0,a1,a2,b0,b1,b2⟩,k1,z0,x1,x2,y0,y1,y2⟩:=HX.out W (HB5.out.trans (hW.mono HB5.out.size));go_simp) <;> with_reducible rfl));simp only[Act.put,zY,zX,zQ]);(refine fr_yes 5 (v:=?_) rfl (by kernel_rfl) rfl ?_ hH ?_;rotate_left;(focus ((intro W hW;obtain⟨⟨a0,a1,a2,b0,b1,b2⟩,k1,z0,x1,x2,y0,y1,y2⟩:=HX.out W (HB5.out.trans (hW.mono HB5.out.size));go_simp) <;> with_reducible rfl));simp only[Act.put,zY,zX,zQ]);(refine fr_yes 6 (v:=?_) rfl (by kernel_rfl) rfl ?_ hH ?_;rotate_left;(focus ((intro W hW;obtain⟨⟨a0,a1,a2,b0,b1,b2⟩,k1,z0,x1,x2,y0,y1,y2⟩:=HX.out W (HB5.out.trans (hW.mono HB5.out.size));go_simp) <;> with_reducible rfl));simp only[Act.put,zY,zX,zQ])
    refine fr_op [7,10] (by kernel_rfl) (by simp) ?_;intro jj hjj;simp only[List.mem_cons,List.not_mem_nil,or_false] at hjj;rcases hjj with rfl | rfl
    ·refine⟨_,rfl,rfl,fun K hK=>?_⟩
     go_wp2_with (go_at_call 31;refine (THc.out _ hH).mono ?_;rintro e wg ⟨rfl,hCg⟩)
     skip
     have hDg:=hH.trans (hCg.mono hH.size)
     refine hK.out _ _ hDg ?_
     clear hK hH hCg
     have hH:=hDg
     (refine fr_yes 8 (v:=?_) rfl (by kernel_rfl) rfl ?_ hH ?_;rotate_left;(focus ((intro W hW;obtain⟨⟨a0,a1,a2,b0,b1,b2⟩,k1,z0,x1,x2,y0,y1,y2⟩:=HX.out W (HB5.out.trans (hW.mono HB5.out.size));go_simp) <;> with_reducible rfl));simp only[Act.put,zY,zX,zQ]);(refine fr_yes 9 (v:=?_) rfl (by kernel_rfl) rfl ?_ hH ?_;rotate_left;(focus ((intro W hW;obtain⟨⟨a0,a1,a2,b0,b1,b2⟩,k1,z0,x1,x2,y0,y1,y2⟩:=HX.out W (HB5.out.trans (hW.mono HB5.out.size));go_simp) <;> with_reducible rfl));simp only[Act.put,zY,zX,zQ])
     refine fr_op [10] (by kernel_rfl) (by simp) ?_;intro jj hjj;simp only[List.mem_cons,List.not_mem_nil,or_false] at hjj;subst hjj;refine⟨_,rfl,rfl,fun K hK=>?_⟩
     go_wp2
     refine hK.out _ _ (hDg.alloc hDg.size (.cells #[.int .i64 0,.int .i64 0,.slice none 0 0] 53)) ?_
     clear hK hH
     refine fr_op [11] (by kernel_rfl) (by simp) ?_;intro jj hjj;simp only[List.mem_cons,List.not_mem_nil,or_false] at hjj;subst hjj;refine⟨_,rfl,rfl,fun K hK=>?_⟩
     go_wp2
     have hDe:=hDg.alloc hDg.size (.cells #[.int .i64 px,.int .i64 pt,.slice Ap fl cp] 53)
     refine hK.out _ _ hDe ?_
     clear hK
     refine fr_done (by kernel_rfl) ?_
     go_wp2
     go_meet
     case rel=>exact⟨_,rfl,zZ (Blk.new _ _ [.int .i64 px,.int .i64 pt,.slice Ap fl cp]),hDg.size,zZ hDe⟩
    ·refine⟨_,rfl,rfl,fun K hK=>?_⟩
     go_wp2
     have hDz:=hH.alloc hH.size (.cells #[.int .i64 0,.int .i64 0,.slice none 0 0] 53)
     have vz:=Blk.new wd 53 [.int .i64 0,.int .i64 0,.slice none 0 0]
     refine hK.out _ _ hDz ?_
     clear hK hH
     have hH:=hDz
     generalize wd.alloc (.cells #[.int .i64 0,.int .i64 0,.slice none 0 0] 53)=wz at *
     refine fr_op [7] (by kernel_rfl) (by simp) ?_;intro jj hjj;simp only[List.mem_cons,List.not_mem_nil,or_false] at hjj;subst hjj;refine⟨_,rfl,rfl,fun K hK=>?_⟩
     go_wp2_with (go_at_call 31;refine (THc.out _ hDz).mono ?_;rintro e wg ⟨rfl,hCg⟩)
     skip
     have hDg:=hDz.trans (hCg.mono hDz.size)
     have vg:=vz.to hCg
     refine hK.out _ _ hDg ?_
     clear hK hH hCg hDz vz
     have hH:=hDg
     (refine fr_yes 8 (v:=?_) rfl (by kernel_rfl) rfl ?_ hH ?_;rotate_left;(focus ((intro W hW;obtain⟨⟨a0,a1,a2,b0,b1,b2⟩,k1,z0,x1,x2,y0,y1,y2⟩:=HX.out W (HB5.out.trans (hW.mono HB5.out.size));go_simp) <;> with_reducible rfl));simp only[Act.put,zY,zX,zQ]);(refine fr_yes 9 (v:=?_) rfl (by kernel_rfl) rfl ?_ hH ?_;rotate_left;(focus ((intro W hW;obtain⟨⟨a0,a1,a2,b0,b1,b2⟩,k1,z0,x1,x2,y0,y1,y2⟩:=HX.out W (HB5.out.trans (hW.mono HB5.out.size));go_simp) <;> with_reducible rfl));simp only[Act.put,zY,zX,zQ])
     have z0:=vg.cell (j:=0) rfl
     have z1:=vg.cell (j:=1) rfl
     have z2:=vg.cell (j:=2) rfl
     have f0:=vg.frozen 0
     have f1:=vg.frozen 1
     have f2:=vg.frozen 2
     refine fr_op [11] (by kernel_rfl) (by simp) ?_;intro jj hjj;simp only[List.mem_cons,List.not_mem_nil,or_false] at hjj;subst hjj;refine⟨_,rfl,rfl,fun K hK=>?_⟩
     go_wp2
     have hDe:=((hDg.setCell (p:=⟨wd.heap.size,0,none⟩) hDs (.int .i64 px)).setCell (p:=⟨wd.heap.size,1,none⟩) hDs (.int .i64 pt)).setCell (p:=⟨wd.heap.size,2,none⟩) hDs (.slice Ap fl cp)
     refine hK.out _ _ hDe ?_
     clear hK hH
     refine fr_done (by kernel_rfl) ?_
     go_wp2
     go_meet
     case rel=>exact⟨_,rfl,zZ (((vg.set 0 (.int .i64 px)).set 1 (.int .i64 pt)).set 2 (.slice Ap fl cp)),hDs,zZ hDe⟩
   case rest=>
   obtain⟨b8,rfl,P8,hb8,HBe⟩:=hcut
   rename World=>we
   have HBre:=zZ (HB5.out.trans (HBe.out.mono HB5.out.size))
   have P7e:=zZ (P75.out.to HBe.out)
   have hl78:b7<we.heap.size∧b8<we.heap.size∧b7≠b8:=by have h1:=P75.out.lt;have h2:=P8.out.lt;have h3:=P7e.out.lt;exact⟨h3,h2,by omega⟩
   have HL:=zZ hl78
   clear hl78 THc P75 HBc H5c HB5 HBe hb8
   obtain⟨fb,hfb⟩:∃ b,b=decide (fr<0):=⟨_,rfl⟩
   rw[← hfb] at Htk Hcase
   have Hfb:=zZ hfb
   clear hfb
   go_wp2
   go_loopw [19] (fun kv w'=>∃ (k:Nat) (vF:Value) (m:Nat) (ys:List Value),k≤fl∧kv=.int .i64 (k:Int)∧Hid (RowIn b7 2 50 66 4 [.int .i64 fr,.int .i64 pt,.slice none 0 0] we vF m ys w')∧Hid ((setK fb old now cv k).length=m)∧Hid (m≤k)∧Hid (Chunks 4 (fun cs x=>∀ S W,rCel S W cs x) ys (setK fb old now cv k))) (fun kv _=>fl - (intOf kv).toNat)
   case atStart=>exact⟨0,.slice none 0 0,0,[],by omega,rfl,zZ (RowIn.start P7e.out rfl),zZ rfl,zZ (zW _),zZ Chunks.nil⟩
   case round=>
    rename World=>wx
    obtain⟨k,vF,m,ys,hk',rfl,hI,hm,hmk,hcv⟩:=hrel
    have HBrx:=zZ (HBre.out.trans (hI.out.bel.mono hb7))
    obtain⟨AF2,cF2,hvF⟩:=own_slice3 hI.out.own
    subst hvF
    have P8x:Hid (Blk wx b8 53 [.int .i64 px,.int .i64 pt,.slice Ap fl cp]):=zZ ((hI.out.kept b8 HL.out.2.1 (fun e=>HL.out.2.2 e.symm)).trans P8.out)
    by_cases hkn:k<fl
    ·obtain⟨v,hv⟩:∃ v,cv[k]?=some v:=⟨_,zV (by have:=Hcf.out;omega)⟩
     obtain⟨u,hu⟩:∃ u,now[k]?=some u:=⟨_,zV (by have:=Hfl.out;omega)⟩
     obtain⟨bv,offv,sv,rfl,hbv,v0,v1,v2,hsv,hsm,hvn,hvb⟩:=val_at Hcv.out hv
     obtain⟨bu,offu,su,rfl,hbu,u0,u1,u2,hsu,-,-,-⟩:=val_at Hnv.out hu
     have hkl:(k:Int)<(fl:Int):=by omega
     have hk00:(0:Int)≤(k:Int):=by omega
     have hl7:w7.heap.size≤wr.heap.size:=H7r.out.size
     have hbv':bv<wr.heap.size:=by have:bv<w7.heap.size:=hbv;omega
     have hbu':bu<wr.heap.size:=hbu
     have HY:=zZ (fun (W:World) (hW:Below wx.heap.size wx W)=>And.intro ((hI.out.bx.to hW).cell (j:=0) rfl) (And.intro (((P8x.out.to hW).cell (j:=2) rfl)) (And.intro (((HBrx.out.trans (hW.mono HBrx.out.size)).cell (p:=⟨bu,offu+k * 3,none⟩) hbu').trans u0) (And.intro (((HBrx.out.trans (hW.mono HBrx.out.size)).cell (p:=⟨bu,offu+k * 3+1,none⟩) hbu').trans u1) (((HBrx.out.trans (hW.mono HBrx.out.size)).cell (p:=⟨bu,offu+k * 3+2,none⟩) hbu').trans u2)))))
     obtain⟨cB,hcB⟩:∃ b,b=!(!fb && decide (old[k]?=now[k]?)):=⟨_,rfl⟩
     have HcB:=zZ hcB
     have Hu:=zZ hu
     have Hv:=zZ hv
     have Hsu:=zZ hsu
     have Hsv:=zZ hsv
     have Hsm:=zZ hsm
     have Hvn:Hid ((Lit.int .i64 v.1).wf=true):=zZ (WalkArith.wf_i64 hvn)
     have Hvb:Hid ((Lit.int .i64 v.2.2).wf=true):=zZ (WalkArith.wf_i64 hvb)
     have Hkn:=zZ hkn
     have HZ:=zZ (fun (W:World) (hW:∀ q,q<we.heap.size→W.heap[q]?=wx.heap[q]?)=>And.intro ((World.cell?_of_block (a:=⟨b7,2,none⟩) (hW _ HL.out.1)).trans (hI.out.bx.cell (j:=2) rfl))
      (And.intro ((World.cell?_of_block (a:=⟨w6.heap.size,1,none⟩) (hW _ (by show w6.heap.size<_;have:=P11c.out.1;have:=hO.out.bel.size;have:=HBre.out.size;omega))).trans (HX.out wx HBrx.out).2.1) (And.intro ((World.cell?_of_block (a:=⟨bo,offo+i * 3+2,none⟩) (hW _ (by show bo<_;have:bo<w7.heap.size:=hbo;have:=HBre.out.size;omega))).trans (HX.out wx HBrx.out).2.2.2.2.1)
      (And.intro ((World.cell?_of_block (a:=⟨bv,offv+k * 3,none⟩) (hW _ (by show bv<_;have:=HBre.out.size;omega))).trans ((HBrx.out.cell (p:=⟨bv,offv+k * 3,none⟩) hbv').trans v0)) (And.intro ((World.cell?_of_block (a:=⟨bv,offv+k * 3+1,none⟩) (hW _ (by show bv<_;have:=HBre.out.size;omega))).trans ((HBrx.out.cell (p:=⟨bv,offv+k * 3+1,none⟩) hbv').trans v1)) ((World.cell?_of_block (a:=⟨bv,offv+k * 3+2,none⟩) (hW _ (by show bv<_;have:=HBre.out.size;omega))).trans ((HBrx.out.cell (p:=⟨bv,offv+k * 3+2,none⟩) hbv').trans v2)))))))
     clear hv hu v0 v1 v2 u0 u1 u2 hsv hsm hsu hvn hvb hl7 hbv' hcB hk' hkn
     have c8:=P8x.out.cell (j:=2) rfl
     go_upto_region 24 with fail
     clear c8
     go_cut [117] (fun vb wy=>vb=.bool cB∧Hid (Below wx.heap.size wx wy))
     case first=>
      rcases Hcase.out with hf | ⟨hf,I,ox,ot,hI1,hI2,hol⟩
      ·have hd0:decide (fr<0)=true:=by rw[← Hfb.out,hf]
       have hcB:cB=true:=by rw[HcB.out,hf];rfl
       subst hcB
       clear hf
       refine sch_start [(0,true),(1,true),(2,true),(3,true),(4,true),(5,true),(6,true),(7,true),(8,true),(9,true),(10,true),(11,true),(12,true),(13,true),(14,true),(15,true),(16,true),(17,true),(18,true),(19,true)] (fun W=>Below wx.heap.size wx W) (by kernel_rfl) rfl (by kernel_rfl) (fun _ _ _ _ _ h=>h) ((zA _ wx).drew) (fun hH=>?_)
       repeat (first | (refine sch_yes (v:=?_) rfl rfl ?_ hH ?_;rotate_left;(focus ((intro W hW;obtain⟨i0',n2,u0,u1,u2⟩:=HY.out W hW;go_simp) <;> with_reducible rfl));simp only[Act.put,zY,zX,zQ]) | (refine sch_no rfl rfl hH ?_;simp only[Act.put,zY,zX,zQ]))
       refine sch_done ?_
       go_wp2
       go_meet
       case rel=>exact⟨rfl,zZ hH⟩
      ·have hd0:decide (fr<0)=false:=by rw[← Hfb.out,hf]
       obtain⟨y,hy⟩:∃ y,old[k]?=some y:=⟨_,zV (by have:=Hkn.out;omega)⟩
       have hcB:cB=!decide (y=u):=by
        rw[HcB.out,hf,hy,Hu.out]
        by_cases e:y=u
        ·rw[zJ e,e];simp
        ·rw[zK e,zK (fun h=>e (Option.some.inj h))];rfl
       subst hcB
       obtain⟨bg,offg,Ag,cg,hBe,hbg,-,-,g2,hgv,-,-⟩:=ob_at (rGr_open (gr_below H1r.out Hg.out)).2.1 hI2
       simp only at g2 hgv
       rw[hol] at g2 hgv
       obtain⟨bw,offw,sw,rfl,hbw,t0,t1,t2,hsw,-,-,-⟩:=val_at hgv hy
       have HG:=zZ (fun (W:World) (hW:Below wx.heap.size wx W)=>And.intro (show W.cell? ⟨w.heap.size,1,none⟩=some (.slice (some ⟨bg,offg,none⟩) M d) from by rw[← hBe];exact (HX.out W (HBrx.out.trans (hW.mono HBrx.out.size))).1.2.1) (And.intro (((HBrx.out.trans (hW.mono HBrx.out.size)).cell (p:=⟨bg,offg+I * 3+2,none⟩) hbg).trans g2)
        (And.intro (((HBrx.out.trans (hW.mono HBrx.out.size)).cell (p:=⟨bw,offw+k * 3,none⟩) hbw).trans t0) (And.intro (((HBrx.out.trans (hW.mono HBrx.out.size)).cell (p:=⟨bw,offw+k * 3+1,none⟩) hbw).trans t1) (((HBrx.out.trans (hW.mono HBrx.out.size)).cell (p:=⟨bw,offw+k * 3+2,none⟩) hbw).trans t2)))))
       have hneq:∀ W,(binOp .neq 47 (.agg #[.int .i64 y.1,.string sw,.int .i64 y.2.2]) (.agg #[.int .i64 u.1,.string su,.int .i64 u.2.2])).run Tryz.prog W=.ok (.bool (!decide (y=u))) W:=fun W=>by
        rw[vl_neq,vl_is,hsw,Hsu.out]
       have hgd:=sval_guard
       have hIl:(I:Int)<(M:Int):=by have:=(List.getElem?_eq_some_iff.1 hI2).1;have:=(slice_len (rGr_open Hg.out).2.1).1;omega
       have hI0:(0:Int)≤(I:Int):=by omega
       have hov:ov=(I:Int):=hI1
       subst hov
       clear hf hI1 hI2 hol hy hBe g2 hgv t0 t1 t2 hsw hbg hbw Hu
       generalize (!decide (y=u))=eB at *
       refine sch_start [(0,true),(1,true),(2,true),(3,true),(4,true),(5,true),(6,true),(7,true),(8,true),(9,true),(10,true),(11,true),(12,true),(13,true),(14,true),(15,true),(16,true),(17,true),(18,true),(19,true)] (fun W=>Below wx.heap.size wx W) (by kernel_rfl) rfl (by kernel_rfl) (fun _ _ _ _ _ h=>h) ((zA _ wx).drew) (fun hH=>?_)
       repeat (first | (refine sch_yes (v:=?_) rfl rfl ?_ hH ?_;rotate_left;(focus ((intro W hW;obtain⟨i0',n2,u0,u1,u2⟩:=HY.out W hW;obtain⟨a1,g2,t0,t1,t2⟩:=HG.out W hW;go_simp) <;> with_reducible rfl));simp only[Act.put,zY,zX,zQ]) | (refine sch_no rfl rfl hH ?_;simp only[Act.put,zY,zX,zQ]))
       refine sch_done ?_
       go_wp2
       go_meet
       case rel=>exact⟨rfl,zZ hH⟩
     case rest=>
     obtain⟨rfl,HDy⟩:=hcut
     rename World=>wy
     cases cB
     ·have Hlen:Hid ((setK fb old now cv (k+1)).length=m):=zZ (by rw[setK_skip HcB.out.symm];exact hm.out)
      have Hch:Hid (Chunks 4 (fun cs x=>∀ S W,rCel S W cs x) ys (setK fb old now cv (k+1))):=zZ (by rw[setK_skip HcB.out.symm];exact hcv.out)
      have HIy:=zZ (hI.out.more HL.out.1 HDy.out)
      have Hmk:Hid (m≤k+1):=zZ (by have:=hmk.out;omega)
      go_wp2
      go_roundw
      case rel=>exact⟨k+1,_,m,ys,Hkn.out,by go_num,HIy,Hlen,Hmk,Hch⟩
      case measure=>have:=Hkn.out;simp[intOf];omega
     ·have Hlen:Hid ((setK fb old now cv (k+1)).length=m+1):=zZ (by rw[setK_go Hv.out HcB.out.symm,List.length_append,hm.out];rfl)
      have Hcel:=zZ (fun S W=>rCel_mk (S:=S) (w:=W) (x:=((k:Int),v)) (WalkArith.wf_i64 ⟨by show -9223372036854775808≤(k:Int);omega,by show (k:Int)≤9223372036854775807;omega⟩) Hsv.out Hsm.out Hvn.out Hvb.out)
      have Hch:Hid (Chunks 4 (fun cs x=>∀ S W,rCel S W cs x) (ys++[.int .i64 (k:Int),.int .i64 v.1,.string sv,.int .i64 v.2.2]) (setK fb old now cv (k+1))):=zZ (by rw[setK_go Hv.out HcB.out.symm];exact hcv.out.append (Chunks.one rfl fun S W=>Hcel.out S W))
      have Hmk:Hid (m+1≤k+1):=zZ (by have:=hmk.out;omega)
      have hm5:m≤5:=by have:=hmk.out;have:=Hkn.out;omega
      have hD0:Below wx.heap.size wx wy.drew:=HDy.out.drew
      have HD0:=zZ hD0
      have HS0:=zZ (HZ.out _ (fun q hq=>hD0.block q (by have:=hI.out.bel.size;omega)))
      have t1:m+1≤maxLen:=by simp only[maxLen];omega
      have t2:(m+1) * 40≤140737488355328:=by omega
      clear hD0 hm5
      go_wp2
      refine scl_start 16 [(0,true),(1,true),(2,true),(3,true),(4,true),(5,true),(6,true),(7,true),(8,true),(9,true),(10,true),(11,true),(12,true),(13,false),(14,false),(15,true),(16,false)]
       (fun W=>W.cell? ⟨b7,2,none⟩=some (.slice AF2 m cF2)∧W.cell? ⟨w6.heap.size,1,none⟩=some (.slice (some ⟨bo,offo,none⟩) M5 d5)∧W.cell? ⟨bo,offo+i * 3+2,none⟩=some (.slice (some ⟨bv,offv,none⟩) fl co)∧W.cell? ⟨bv,offv+k * 3,none⟩=some (.int .i64 v.1)∧W.cell? ⟨bv,offv+k * 3+1,none⟩=some (.string sv)∧W.cell? ⟨bv,offv+k * 3+2,none⟩=some (.int .i64 v.2.2)) (by kernel_rfl) rfl (by kernel_rfl) (fun _ _ _ _ _ h=>h) HS0.out (fun hH=>?_)
      repeat (first | (refine scl_yes (v:=?_) rfl rfl ?_ hH ?_;rotate_left;(focus ((rintro W ⟨hW1,hW2,hW3,hW4,hW5,hW6⟩;go_simp) <;> with_reducible rfl));simp only[Act.put,zY,zX,zQ]) | (refine scl_no rfl rfl hH ?_;simp only[Act.put,zY,zX,zQ]))
      refine scl_call rfl rfl (fun K' hK'=>?_)
      go_wp2
      have hQ1:Below wx.heap.size wx (wy.drew.alloc (.cells #[.int .i64 (k:Int),.int .i64 v.1,.string sv,.int .i64 v.2.2] 66)):=HD0.out.alloc HD0.out.size _
      have hH1:=HZ.out _ (fun q hq=>hQ1.block q (by have:=hI.out.bel.size;omega))
      refine hK'.out _ _ (fun _=>hH1) ?_
      clear hK' hH
      have hH:=hH1
      clear hH1
      have t3:we.heap.size≤(wy.drew.alloc (.cells #[.int .i64 (k:Int),.int .i64 v.1,.string sv,.int .i64 v.2.2] 66)).heap.size:=by have:=hQ1.size;have:=hI.out.bel.size;omega
      have t4:Rd (wy.drew.alloc (.cells #[.int .i64 (k:Int),.int .i64 v.1,.string sv,.int .i64 v.2.2] 66)) (some ⟨wy.heap.size,0,none⟩) [.int .i64 (k:Int),.int .i64 v.1,.string sv,.int .i64 v.2.2]:=(Blk.new wy.drew 66 [.int .i64 (k:Int),.int .i64 v.1,.string sv,.int .i64 v.2.2]).rd
      have t5:=(own_below hI.out.own HD0.out).alloc (.cells #[.int .i64 (k:Int),.int .i64 v.1,.string sv,.int .i64 v.2.2] 66)
      refine scl_call rfl rfl (fun K' hK'=>?_)
      refine wp_apps (.tmp 119) (.tmp 131) 48 rfl we.heap.size 66 j0 (.agg #[.int .i64 0,.int .i64 0,.string ⟨#[]⟩,.int .i64 0]) 4 40 Tryz.underlying48 hj hy0 hy1 hy2 rfl (by omega) (.slice AF2 m cF2) m ys rfl t5 (some ⟨wy.heap.size,0,none⟩) 1 1 [.int .i64 (k:Int),.int .i64 v.1,.string sv,.int .i64 v.2.2] rfl rfl t4 (by simp[Value.oneCell']) t1 t2 t3 ?_
      intro v4 w4 hown4 hg4 hv4
      obtain⟨bx4,hR4⟩:=hI.out.step (wq:=wy.drew) HL.out.1 HD0.out hg4 hown4
      have S4:=HZ.out w4 (fun q hq=>by
       have s1:=hI.out.bel.size
       exact (hg4.block q (Nat.lt_of_lt_of_le (show q<wx.heap.size by omega) hQ1.size) (fun e=>by have:=(hI.out.own.lt q e.symm).1;omega)).trans (hQ1.block q (by omega)))
      obtain⟨A4',c4',rfl⟩:=own_slice3 hown4
      have e4:=bx4.cell (j:=2) rfl
      have f4:=bx4.frozen 2
      have HR4:=zZ hR4
      clear hR4 hown4 hg4 hv4 bx4 hQ1 t1 t2 t3 t4 t5
      refine hK'.out _ _ (fun _=>S4) ?_
      clear hK' hH
      have hH:=S4
      clear S4
      repeat (first | (refine scl_yes (v:=?_) rfl rfl ?_ hH ?_;rotate_left;(focus ((rintro W ⟨hW1,hW2,hW3,hW4,hW5,hW6⟩;go_simp) <;> with_reducible rfl));simp only[Act.put,zY,zX,zQ]) | (refine scl_no rfl rfl hH ?_;simp only[Act.put,zY,zX,zQ]))
      refine scl_call rfl rfl (fun K' hK'=>?_)
      go_wp2
      refine hK'.out _ _ (fun h=>absurd rfl h) ?_
      clear hK' hH
      refine scl_done ?_
      go_wp2
      go_roundw
      case rel=>exact⟨k+1,_,m+1,_,Hkn.out,by go_num,HR4,Hlen,Hmk,Hch⟩
      case measure=>have:=Hkn.out;simp[intOf];omega
    ·have hkf:k=fl:=by omega
     rw[hkf] at hcv hm
     have hkl:¬ ((k:Int)<(fl:Int)):=by omega
     have c8:=P8x.out.cell (j:=2) rfl
     have q0:=hI.out.bx.cell (j:=0) rfl
     have q1:=hI.out.bx.cell (j:=1) rfl
     have q2:=hI.out.bx.cell (j:=2) rfl
     have Hval:Hid (rItm (fun b=>wr.heap.size≤b∧b<wx.heap.size) wx [.int .i64 fr,.int .i64 pt,.slice AF2 m cF2] (fr,pt,setK fb old now cv fl)):=zZ (rItm_mk (x:=(fr,pt,setK fb old now cv fl)) Hfw.out Hptw.out (rCels_stays.to (Keeps.mono fun b hb=>⟨by have:=hb.1;have:=HBre.out.size;omega,hb.2⟩) (cels_own hI.out.own hm.out hcv.out)))
     have hIz:=hO.out.more hbl HBrx.out
     have d2':=hIz.bx.cell (j:=2) rfl
     have t1:i+1≤maxLen:=by have:=Hin.out;simp only[maxLen];omega
     have t2:(i+1) * 40≤140737488355328:=by have:=Hin.out;omega
     have t3:w10.heap.size≤(wx.alloc (.cells #[.int .i64 fr,.int .i64 pt,.slice AF2 m cF2] 50)).heap.size:=by simp only[World.size_alloc];have:=HBrx.out.size;have:=hO.out.bel.size;omega
     have t4:=(Blk.new wx 50 [.int .i64 fr,.int .i64 pt,.slice AF2 m cF2]).rd
     have t5:=hIz.own.alloc (.cells #[.int .i64 fr,.int .i64 pt,.slice AF2 m cF2] 50)
     clear hkf hk' hkn hIz hcv hm hI
     go_wp2_with (first
      | (at_builtin;refine wpList_apps rfl (.tmp 135) (.tmp 137) 30 rfl w10.heap.size 50 i0 (.agg #[.int .i64 0,.int .i64 0,.slice none 0 0]) 3 40 Tryz.underlying30 hi hz0 hz1 hz2 rfl (by omega) (.slice AV i cV) i xs rfl t5 (some ⟨wx.heap.size,0,none⟩) 1 1 [.int .i64 fr,.int .i64 pt,.slice AF2 m cF2] rfl rfl t4 (by simp[Value.oneCell']) t1 t2 t3 ?_;intro v4 w4 hown4 hg4 hv4;obtain⟨bx4,hR4⟩:=hO.out.step hbl HBrx.out hg4 hown4;have HC4:=zZ (hO.out.els rItm_stays hbl hch.out HBrx.out Hval.out rfl hg4 hv4);obtain⟨A4,c4,rfl⟩:=own_slice3 hown4;have e4:=bx4.cell (j:=2) rfl;have f4:=bx4.frozen 2;have HR4:=zZ hR4;clear hR4 hown4 hg4 hv4 bx4)
      | fail)
     go_roundw
     case rel=>exact⟨i+1,_,_,by have:=Hin.out;omega,by go_num,HR4,zZ (by rw[Htk.out];exact HC4.out)⟩
     case measure=>have:=Hin.out;simp[intOf];omega
  ·have hin':i=n:=by omega
   have htk:((ordG h).mapIdx (itemD g h)).take i=(ordG h).mapIdx (itemD g h):=List.take_of_length_le (by rw[List.length_mapIdx,Hn.out];omega)
   rw[htk] at hch
   rw[hin'] at hO hch
   have hil:¬ ((i:Int)<(n:Int)):=by omega
   have HlI:Hid (((ordG h).mapIdx (itemD g h)).length=n):=zZ (by rw[List.length_mapIdx,Hn.out])
   have eb0:=hO.out.bx.cell (j:=0) rfl
   have eb1:=hO.out.bx.cell (j:=1) rfl
   have eb2:=hO.out.bx.cell (j:=2) rfl
   have Hids:=zZ (ids_avoid (HP2.out _ H7.out) (rGr_open HG7.out).2.2)
   have hq2:=HP2.out _ H1r.out
   have u0:=hq2.cell (j:=0) rfl
   have u1:=hq2.cell (j:=1) rfl
   have u2:=hq2.cell (j:=2) rfl
   have z0:=hq2.frozen 0
   have z1:=hq2.frozen 1
   have z2:=hq2.frozen 2
   have QQ:=zZ hq2
   clear hin' htk hq2 hin hi' hbl
   go_wp2
   have P99:=((QQ.out.set 0 (.int .u32 sm)).set 1 (.slice C5 K5 e5)).set 2 (.slice AV n cV)
   refine ret_cell1 (d:=.struct _) (cs:=[.int .u32 sm,.slice C5 K5 e5,.slice AV n cV]) rfl P99 rfl rfl rfl rfl rfl ?_
   rw[HD.out,HE.out]
   simp only
   rw[HK5.out,HlI.out]
   have s1:=S1.out
   have s10:=H10.out.size
   have hkp:∀ k,k≠w.heap.size+2→(((wr.setCell ⟨w.heap.size+2,0,none⟩ (.int .u32 sm)).setCell ⟨w.heap.size+2,1,none⟩ (.slice C5 K5 e5)).setCell ⟨w.heap.size+2,2,none⟩ (.slice AV n cV)).heap[k]?=wr.heap[k]?:=fun k hk=>by
    rw[Below.heap_setCell _ _ _ _ hk,Below.heap_setCell _ _ _ _ hk,Below.heap_setCell _ _ _ _ hk]
   have hid9:rIds (All (((wr.setCell ⟨w.heap.size+2,0,none⟩ (.int .u32 sm)).setCell ⟨w.heap.size+2,1,none⟩ (.slice C5 K5 e5)).setCell ⟨w.heap.size+2,2,none⟩ (.slice AV n cV))) (((wr.setCell ⟨w.heap.size+2,0,none⟩ (.int .u32 sm)).setCell ⟨w.heap.size+2,1,none⟩ (.slice C5 K5 e5)).setCell ⟨w.heap.size+2,2,none⟩ (.slice AV n cV)) [.slice C5 K5 e5] (canonG h).2.2:=by
    refine rIds_stays.to (fun k hk=>?_) Hids.out
    have h1:k<w7.heap.size:=hk.1
    refine⟨by simp only[All,World.size_setCell];have:=H7r.out.size;omega,?_⟩
    rw[hkp k hk.2,H7r.out.block k h1]
   have hit9:rItms (All (((wr.setCell ⟨w.heap.size+2,0,none⟩ (.int .u32 sm)).setCell ⟨w.heap.size+2,1,none⟩ (.slice C5 K5 e5)).setCell ⟨w.heap.size+2,2,none⟩ (.slice AV n cV))) (((wr.setCell ⟨w.heap.size+2,0,none⟩ (.int .u32 sm)).setCell ⟨w.heap.size+2,1,none⟩ (.slice C5 K5 e5)).setCell ⟨w.heap.size+2,2,none⟩ (.slice AV n cV)) [.slice AV n cV] ((ordG h).mapIdx (itemD g h)):=
    own_rSlice rItm_stays (own_keep hO.out.own fun k a1 a2=>hkp k (by omega)) HlI.out (hch.out.imp fun cs o hq=>rItm_stays.to (fun k hk=>⟨⟨by simp only[World.size_setCell];exact hk.2.1,hk.2.2⟩,hkp k (by have:=hk.1;omega)⟩) hq)
   refine⟨C5,e5,AV,cV,rfl,rDlt_mk (x:=(sm,(canonG h).2.2,(ordG h).mapIdx (itemD g h))) Hsw.out hid9 hit9,?_⟩
   exact (((HB0.out.trans (H1r.out.mono HB0.out.size)).setCell (p:=⟨w.heap.size+2,0,none⟩) (by simp) (.int .u32 sm)).setCell (p:=⟨w.heap.size+2,1,none⟩) (by simp) (.slice C5 K5 e5)).setCell (p:=⟨w.heap.size+2,2,none⟩) (by simp) (.slice AV n cV)
end Go.Proofs.YtnljjnkindjeoaaGreatDoor
