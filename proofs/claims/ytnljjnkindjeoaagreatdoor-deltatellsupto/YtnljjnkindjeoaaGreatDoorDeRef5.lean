/- The contract of the document's own Apply (layer 11). Conditions: short names; at most 1000000 items and roots. -/
import Derived.Test.YtnljjnkindjeoaaGreatDoorDeRef4
import Derived.Test.YtnljjnkindjeoaaGreatDoorDeApply
import Derived.Test.YtnljjnkindjeoaaGreatDoorGCoRef
import Derived.Test.YtnljjnkindjeoaaGreatDoorGRef
import Derived.Test.YtnljjnkindjeoaaGreatDoorGCode
import Derived.Test.YtnljjnkindjeoaaGreatDoorAl
set_option maxRecDepth 100000
set_option maxHeartbeats 8000000
namespace Go.Proofs.YtnljjnkindjeoaaGreatDoor
open Go.RowKit
theorem objsD_more {c:Gr} {l ls:List Itm} {i:Nat} {x:Itm} {o:Ob} {objs:List Ob} (hx:ls[i]?=some x) (h:objsD c l 0 ls=(objsD c l i (ls.drop i)).map (objs++·)) (ho:objD c l i x=some o):objsD c l 0 ls=(objsD c l (i+1) (ls.drop (i+1))).map ((objs++[o])++·):=by
 obtain⟨hk,rfl⟩:=List.getElem?_eq_some_iff.1 hx
 rw[h,List.drop_eq_getElem_cons hk,objsD,ho,Option.bind_some,Option.map_map]
 congr 1
 funext y
 simp
theorem objsD_stop {c:Gr} {l ls:List Itm} {i:Nat} {x:Itm} {objs:List Ob} (hx:ls[i]?=some x) (h:objsD c l 0 ls=(objsD c l i (ls.drop i)).map (objs++·)) (ho:objD c l i x=none):objsD c l 0 ls=none:=by
 obtain⟨hk,rfl⟩:=List.getElem?_eq_some_iff.1 hx
 rw[h,List.drop_eq_getElem_cons hk,objsD,ho]
 rfl
theorem rdapply_any (A B C:Option Addr) (N c M d K e:Nat) (g:Gr) (R L:Option Addr) (rn rc ln lc:Nat) (q:Dlt) (w:World) (htame:tameS g.1) (h:rGr (All w) w [.slice A N c,.slice B M d,.slice C K e] g) (hq:rDlt (All w) w [.int .u32 q.1,.slice R rn rc,.slice L ln lc] q) (hln:ln≤1000000) (hrn:rn≤1000000):
  Calls Tryz.prog 10 #[.agg #[.slice A N c,.slice B M d,.slice C K e],.agg #[.int .u32 q.1,.slice R rn rc,.slice L ln lc]] w fun r w'=>∃ A1 c1 B1 d1 C1 e1,r=.returned (.tuple #[.agg #[.slice A1 (applyD g q).1.1.length c1,.slice B1 (applyD g q).1.2.1.length d1,.slice C1 (applyD g q).1.2.2.length e1],.int .i64 (applyD g q).2]) ∧
   rGr (All w') w' [.slice A1 (applyD g q).1.1.length c1,.slice B1 (applyD g q).1.2.1.length d1,.slice C1 (applyD g q).1.2.2.length e1] (applyD g q).1∧Below w.heap.size w w':=by
 obtain⟨i0,hi,hz0,hz1,hz2⟩:=info_parts info_obs
 obtain⟨j0,hj,hy0,hy1,hy2⟩:=info_parts info_int
 obtain⟨hrl,hrc,hrm⟩:=slice_len (rDlt_open hq).2.2.1
 obtain⟨hll,-,-⟩:=slice_len (rDlt_open hq).2.2.2
 simp only[maxLen] at hrm
 have hB0:Below w.heap.size w (((w.alloc (.cells #[.slice A N c,.slice B M d,.slice C K e] 28)).alloc (.cells #[.int .u32 q.1,.slice R rn rc,.slice L ln lc] 32)).alloc (.cells #[.slice none 0 0,.slice none 0 0,.slice none 0 0] 28)):=(((zA _ w).alloc (zW _) _).alloc (by simp) _).alloc (by simp;omega) _
 obtain⟨p0,p1,p2⟩:=blk_three w 28 32 28 [.slice A N c,.slice B M d,.slice C K e] [.int .u32 q.1,.slice R rn rc,.slice L ln lc] [.slice none 0 0,.slice none 0 0,.slice none 0 0]
 have T1:=zZ (rcsum_any A B C N c M d K e g _ htame (gr_below hB0 h))
 have Hg:=zZ (gr_below hB0 h)
 have Hqq:=zZ (dlt_below hB0 hq)
 have HB0:=zZ hB0
 have P0:=zZ p0
 have P1:=zZ p1
 have P2:=zZ p2
 have c0:=p0.cell (j:=0) rfl
 have c1:=p0.cell (j:=1) rfl
 have c2:=p0.cell (j:=2) rfl
 have Hap:Hid (applyD g q=if codeE g≠0 then (([],[],[]),codeE g) else if (codeS g:Int)≠q.1 then (([],[],[]),7)
  else match objsD (canonG g) q.2.2 0 q.2.2 with
   | none=>(([],[],[]),2)
   | some l=>if mayG (g.1,l,q.2.1)=true∧canonG (g.1,l,q.2.1)=(g.1,l,q.2.1) then ((g.1,l,q.2.1),0) else (([],[],[]),2)):=zZ rfl
 have Hcm:Hid (codeE g=0→mayG (canonG g)=true):=zZ fun e=>canon_may (codeE_may e)
 have Htame:=zZ htame
 have Hll:=zZ hll
 have Hrl:=zZ hrl
 clear h hq hB0 p0 p1 p2 htame hll hrl
 generalize hu:q.1=u at *
 have Hu:=zZ hu
 clear hu
 go_enter Tryz.func10,Tryz.ntmps10
 go_wp2_with fail
 generalize ((w.alloc (.cells #[.slice A N c,.slice B M d,.slice C K e] 28)).alloc (.cells #[.int .u32 u,.slice R rn rc,.slice L ln lc] 32)).alloc (.cells #[.slice none 0 0,.slice none 0 0,.slice none 0 0] 28)=w1 at *
 refine T1.out.mono ?_
 rintro e w2 ⟨rfl,hB2⟩
 have H12:=zZ hB2
 have H2:=zZ (HB0.out.trans (hB2.mono HB0.out.size))
 clear hB2 T1 c0 c1 c2
 have r2:=P2.out.to H12.out
 have y0:=r2.cell (j:=0) rfl
 have y1:=r2.cell (j:=1) rfl
 have y2:=r2.cell (j:=2) rfl
 have g0:=r2.frozen 0
 have g1:=r2.frozen 1
 have g2:=r2.frozen 2
 by_cases he:codeE g=0
 rotate_left
 ·have he':(codeE g != 0)=true:=by simp[he]
  have Hq:Hid (applyD g q=(([],[],[]),codeE g)):=zZ (by rw[Hap.out,if_pos he])
  clear he Hap Hcm
  generalize codeE g=er at *
  go_wp2
  have P9:=((r2.set 0 (.slice none 0 0)).set 1 (.slice none 0 0)).set 2 (.slice none 0 0)
  refine ret_cell1 (d:=.struct _) (cs:=[.slice none 0 0,.slice none 0 0,.slice none 0 0]) rfl P9 rfl rfl rfl rfl rfl ?_
  rw[Hq.out]
  refine⟨none,0,none,0,none,0,rfl,rGr_none _,?_⟩
  exact ((H2.out.setCell (p:=⟨w.heap.size+2,0,none⟩) (by simp) (.slice none 0 0)).setCell (p:=⟨w.heap.size+2,1,none⟩) (by simp) (.slice none 0 0)).setCell (p:=⟨w.heap.size+2,2,none⟩) (by simp) (.slice none 0 0)
 have hcm:=Hcm.out he
 have he':(codeE g != 0)=false:=by simp[he]
 rw[if_neg (by simpa using he)] at Hap
 clear he Hcm
 generalize codeE g=er at *
 have d0:=(P1.out.to H12.out).cell (j:=0) rfl
 by_cases hs:(codeS g:Int)=u
 rotate_left
 ·have hs':((codeS g:Int) != u)=true:=by simp[hs]
  have Hq:Hid (applyD g q=(([],[],[]),7)):=zZ (by rw[Hap.out,if_pos hs])
  clear hs Hap
  generalize (codeS g:Int)=sm at *
  go_wp2
  have P9:=((r2.set 0 (.slice none 0 0)).set 1 (.slice none 0 0)).set 2 (.slice none 0 0)
  refine ret_cell1 (d:=.struct _) (cs:=[.slice none 0 0,.slice none 0 0,.slice none 0 0]) rfl P9 rfl rfl rfl rfl rfl ?_
  rw[Hq.out]
  refine⟨none,0,none,0,none,0,rfl,rGr_none _,?_⟩
  exact ((H2.out.setCell (p:=⟨w.heap.size+2,0,none⟩) (by simp) (.slice none 0 0)).setCell (p:=⟨w.heap.size+2,1,none⟩) (by simp) (.slice none 0 0)).setCell (p:=⟨w.heap.size+2,2,none⟩) (by simp) (.slice none 0 0)
 have hs':((codeS g:Int) != u)=false:=by simp[hs]
 rw[if_neg (by simpa using hs)] at Hap
 clear hs r2 y0 y1 y2 g0 g1 g2
 generalize (codeS g:Int)=sm at *
 have HS:=zZ (fun (W:World) (hW:Below w2.heap.size w2 W)=>And.intro ((P0.out.to (H12.out.trans (hW.mono H12.out.size))).cell (j:=0) rfl) (And.intro ((P0.out.to (H12.out.trans (hW.mono H12.out.size))).cell (j:=1) rfl) (And.intro ((P0.out.to (H12.out.trans (hW.mono H12.out.size))).cell (j:=2) rfl)
  (And.intro ((P1.out.to (H12.out.trans (hW.mono H12.out.size))).cell (j:=0) rfl) (And.intro ((P1.out.to (H12.out.trans (hW.mono H12.out.size))).cell (j:=1) rfl) ((P1.out.to (H12.out.trans (hW.mono H12.out.size))).cell (j:=2) rfl))))))
 have HP2:=zZ (fun (W:World) (hW:Below w2.heap.size w2 W)=>P2.out.to (H12.out.trans (hW.mono H12.out.size)))
 have S2:Hid (w.heap.size+3≤w2.heap.size):=zZ (by have:=H12.out.size;have:=P2.out.lt;omega)
 have HG2:=zZ (gr_below H12.out Hg.out)
 have HQ2:=zZ (dlt_below H12.out Hqq.out)
 have R2:=zZ (P2.out.to H12.out)
 clear Hg Hqq H12 P0 P1 P2 HB0
 clear d0
 obtain⟨a0,a1,a2,s0,s1,s2⟩:=HS.out w2 (zA _ _)
 have T2:=zZ (rcanon_any A B C N c M d K e g w2 HG2.out Htame.out)
 have Hcm2:=zZ hcm
 clear hcm
 go_wp2_with fail
 refine T2.out.mono ?_
 rintro e' w3 ⟨A2,c2,B2,d2,C2,e2,rfl,hg3,hB3⟩
 have hB4:Below w3.heap.size w3 (w3.alloc (.cells #[.slice A2 (canonG g).1.length c2,.slice B2 (canonG g).2.1.length d2,.slice C2 (canonG g).2.2.length e2] 28)):=(zA _ w3).alloc (zW _) _
 have P8:=zZ (Blk.new w3 28 [.slice A2 (canonG g).1.length c2,.slice B2 (canonG g).2.1.length d2,.slice C2 (canonG g).2.2.length e2])
 have H24:=zZ (hB3.trans (hB4.mono hB3.size))
 have HG4:=zZ (gr_below hB4 hg3)
 have S4:Hid ((w3.alloc (.cells #[.slice A2 (canonG g).1.length c2,.slice B2 (canonG g).2.1.length d2,.slice C2 (canonG g).2.2.length e2] 28)).heap.size=w3.heap.size+1):=zZ (by simp)
 have S3:=zZ hB3.size
 clear hB3 hB4 hg3 T2 a0 a1 a2 s0 s1 s2
 go_upto_region 7 with fail
 generalize w3.alloc (.cells #[.slice A2 (canonG g).1.length c2,.slice B2 (canonG g).2.1.length d2,.slice C2 (canonG g).2.2.length e2] 28)=w4 at *
 have HS4:=zZ (fun W (hW:Below w4.heap.size w4 W)=>HS.out W (H24.out.trans (hW.mono H24.out.size)))
 have Hrd:=zZ (fun W (hW:Below w4.heap.size w4 W)=>(ids_rd (ids_below (H24.out.trans (hW.mono H24.out.size)) (rDlt_open HQ2.out).2.2.1)).1)
 have Hwf:=zZ (ids_rd (rDlt_open HQ2.out).2.2.1).2
 go_cut [9] (fun v9 wy=>∃ (b9:Nat) (Cr:Option Addr) (ec:Nat),v9=.pointer (some ⟨b9,0,none⟩)∧Hid (Blk wy b9 28 [.slice A N c,.slice none 0 0,.slice Cr rn ec])∧w4.heap.size≤b9∧Hid (rIds (fun k=>w4.heap.size≤k∧k<wy.heap.size∧k≠b9) wy [.slice Cr rn ec] q.2.1)∧Hid (Below w4.heap.size w4 wy))
 case first=>
  refine fr_start (fun W=>Below w4.heap.size w4 W) 8 (by kernel_rfl) rfl (fun _ _ _ _ _ h=>h) (zA _ w4).drew (fun hH=>?_)
  have hDs:w4.heap.size≤w4.drew.heap.size:=hH.size
  generalize w4.drew=wd at *
  (refine fr_yes 0 (v:=?_) rfl (by kernel_rfl) rfl ?_ hH ?_;rotate_left;(focus ((intro W hW;obtain⟨a0,a1,a2,s0,s1,s2⟩:=HS4.out W hW;go_simp) <;> with_reducible rfl));simp only[Act.put,zY,zX,zQ]);(refine fr_yes 1 (v:=?_) rfl (by kernel_rfl) rfl ?_ hH ?_;rotate_left;(focus ((intro W hW;obtain⟨a0,a1,a2,s0,s1,s2⟩:=HS4.out W hW;go_simp) <;> with_reducible rfl));simp only[Act.put,zY,zX,zQ]);(refine fr_yes 2 (v:=?_) rfl (by kernel_rfl) rfl ?_ hH ?_;rotate_left;(focus ((intro W hW;obtain⟨a0,a1,a2,s0,s1,s2⟩:=HS4.out W hW;go_simp) <;> with_reducible rfl));simp only[Act.put,zY,zX,zQ]);(refine fr_yes 3 (v:=?_) rfl (by kernel_rfl) rfl ?_ hH ?_;rotate_left;(focus ((intro W hW;obtain⟨a0,a1,a2,s0,s1,s2⟩:=HS4.out W hW;go_simp) <;> with_reducible rfl));simp only[Act.put,zY,zX,zQ])
  refine fr_op [4,6] (by kernel_rfl) (by simp) ?_;intro jj hjj;simp only[List.mem_cons,List.not_mem_nil,or_false] at hjj;rcases hjj with rfl | rfl
  ·refine⟨_,rfl,rfl,fun K hK=>?_⟩
   refine wp_app (.const (.slice none 0 0)) (.tmp 34) 26 rfl wd.heap.size 3 j0 (.int .i64 0) 8 Tryz.underlying26 hj hy0 hy1 hy2 rfl _ (0) ([]) rfl (World.ownsRow_nil _ _ _ _) R rn rc (ints q.2.1) rfl (by rw[ints_length];exact Hrl.out) (Hrd.out _ hH) (ints_one _) (by simp only[maxLen];omega) (by omega) (zW _) ?_
   intro v5 w5 hown5 hg5 _
   simp only[Nat.zero_add,List.nil_append] at hown5
   have hB5:Below wd.heap.size wd w5:=(zA _ wd).grown hg5 (zW _) (fun k hk=>by cases hk)
   have hD5:=hH.trans (hB5.mono hH.size)
   obtain⟨Cr,ec,hv5⟩:=own_slice3 hown5
   subst hv5
   have HV5:=zZ (ids_own hown5 Hrl.out Hwf.out)
   refine hK.out _ _ hD5 ?_
   clear hK hH hown5 hg5 hB5
   have hH:=hD5
   (refine fr_yes 5 (v:=?_) rfl (by kernel_rfl) rfl ?_ hH ?_;rotate_left;(focus ((intro W hW;go_simp) <;> with_reducible rfl));simp only[Act.put,zY,zX,zQ])
   refine fr_op [6] (by kernel_rfl) (by simp) ?_;intro jj hjj;simp only[List.mem_cons,List.not_mem_nil,or_false] at hjj;subst hjj;refine⟨_,rfl,rfl,fun K hK=>?_⟩
   go_wp2
   refine hK.out _ _ (hD5.alloc hD5.size (.cells #[.slice none 0 0,.slice none 0 0,.slice none 0 0] 28)) ?_
   clear hK hH
   refine fr_op [7] (by kernel_rfl) (by simp) ?_;intro jj hjj;simp only[List.mem_cons,List.not_mem_nil,or_false] at hjj;subst hjj;refine⟨_,rfl,rfl,fun K hK=>?_⟩
   go_wp2
   have hDe:=hD5.alloc hD5.size (.cells #[.slice A N c,.slice none 0 0,.slice Cr rn ec] 28)
   refine hK.out _ _ hDe ?_
   clear hK
   refine fr_done (by kernel_rfl) ?_
   go_wp2
   go_meet
   case rel=>exact⟨_,Cr,ec,rfl,zZ (Blk.new _ _ [.slice A N c,.slice none 0 0,.slice Cr rn ec]),hD5.size,zZ (rIds_stays.to (fun k hk=>⟨⟨by have:=hk.1;omega,by have:=hk.2;simp only[World.size_alloc];omega,by have:=hk.2;omega⟩,Below.heap_alloc _ _ _ hk.2⟩) HV5.out),zZ hDe⟩
  ·refine⟨_,rfl,rfl,fun K hK=>?_⟩
   go_wp2
   have hDz:=hH.alloc hH.size (.cells #[.slice none 0 0,.slice none 0 0,.slice none 0 0] 28)
   have vz:=Blk.new wd 28 [.slice none 0 0,.slice none 0 0,.slice none 0 0]
   have szd:(wd.alloc (.cells #[.slice none 0 0,.slice none 0 0,.slice none 0 0] 28)).heap.size=wd.heap.size+1:=by simp
   refine hK.out _ _ hDz ?_
   clear hK hH
   have hH:=hDz
   generalize wd.alloc (.cells #[.slice none 0 0,.slice none 0 0,.slice none 0 0] 28)=wz at *
   refine fr_op [4] (by kernel_rfl) (by simp) ?_;intro jj hjj;simp only[List.mem_cons,List.not_mem_nil,or_false] at hjj;subst hjj;refine⟨_,rfl,rfl,fun K hK=>?_⟩
   refine wp_app (.const (.slice none 0 0)) (.tmp 34) 26 rfl wz.heap.size 3 j0 (.int .i64 0) 8 Tryz.underlying26 hj hy0 hy1 hy2 rfl _ (0) ([]) rfl (World.ownsRow_nil _ _ _ _) R rn rc (ints q.2.1) rfl (by rw[ints_length];exact Hrl.out) (Hrd.out _ hDz) (ints_one _) (by simp only[maxLen];omega) (by omega) (zW _) ?_
   intro v5 w5 hown5 hg5 _
   simp only[Nat.zero_add,List.nil_append] at hown5
   have hB5:Below wz.heap.size wz w5:=(zA _ wz).grown hg5 (zW _) (fun k hk=>by cases hk)
   have hD5:=hDz.trans (hB5.mono hDz.size)
   obtain⟨Cr,ec,hv5⟩:=own_slice3 hown5
   subst hv5
   have HV5:=zZ (ids_own hown5 Hrl.out Hwf.out)
   have vg:=vz.to hB5
   refine hK.out _ _ hD5 ?_
   clear hK hH hown5 hg5 hB5 hDz vz
   have hH:=hD5
   (refine fr_yes 5 (v:=?_) rfl (by kernel_rfl) rfl ?_ hH ?_;rotate_left;(focus ((intro W hW;go_simp) <;> with_reducible rfl));simp only[Act.put,zY,zX,zQ])
   have z0:=vg.cell (j:=0) rfl
   have z1:=vg.cell (j:=1) rfl
   have z2:=vg.cell (j:=2) rfl
   have f0:=vg.frozen 0
   have f1:=vg.frozen 1
   have f2:=vg.frozen 2
   refine fr_op [7] (by kernel_rfl) (by simp) ?_;intro jj hjj;simp only[List.mem_cons,List.not_mem_nil,or_false] at hjj;subst hjj;refine⟨_,rfl,rfl,fun K hK=>?_⟩
   go_wp2
   have hDe:=((hD5.setCell (p:=⟨wd.heap.size,0,none⟩) hDs (.slice A N c)).setCell (p:=⟨wd.heap.size,1,none⟩) hDs (.slice none 0 0)).setCell (p:=⟨wd.heap.size,2,none⟩) hDs (.slice Cr rn ec)
   refine hK.out _ _ hDe ?_
   clear hK hH
   refine fr_done (by kernel_rfl) ?_
   go_wp2
   go_meet
   case rel=>
    refine⟨_,Cr,ec,rfl,zZ (((vg.set 0 (.slice A N c)).set 1 (.slice none 0 0)).set 2 (.slice Cr rn ec)),hDs,zZ (rIds_stays.to (fun k hk=>?_) HV5.out),zZ hDe⟩
    have k1:=hk.1
    have k2:=hk.2
    have hne:k≠wd.heap.size:=by omega
    refine⟨⟨by omega,by simpa using k2,hne⟩,?_⟩
    rw[Below.heap_setCell _ _ _ _ hne,Below.heap_setCell _ _ _ _ hne,Below.heap_setCell _ _ _ _ hne]
 case rest=>
 obtain⟨b9,Cr,ec,rfl,PG,hb9,HV,H4y⟩:=hcut
 rename World=>wy
 have H2y:=zZ (H24.out.trans (H4y.out.mono H24.out.size))
 have Hb9y:=zZ PG.out.lt
 clear Hrd
 go_wp2
 go_loopw [10] (fun iv wr=>∃ (i:Nat) (vO:Value) (xs:List Value) (objs:List Ob),i≤ln∧iv=.int .i64 (i:Int)∧Hid (RowIn b9 1 28 53 3 [.slice A N c,.slice none 0 0,.slice Cr rn ec] wy vO i xs wr)∧Hid (Chunks 3 (rOb (fun k=>wy.heap.size≤k∧k<wr.heap.size∧some k≠vO.ownBlock) wr) xs objs)∧Hid (objs.length=i)∧Hid (objsD (canonG g) q.2.2 0 q.2.2=(objsD (canonG g) q.2.2 i (q.2.2.drop i)).map (objs++·))) (fun iv _=>ln - (intOf iv).toNat)
 case atStart=>exact⟨0,.slice none 0 0,[],[],by omega,rfl,zZ (RowIn.start PG.out rfl),zZ Chunks.nil,zZ rfl,zZ (by simp)⟩
 case round=>
  rename World=>wr
  obtain⟨i,vO,xs,objs,hi',rfl,hO,hch,hol,hob⟩:=hrel
  have hsr:=hO.out.bel.size
  have h24s:=H24.out.size
  have H4r:Hid (Below w4.heap.size w4 wr):=zZ (H4y.out.trans (hO.out.bel.mono hb9))
  have H2r:Hid (Below w2.heap.size w2 wr):=zZ (H24.out.trans (H4r.out.mono h24s))
  obtain⟨AV,cV,hvO⟩:=own_slice3 hO.out.own
  subst hvO
  have HSr:=zZ (fun W (hW:Below wr.heap.size wr W)=>And.intro (HS.out W (H2r.out.trans (hW.mono H2r.out.size))) (And.intro (((P8.out.to H4r.out).to hW).cell (j:=0) rfl) (And.intro (((P8.out.to H4r.out).to hW).cell (j:=1) rfl) (((P8.out.to H4r.out).to hW).cell (j:=2) rfl))))
  have hgx:b9<wy.heap.size:=Hb9y.out
  by_cases hin:i<ln
  ·obtain⟨x,hx⟩:∃ x,q.2.2[i]?=some x:=⟨_,zV (by have:=Hll.out;omega)⟩
   have TO:=zZ (robjD_any A2 B2 C2 (canonG g).1.length c2 (canonG g).2.1.length d2 (canonG g).2.2.length e2 (canonG g) u R L rn rc ln lc q.2.2 i x wr Hcm2.out (gr_below H4r.out HG4.out) (itms_below H2r.out (rDlt_open HQ2.out).2.2.2) hx)
   have Hmore:=zZ (fun o ho=>objsD_more (o:=o) hx hob.out ho)
   have Hstop:=zZ (fun ho=>objsD_stop hx hob.out ho)
   have hil:(i:Int)<(ln:Int):=by omega
   have hi0:(0:Int)≤(i:Int):=by omega
   have Hin:=zZ hin
   obtain⟨⟨a0,a1,a2,s0,s1,s2⟩,k0,k1,k2⟩:=HSr.out _ (zA _ wr)
   clear hx hob hin hi'
   go_wp2_with fail
   refine TO.out.mono ?_
   rintro e' w6 ⟨o1,o2,A8,n8,c8,ob,rfl,hCg,hcs⟩
   clear a0 a1 a2 s0 s1 s2 k0 k1 k2 TO
   have hB7:Below w6.heap.size w6 (w6.alloc (.cells #[.int .i64 o1,.int .i64 o2,.slice A8 n8 c8] 53)):=(zA _ w6).alloc (zW _) _
   have Hz:=zZ (hCg.trans (hB7.mono hCg.size))
   have Pv:=zZ (Blk.new w6 53 [.int .i64 o1,.int .i64 o2,.slice A8 n8 c8])
   have Hcs:Hid ((∃ o,objD (canonG g) q.2.2 i x=some o∧ob=true∧rOb (fun b=>wr.heap.size≤b∧b<(w6.alloc (.cells #[.int .i64 o1,.int .i64 o2,.slice A8 n8 c8] 53)).heap.size) (w6.alloc (.cells #[.int .i64 o1,.int .i64 o2,.slice A8 n8 c8] 53)) [.int .i64 o1,.int .i64 o2,.slice A8 n8 c8] o)∨(objD (canonG g) q.2.2 i x=none∧ob=false)):=zZ (by
    rcases hcs with⟨o,h1,h2,h5⟩ | h
    ·exact .inl ⟨o,h1,h2,rOb_stays.to (fun k hk=>⟨⟨hk.1,by have:=hk.2;simp only[World.size_alloc];omega⟩,Below.heap_alloc _ _ _ hk.2⟩) h5⟩
    ·exact .inr h)
   clear hcs hCg hB7
   go_upto_region 12 with fail
   generalize w6.alloc (.cells #[.int .i64 o1,.int .i64 o2,.slice A8 n8 c8] 53)=wz at *
   generalize w6.heap.size=g7 at *
   rcases Hcs.out with⟨o,ho,hb1,hro⟩ | ⟨ho,hb1⟩
   ·subst hb1
    have Hmo:=zZ (Hmore.out _ ho)
    have Hro:=zZ hro
    have pv:=Pv.out
    have v0:=pv.cell (j:=0) rfl
    have v1:=pv.cell (j:=1) rfl
    have v2:=pv.cell (j:=2) rfl
    have hIz:=hO.out.more hgx Hz.out
    have d2':=hIz.bx.cell (j:=1) rfl
    have t1:i+1≤maxLen:=by have:=Hin.out;simp only[maxLen];omega
    have t2:(i+1) * 40≤140737488355328:=by have:=Hin.out;omega
    have t3:wy.heap.size≤(wz.alloc (.cells #[.int .i64 o1,.int .i64 o2,.slice A8 n8 c8] 53)).heap.size:=by simp only[World.size_alloc];have:=Hz.out.size;omega
    have t4:=(Blk.new wz 53 [.int .i64 o1,.int .i64 o2,.slice A8 n8 c8]).rd
    have t5:=hIz.own.alloc (.cells #[.int .i64 o1,.int .i64 o2,.slice A8 n8 c8] 53)
    clear ho hro pv hIz Hcs Hmore Hstop
    go_wp2_with (first
     | (at_builtin;refine wpList_apps rfl (.tmp 55) (.tmp 57) 25 rfl wy.heap.size 53 i0 (.agg #[.int .i64 0,.int .i64 0,.slice none 0 0]) 3 40 Tryz.underlying25 hi hz0 hz1 hz2 rfl (by omega) (.slice AV i cV) i xs rfl t5 (some ⟨wz.heap.size,0,none⟩) 1 1 [.int .i64 o1,.int .i64 o2,.slice A8 n8 c8] rfl rfl t4 (by simp[Value.oneCell']) t1 t2 t3 ?_;intro v4 w4' hown4 hg4 hv4;obtain⟨bx4,hR4⟩:=hO.out.step hgx Hz.out hg4 hown4;have HC4:=zZ (hO.out.obs hgx hch.out Hz.out Hro.out rfl hg4 hv4);obtain⟨A4,c4,hv4e⟩:=own_slice3 hown4;subst hv4e;have e4:=bx4.cell (j:=1) rfl;have f4:=bx4.frozen 1;have HR4:=zZ hR4;clear hR4 hown4 hg4 hv4 bx4)
     | fail)
    go_roundw
    case rel=>exact⟨i+1,_,_,objs++[o],Hin.out,by go_num,HR4,HC4,zZ (by rw[List.length_append,hol.out];rfl),Hmo⟩
    case measure=>have:=Hin.out;simp[intOf];omega
   ·subst hb1
    have HN:=zZ (show applyD g q=(([],[],[]),2) by rw[Hap.out,Hstop.out ho])
    have HBz:=zZ (H2r.out.trans (Hz.out.mono H2r.out.size))
    clear ho Hcs Hmore Hstop
    have q2:=HP2.out _ HBz.out
    have u0:=q2.cell (j:=0) rfl
    have u1:=q2.cell (j:=1) rfl
    have u2:=q2.cell (j:=2) rfl
    have z0:=q2.frozen 0
    have z1:=q2.frozen 1
    have z2:=q2.frozen 2
    have QQ:=zZ q2
    clear q2
    go_wp2
    have P9:=((QQ.out.set 0 (.slice none 0 0)).set 1 (.slice none 0 0)).set 2 (.slice none 0 0)
    refine ret_cell1 (d:=.struct _) (cs:=[.slice none 0 0,.slice none 0 0,.slice none 0 0]) rfl P9 rfl rfl rfl rfl rfl ?_
    rw[HN.out]
    refine⟨none,0,none,0,none,0,rfl,rGr_none _,?_⟩
    exact (((H2.out.trans (HBz.out.mono H2.out.size)).setCell (p:=⟨w.heap.size+2,0,none⟩) (by simp) (.slice none 0 0)).setCell (p:=⟨w.heap.size+2,1,none⟩) (by simp) (.slice none 0 0)).setCell (p:=⟨w.heap.size+2,2,none⟩) (by simp) (.slice none 0 0)
  ·have hio:i=ln:=by omega
   have hob9:=hob.out
   rw[List.drop_of_length_le (by have:=Hll.out;omega),objsD] at hob9
   simp only[Option.map_some,List.append_nil] at hob9
   have Hap2:Hid (applyD g q=if mayG (g.1,objs,q.2.1)=true∧canonG (g.1,objs,q.2.1)=(g.1,objs,q.2.1) then ((g.1,objs,q.2.1),0) else (([],[],[]),2)):=zZ (by rw[Hap.out,hob9])
   obtain⟨AO,cO,hAO,hsl⟩:=own_slice_in rOb_stays hO.out.own hol.out hch.out
   injection hAO with hA1 _ hA3
   subst hA1 hA3
   have hgr:rGr (All wr) wr [.slice A N c,.slice AV i cV,.slice Cr rn ec] (g.1,objs,q.2.1):=rGr_mk (g:=(g.1,objs,q.2.1)) (sch_below H2r.out (rGr_open HG2.out).1) (rObs_stays.to (Keeps.mono fun k hk=>hk.2) hsl) (rIds_stays.to (fun k hk=>⟨by show k<_;have:=hk.2.1;omega,hO.out.kept k hk.2.1 hk.2.2⟩) HV.out)
   have Pg:Hid (Blk wr b9 28 [.slice A N c,.slice AV i cV,.slice Cr rn ec]):=zZ hO.out.bx
   have Ht9:Hid (tameS ((g.1,objs,q.2.1):Gr).1):=zZ Htame.out
   clear hob9 hob hsl hch hol hO Hap
   generalize ((g.1,objs,q.2.1):Gr)=g9 at *
   have HL:Hid (g9.1.length=N∧g9.2.1.length=i∧g9.2.2.length=rn):=zZ ⟨(slice_len (rGr_open hgr).1).1,(slice_len (rGr_open hgr).2.1).1,(slice_len (rGr_open hgr).2.2).1⟩
   have HGr:=zZ (fun W (hW:Below wr.heap.size wr W)=>gr_below hW hgr)
   have T3:=zZ (rgmay_any A AV Cr N c i cV rn ec g9 wr hgr Ht9.out)
   have T4:=zZ (fun W (hW:Below wr.heap.size wr W)=>rcanon_any A AV Cr N c i cV rn ec g9 W (HGr.out W hW) Ht9.out)
   have HX:=zZ (fun W (hW:Below wr.heap.size wr W)=>And.intro ((Pg.out.to hW).cell (j:=0) rfl) (And.intro ((Pg.out.to hW).cell (j:=1) rfl) ((Pg.out.to hW).cell (j:=2) rfl)))
   have hnil:¬ ((i:Int)<(ln:Int)):=by omega
   obtain⟨⟨a0,a1,a2,s0,s1,s2⟩,-⟩:=HSr.out _ (zA _ wr)
   obtain⟨x0,x1,x2⟩:=HX.out _ (zA _ wr)
   clear hgr hio hin hi'
   go_wp2_with fail
   refine T3.out.mono ?_
   rintro e' w7 ⟨rfl,hB7⟩
   have H7:=zZ hB7
   clear hB7 T3 a0 a1 a2 s0 s1 s2 x0 x1 x2
   go_upto_region 16 with fail
   refine sch_start [(0,true),(2,true),(1,false),(3,false),(4,true)] (fun W=>Below wr.heap.size wr W) (by kernel_rfl) rfl (by kernel_rfl) (fun _ _ _ _ _ h=>h) H7.out.drew (fun hH=>?_)
   repeat (first | (refine sch_yes (v:=?_) rfl rfl ?_ hH ?_;rotate_left;(focus ((intro W hW;obtain⟨x0,x1,x2⟩:=HX.out W hW;go_simp) <;> with_reducible rfl));simp only[Act.put,zY,zX,zQ]) | (refine sch_no rfl rfl hH ?_;simp only[Act.put,zY,zX,zQ]))
   refine sch_call rfl rfl (fun K' hK=>?_)
   go_wp2_with (go_at_call 28;refine (T4.out _ hH).mono ?_;rintro e' w8 ⟨A9,c9,B9,d9,C9,e9,rfl,hg9,hB8⟩)
   have hD8:=hH.trans (hB8.mono hH.size)
   refine hK.out _ _ hD8 ?_
   clear hK hH hB8
   have hH:=hD8
   repeat (first | (refine sch_yes (v:=?_) rfl rfl ?_ hH ?_;rotate_left;(focus ((intro W hW;obtain⟨x0,x1,x2⟩:=HX.out W hW;go_simp) <;> with_reducible rfl));simp only[Act.put,zY,zX,zQ]) | (refine sch_no rfl rfl hH ?_;simp only[Act.put,zY,zX,zQ]))
   refine sch_call rfl rfl (fun K' hK=>?_)
   go_wp2_with (go_at_call 12;refine (rgsame_any A9 B9 C9 (canonG g9).1.length c9 (canonG g9).2.1.length d9 (canonG g9).2.2.length e9 A AV Cr N c i cV rn ec (canonG g9) g9 _ hg9 (HGr.out _ hD8)).mono ?_;rintro e' w9 ⟨rfl,hB9⟩)
   have hD9:=hH.trans (hB9.mono hH.size)
   refine hK.out _ _ hD9 ?_
   clear hK hH hB9
   have hH:=hD9
   repeat (first | (refine sch_yes (v:=?_) rfl rfl ?_ hH ?_;rotate_left;(focus ((intro W hW;obtain⟨x0,x1,x2⟩:=HX.out W hW;go_simp) <;> with_reducible rfl));simp only[Act.put,zY,zX,zQ]) | (refine sch_no rfl rfl hH ?_;simp only[Act.put,zY,zX,zQ]))
   refine sch_done ?_
   have H9:=zZ (H2r.out.trans (hD9.mono H2r.out.size))
   have HD9:=zZ hD9
   clear hH hD9 hD8 hg9 T4
   by_cases hm:mayG g9=true
   case neg=>
    replace hm:mayG g9=false:=by simpa using hm
    have HN:=zZ (show applyD g q=(([],[],[]),2) by rw[Hap2.out,if_neg (fun h=>by rw[hm] at h;exact absurd h.1 (by decide))])
    rw[hm]
    clear hm Hap2
    generalize decide (canonG g9=g9)=cb at *
    have q2:=HP2.out _ H9.out
    have u0:=q2.cell (j:=0) rfl
    have u1:=q2.cell (j:=1) rfl
    have u2:=q2.cell (j:=2) rfl
    have z0:=q2.frozen 0
    have z1:=q2.frozen 1
    have z2:=q2.frozen 2
    have QQ:=zZ q2
    clear q2
    go_wp2
    have P9:=((QQ.out.set 0 (.slice none 0 0)).set 1 (.slice none 0 0)).set 2 (.slice none 0 0)
    refine ret_cell1 (d:=.struct _) (cs:=[.slice none 0 0,.slice none 0 0,.slice none 0 0]) rfl P9 rfl rfl rfl rfl rfl ?_
    rw[HN.out]
    refine⟨none,0,none,0,none,0,rfl,rGr_none _,?_⟩
    exact (((H2.out.trans (H9.out.mono H2.out.size)).setCell (p:=⟨w.heap.size+2,0,none⟩) (by simp) (.slice none 0 0)).setCell (p:=⟨w.heap.size+2,1,none⟩) (by simp) (.slice none 0 0)).setCell (p:=⟨w.heap.size+2,2,none⟩) (by simp) (.slice none 0 0)
   rw[hm]
   by_cases hcn:canonG g9=g9
   case neg=>
    have HN:=zZ (show applyD g q=(([],[],[]),2) by rw[Hap2.out,if_neg (fun h=>hcn h.2)])
    rw[zK hcn]
    clear hm hcn Hap2
    have q2:=HP2.out _ H9.out
    have u0:=q2.cell (j:=0) rfl
    have u1:=q2.cell (j:=1) rfl
    have u2:=q2.cell (j:=2) rfl
    have z0:=q2.frozen 0
    have z1:=q2.frozen 1
    have z2:=q2.frozen 2
    have QQ:=zZ q2
    clear q2
    go_wp2
    have P9:=((QQ.out.set 0 (.slice none 0 0)).set 1 (.slice none 0 0)).set 2 (.slice none 0 0)
    refine ret_cell1 (d:=.struct _) (cs:=[.slice none 0 0,.slice none 0 0,.slice none 0 0]) rfl P9 rfl rfl rfl rfl rfl ?_
    rw[HN.out]
    refine⟨none,0,none,0,none,0,rfl,rGr_none _,?_⟩
    exact (((H2.out.trans (H9.out.mono H2.out.size)).setCell (p:=⟨w.heap.size+2,0,none⟩) (by simp) (.slice none 0 0)).setCell (p:=⟨w.heap.size+2,1,none⟩) (by simp) (.slice none 0 0)).setCell (p:=⟨w.heap.size+2,2,none⟩) (by simp) (.slice none 0 0)
   have HN:=zZ (show applyD g q=(g9,0) by rw[Hap2.out,if_pos ⟨hm,hcn⟩])
   rw[zJ hcn]
   clear hm hcn Hap2
   have q2:=HP2.out _ H9.out
   have u0:=q2.cell (j:=0) rfl
   have u1:=q2.cell (j:=1) rfl
   have u2:=q2.cell (j:=2) rfl
   have z0:=q2.frozen 0
   have z1:=q2.frozen 1
   have z2:=q2.frozen 2
   have QQ:=zZ q2
   obtain⟨x0,x1,x2⟩:=HX.out _ HD9.out
   clear q2
   go_wp2
   have P9:=((QQ.out.set 0 (.slice A N c)).set 1 (.slice AV i cV)).set 2 (.slice Cr rn ec)
   refine ret_cell1 (d:=.struct _) (cs:=[.slice A N c,.slice AV i cV,.slice Cr rn ec]) rfl P9 rfl rfl rfl rfl rfl ?_
   rw[HN.out]
   obtain⟨m1,m2,m3⟩:=HL.out
   refine⟨A,c,AV,cV,Cr,ec,?_,?_,?_⟩
   ·simp only[m1,m2,m3];rfl
   ·simp only[m1,m2,m3];exact gr_set3 QQ.out (HGr.out _ HD9.out)
   ·exact (((H2.out.trans (H9.out.mono H2.out.size)).setCell (p:=⟨w.heap.size+2,0,none⟩) (by simp) (.slice A N c)).setCell (p:=⟨w.heap.size+2,1,none⟩) (by simp) (.slice AV i cV)).setCell (p:=⟨w.heap.size+2,2,none⟩) (by simp) (.slice Cr rn ec)
end Go.Proofs.YtnljjnkindjeoaaGreatDoor
