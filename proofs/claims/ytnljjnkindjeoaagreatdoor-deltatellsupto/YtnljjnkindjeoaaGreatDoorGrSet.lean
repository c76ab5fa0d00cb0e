/- The contract of graph's Set. Condition: sizes that memory can hold. -/
import Derived.Test.YtnljjnkindjeoaaGreatDoorGCanon
import Derived.Test.YtnljjnkindjeoaaGreatDoorGrWhySet
import Derived.Test.YtnljjnkindjeoaaGreatDoorGGen
import Derived.Test.YtnljjnkindjeoaaGreatDoorAl
set_option maxRecDepth 100000
set_option maxHeartbeats 4000000
namespace Go.Proofs.YtnljjnkindjeoaaGreatDoor
open Go.RowKit
theorem have_len {g:Gr} {f:Fld} {v:Vl} (h:haveG g f v=true):v.2.1.length≤12:=by
 rw[haveG,Bool.and_eq_true] at h
 have hf:=h.1
 generalize f.2.1=kd at hf
 rcases vl_kinds kd with rfl | rfl | rfl | rfl | rfl | rfl | hk'
 ·rw[vl_fits_0] at hf;rw[(of_decide_eq_true hf).2.2.1];simp
 ·rw[vl_fits_1] at hf;rw[(of_decide_eq_true hf).2.2.1];simp
 ·rw[vl_fits_2] at hf;rw[(of_decide_eq_true hf).2.2.1];simp
 ·rw[vl_fits_3] at hf;rw[(of_decide_eq_true hf).1];simp
 ·rw[vl_fits_4] at hf;exact (of_decide_eq_true hf).1
 ·rw[vl_fits_5] at hf;rw[(of_decide_eq_true hf).2.2.2];simp
 ·rw[vl_fits_x hk'] at hf;cases hf
theorem grown_set3 {w:World} {b p q r:Nat} {x y z:Value}:w.grownBy (((w.setCell ⟨b,p,none⟩ x).setCell ⟨b,q,none⟩ y).setCell ⟨b,r,none⟩ z) (some b):=by
 have hq:=(((zA b w).setCell (p:=⟨b,p,none⟩) (zW _) x).setCell (p:=⟨b,q,none⟩) (zW _) y).setCell (p:=⟨b,r,none⟩) (zW _) z
 refine⟨hq.os,hq.tape,hq.output,hq.size,fun k _ hne=>?_⟩
 have hne':k≠b:=by simpa using hne
 rw[Below.heap_setCell _ _ _ _ hne',Below.heap_setCell _ _ _ _ hne',Below.heap_setCell _ _ _ _ hne']
theorem below_grown'' {w w':World} (h:Below w.heap.size w w') {row:Option Nat}:w.grownBy w' row:=⟨h.os,h.tape,h.output,h.size,fun b hb _=>h.block b hb⟩
theorem OwnG.readIn {H b1 b2 m:Nat} {w:World} {g:Gr} {A:Option Addr} {K c:Nat} (h:OwnG H w g b1 b2 m (.slice A K c)) (hK:g.2.2.length=K):rGr (fun b=>H≤b∧b<w.heap.size) w [.slice (some ⟨b1,0,none⟩) g.1.length g.1.length,.slice (some ⟨b2,0,none⟩) g.2.1.length g.2.1.length,.slice A K c] g:=by
 obtain⟨ds,h1,h2⟩:=h.obs
 have:=h.low;have:=h.one;have:=h.two;have:=h.top
 subst hK
 refine rGr_mk (rSch_stays.to (Keeps.mono fun b hb=>⟨by omega,by omega⟩) h.sch) ?_ (rIds_stays.to (Keeps.mono fun b hb=>⟨by omega,hb.2⟩) (ids_own h.ids rfl h.wf))
 exact blk_slice h1 (h2.chunks.imp fun cs a hq=>rOb_stays.to (Keeps.mono fun b hb=>⟨by omega,by omega⟩) hq) ⟨by omega,by omega⟩ h.len
theorem gset_in (A B C:Option Addr) (N c M d K e:Nat) (g:Gr) (id k:Int) (s:ByteArray) (v:Vl) (w:World) (h:rGr (All w) w [.slice A N c,.slice B M d,.slice C K e] g) (htame:tameG g) (hs:byt s=v.2.1) (hv1:(Lit.int .i64 v.1).wf=true) (hv2:(Lit.int .i64 v.2.2).wf=true):
  Calls Tryz.prog 15 #[.agg #[.slice A N c,.slice B M d,.slice C K e],.int .i64 id,.int .i64 k,.agg #[.int .i64 v.1,.string s,.int .i64 v.2.2]] w fun e w'=>∃ A1 c1 B1 d1 C1 e1,e=.returned (.tuple #[.agg #[.slice A1 (setN g id k v).1.length c1,.slice B1 (setN g id k v).2.1.length d1,.slice C1 (setN g id k v).2.2.length e1],.int .i64 (setE g id k v)]) ∧
   rGr (fun b=>w.heap.size≤b∧b<w'.heap.size) w' [.slice A1 (setN g id k v).1.length c1,.slice B1 (setN g id k v).2.1.length d1,.slice C1 (setN g id k v).2.2.length e1] (setN g id k v)∧Below w.heap.size w w':=by
 obtain⟨hN,hNc,hcm⟩:=slice_len (rGr_open h).1
 obtain⟨hM,hMd,hdm⟩:=slice_len (rGr_open h).2.1
 obtain⟨hK,hKe,hem⟩:=slice_len (rGr_open h).2.2
 have hB0:Below w.heap.size w (((w.alloc (.cells #[.slice A N c,.slice B M d,.slice C K e] 28)).alloc (.cells #[.int .i64 v.1,.string s,.int .i64 v.2.2] 47)).alloc (.cells #[.slice none 0 0,.slice none 0 0,.slice none 0 0] 28)):=(((zA _ w).alloc (zW _) _).alloc (by simp) _).alloc (by simp;omega) _
 obtain⟨p1,pv,p2⟩:=blk_three w 28 47 28 [.slice A N c,.slice B M d,.slice C K e] [.int .i64 v.1,.string s,.int .i64 v.2.2] [.slice none 0 0,.slice none 0 0,.slice none 0 0]
 have T1:=zZ (copyGraph_any A B C N c M d K e g _ (gr_below hB0 h) htame)
 have T2:=zZ (fun W (hW:Below w.heap.size w W)=>whyNoSet_any A B C N c M d K e g id k s v W (gr_below hW h) hs)
 have T3:=zZ (fun W (hW:Below w.heap.size w W)=>gfind_any A B C N c M d K e g id W (gr_below hW h))
 have T4:=zZ (fun W hsz=>copyVal_any s v.1 v.2.2 W hsz)
 have HB0:=zZ hB0
 have s0:w.heap.size+3=(((w.alloc (.cells #[.slice A N c,.slice B M d,.slice C K e] 28)).alloc (.cells #[.int .i64 v.1,.string s,.int .i64 v.2.2] 47)).alloc (.cells #[.slice none 0 0,.slice none 0 0,.slice none 0 0] 28)).heap.size:=by simp
 clear hB0 h htame
 go_enter Tryz.func15,Tryz.ntmps15
 go_wp2_with fail
 refine T1.out.mono ?_
 rintro e w1 ⟨b1,b2,m,A3,c3,rfl,hG,hB1⟩
 have a1:=hG.low
 have a2:=hG.one
 have a3:=hG.two
 have a4:=hG.top
 have hB2:Below w1.heap.size w1 (w1.alloc (.cells #[.slice (some ⟨b1,0,none⟩) N N,.slice (some ⟨b2,0,none⟩) M M,.slice A3 K c3] 28)):=(zA _ w1).alloc (zW _) _
 have hB12:=hB1.trans (hB2.mono hB1.size)
 have H2:=zZ (HB0.out.trans (hB12.mono HB0.out.size))
 have p7:=Blk.new w1 28 [.slice (some ⟨b1,0,none⟩) N N,.slice (some ⟨b2,0,none⟩) M M,.slice A3 K c3]
 replace p1:=p1.to hB12
 replace p2:=p2.to hB12
 replace pv:=pv.to hB12
 have HB2:=zZ hB2
 rw[← s0] at a1
 have HG:=zZ hG
 clear hB1 hB12 HB0 T1 s0 hB2 hG
 have c0:=p1.cell (j:=0) rfl
 have c1:=p1.cell (j:=1) rfl
 have c2:=p1.cell (j:=2) rfl
 have z0:=pv.cell (j:=0) rfl
 have z1:=pv.cell (j:=1) rfl
 have z2:=pv.cell (j:=2) rfl
 go_wp2_with fail
 refine (T2.out _ H2.out).mono ?_
 rintro e w3 ⟨rfl,hB3⟩
 have hB13:=zZ (HB2.out.trans (hB3.mono HB2.out.size))
 have H3:=zZ (H2.out.trans (hB3.mono H2.out.size))
 replace p1:=p1.to hB3
 replace p2:=p2.to hB3
 replace pv:=pv.to hB3
 replace p7:=p7.to hB3
 clear hB3 HB2 H2 T2 c0 c1 c2 z0 z1 z2
 have x0:=p7.cell (j:=0) rfl
 have x1:=p7.cell (j:=1) rfl
 have x2:=p7.cell (j:=2) rfl
 by_cases he:setE g id k v=0
 ·obtain⟨hm,hf,hk0,hkl,hhv⟩:=setE_0 he
  have hsz:s.size≤281474976710656:=by
   have:=have_len hhv
   rw[← byt_length,hs];omega
  obtain⟨I,o,hI,hgi,-,-⟩:=findG_at hf
  have hoe:=objG_at hI hgi
  rw[hoe] at hkl
  obtain⟨kn,hkn⟩:∃ kn:Nat,k=(kn:Int):=⟨k.toNat,by omega⟩
  have Hn:Hid (setN g id k v=(g.1,g.2.1.set I (o.1,o.2.1,o.2.2.set kn v),g.2.2)):=zZ (by rw[setN,if_pos he,hI,hoe,hkn,Int.toNat_natCast,Int.toNat_natCast])
  have He:=zZ he
  have hIM:I<M:=by have:=(List.getElem?_eq_some_iff.1 hgi).1;omega
  obtain⟨ds,hds,bs,hdse,hbl,hpw,hall⟩:=HG.out.obs
  obtain⟨bI,hbI⟩:∃ bI,bs[I]?=some bI:=⟨_,zV (by omega)⟩
  obtain⟨q1,q2,hw1,hw2,hl9,vs,hvs,hch⟩:=hall I o bI hgi hbI
  have hvl:vs.length=o.2.2.length * 3:=hch.1
  have hx0:=hds.cell (j:=I * 3+2) (by rw[hdse];exact obCells_at hgi hbI)
  rw[hI] at T3
  rw[he]
  have hknl:kn<o.2.2.length:=by omega
  have Hvs:=zZ hvs
  have Hset:=zZ (fun (W:World) hW hkeep=>ObIn.set (w:=w1) (W:=W) (v:=v) (x:=.int .i64 v.1) (y:=.string s) (z:=.int .i64 v.2.2) hbl hpw hall hgi hbI hknl hvs hch (fun S W'=>rVal_mk hs (Nat.le_trans hsz (by simp[maxLen])) hv1 hv2) hW hkeep)
  have Hgl:=zZ (HG.out.len)
  subst hkn
  clear he hm hf hhv hoe hch hall hgi hvs
  have hw13:w1.heap.size<w3.heap.size:=p7.lt
  have hx3:=(hB13.out.cell (p:=⟨b2,I * 3+2,none⟩) (by show b2<_;omega)).trans hx0
  have hvs3:=Hvs.out.to hB13.out
  have hw3:w.heap.size≤w3.heap.size:=H3.out.size
  generalize hvl0:o.2.2.length=vl at *
  have T5:=zZ (fun W=>T4.out W hsz)
  clear T4
  generalize hn1:v.1=n1 at *
  generalize hn2:v.2.2=n2 at *
  have S0:=And.intro (p7.cell (j:=1) rfl) (And.intro (p1.cell (j:=0) rfl) (And.intro (p1.cell (j:=1) rfl) (And.intro (p1.cell (j:=2) rfl) (And.intro (pv.cell (j:=0) rfl) (And.intro (pv.cell (j:=1) rfl) (And.intro (pv.cell (j:=2) rfl) (hx3)))))))
  have HS:=zZ (fun (W:World) (hW:w3.grownBy W (some bI))=>And.intro (hW.cell S0.1 (by simp;omega)) (And.intro (hW.cell S0.2.1 (by simp;omega)) (And.intro (hW.cell S0.2.2.1 (by simp;omega)) (And.intro (hW.cell S0.2.2.2.1 (by simp;omega)) (And.intro (hW.cell S0.2.2.2.2.1 (by simp;omega)) (And.intro (hW.cell S0.2.2.2.2.2.1 (by simp;omega)) (And.intro (hW.cell S0.2.2.2.2.2.2.1 (by simp;omega)) (hW.cell S0.2.2.2.2.2.2.2 (by simp;omega)))))))))
  have hil:(I:Int)<(M:Int):=by omega
  have hi0:(0:Int)≤(I:Int):=by omega
  have hkl2:(kn:Int)<(vl:Int):=by omega
  have hk2:(0:Int)≤(kn:Int):=by omega
  have Hn1:=zZ hn1
  have Hn2:=zZ hn2
  clear hx0 hx3 x0 x1 x2 hn1 hn2
  go_wp2
  refine sch_start [(0,true),(1,true),(2,true),(3,true),(8,true),(9,true),(4,false),(5,true),(6,true),(7,true),(10,false),(11,true),(12,false)]
   (fun W=>W.cell? ⟨w1.heap.size,1,none⟩=some (.slice (some ⟨b2,0,none⟩) M M)∧W.cell? ⟨w.heap.size,0,none⟩=some (.slice A N c)∧W.cell? ⟨w.heap.size,1,none⟩=some (.slice B M d)∧W.cell? ⟨w.heap.size,2,none⟩=some (.slice C K e)∧W.cell? ⟨w.heap.size+1,0,none⟩=some (.int .i64 n1)∧W.cell? ⟨w.heap.size+1,1,none⟩=some (.string s)∧W.cell? ⟨w.heap.size+1,2,none⟩=some (.int .i64 n2)∧W.cell? ⟨b2,I * 3+2,none⟩=some (.slice (some ⟨bI,0,none⟩) vl vl)) (by kernel_rfl) rfl (by kernel_rfl) (fun _ _ _ _ _ h=>h) S0 (fun hH=>?_)
  repeat (first | (refine sch_yes (v:=?_) rfl rfl ?_ hH ?_;rotate_left;(focus ((rintro W ⟨hW0,hW1,hW2,hW3,hW4,hW5,hW6,hW7⟩;go_simp) <;> with_reducible rfl));simp only[Act.put,zY,zX,zQ]) | (refine sch_no rfl rfl hH ?_;simp only[Act.put,zY,zX,zQ]))
  refine sch_call rfl rfl (fun K' hK'=>?_)
  go_wp2_with (go_at_call 46;refine (T3.out _ H3.out.drew).mono ?_;rintro e w4 ⟨rfl,hB4⟩)
  have hC4:Below w3.heap.size w3 w4:=(zA w3.heap.size w3).drew.trans hB4
  refine hK'.out _ _ (HS.out _ (below_grown'' hC4)) ?_
  clear hK' hH
  have hH:=HS.out _ (below_grown'' hC4)
  repeat (first | (refine sch_yes (v:=?_) rfl rfl ?_ hH ?_;rotate_left;(focus ((rintro W ⟨hW0,hW1,hW2,hW3,hW4,hW5,hW6,hW7⟩;go_simp) <;> with_reducible rfl));simp only[Act.put,zY,zX,zQ]) | (refine sch_no rfl rfl hH ?_;simp only[Act.put,zY,zX,zQ]))
  refine sch_call rfl rfl (fun K' hK'=>?_)
  go_wp2_with (go_at_call 45;refine (T5.out _).mono ?_;rintro e w5 ⟨rfl,hB5⟩)
  have hC5:Below w3.heap.size w3 w5:=hC4.trans (hB5.mono hC4.size)
  refine hK'.out _ _ (HS.out _ (below_grown'' hC5)) ?_
  clear hK' hH
  have hH:=HS.out _ (below_grown'' hC5)
  repeat (first | (refine sch_yes (v:=?_) rfl rfl ?_ hH ?_;rotate_left;(focus ((rintro W ⟨hW0,hW1,hW2,hW3,hW4,hW5,hW6,hW7⟩;go_simp) <;> with_reducible rfl));simp only[Act.put,zY,zX,zQ]) | (refine sch_no rfl rfl hH ?_;simp only[Act.put,zY,zX,zQ]))
  refine sch_call rfl rfl (fun K' hK'=>?_)
  have hv5:=hvs3.to hC5
  have f0:=hv5.frozen (kn * 3)
  have f1:=hv5.frozen (kn * 3+1)
  have f2:=hv5.frozen (kn * 3+2)
  have e0:=hv5.cell (j:=kn * 3) (zV (by omega))
  have e1:=hv5.cell (j:=kn * 3+1) (zV (by omega))
  have e2:=hv5.cell (j:=kn * 3+2) (zV (by omega))
  go_wp2
  have hg6:=(below_grown'' hC5 (row:=some bI)).trans (grown_set3 (w:=w5) (b:=bI) (p:=kn * 3) (q:=kn * 3+1) (r:=kn * 3+2) (x:=.int .i64 n1) (y:=.string s) (z:=.int .i64 n2))
  have P6:=((hv5.set (kn * 3) (.int .i64 n1)).set (kn * 3+1) (.string s)).set (kn * 3+2) (.int .i64 n2)
  refine hK'.out _ _ (HS.out _ hg6) ?_
  clear hK' hH
  refine sch_done ?_
  clear f0 f1 f2 e0 e1 e2 hv5
  generalize ((w5.setCell ⟨bI,kn * 3,none⟩ (.int .i64 n1)).setCell ⟨bI,kn * 3+1,none⟩ (.string s)).setCell ⟨bI,kn * 3+2,none⟩ (.int .i64 n2)=w6 at *
  have r7:Blk w6 w1.heap.size 28 [.slice (some ⟨b1,0,none⟩) N N,.slice (some ⟨b2,0,none⟩) M M,.slice A3 K c3]:=(hg6.block _ p7.lt (by simp;omega)).trans p7
  have r2:Blk w6 (w.heap.size+2) 28 [.slice none 0 0,.slice none 0 0,.slice none 0 0]:=(hg6.block _ p2.lt (by simp;omega)).trans p2
  have xx0:=r7.cell (j:=0) rfl
  have xx1:=r7.cell (j:=1) rfl
  have xx2:=r7.cell (j:=2) rfl
  have y0:=r2.cell (j:=0) rfl
  have y1:=r2.cell (j:=1) rfl
  have y2:=r2.cell (j:=2) rfl
  have g0:=r2.frozen 0
  have g1:=r2.frozen 1
  have g2:=r2.frozen 2
  go_wp2
  have P9:=((r2.set 0 (.slice (some ⟨b1,0,none⟩) N N)).set 1 (.slice (some ⟨b2,0,none⟩) M M)).set 2 (.slice A3 K c3)
  refine ret_cell1 (d:=.struct _) (cs:=[.slice (some ⟨b1,0,none⟩) N N,.slice (some ⟨b2,0,none⟩) M M,.slice A3 K c3]) rfl P9 rfl rfl rfl rfl rfl ?_
  have hkeep:∀ b,b≠w.heap.size+2→(((w6.setCell ⟨w.heap.size+2,0,none⟩ (.slice (some ⟨b1,0,none⟩) N N)).setCell ⟨w.heap.size+2,1,none⟩ (.slice (some ⟨b2,0,none⟩) M M)).setCell ⟨w.heap.size+2,2,none⟩ (.slice A3 K c3)).heap[b]?=w6.heap[b]?:=fun b n=>by
   rw[Below.heap_setCell _ _ _ _ n,Below.heap_setCell _ _ _ _ n,Below.heap_setCell _ _ _ _ n]
  have hkp:∀ b,b1≤b→b<w1.heap.size→b≠bI→(((w6.setCell ⟨w.heap.size+2,0,none⟩ (.slice (some ⟨b1,0,none⟩) N N)).setCell ⟨w.heap.size+2,1,none⟩ (.slice (some ⟨b2,0,none⟩) M M)).setCell ⟨w.heap.size+2,2,none⟩ (.slice A3 K c3)).heap[b]?=w1.heap[b]?:=fun b n1 n2 n3=>by
   rw[hkeep b (by omega),hg6.block b (by omega) (by simpa using n3),hB13.out.block b n2]
  have hs6:=hg6.size
  have hGn:OwnG b1 (((w6.setCell ⟨w.heap.size+2,0,none⟩ (.slice (some ⟨b1,0,none⟩) N N)).setCell ⟨w.heap.size+2,1,none⟩ (.slice (some ⟨b2,0,none⟩) M M)).setCell ⟨w.heap.size+2,2,none⟩ (.slice A3 K c3)) (g.1,g.2.1.set I (o.1,o.2.1,o.2.2.set kn v),g.2.2) b1 b2 m (.slice A3 K c3):=
   ⟨zW _,a2,a3,by simp;omega,rSch_stays.to (fun b hb=>⟨hb,hkp b hb.1 (by omega) (by omega)⟩) HG.out.sch,⟨ds,(hkp b2 (by omega) (by omega) (by omega)).trans hds,by rw[hdse];exact Hset.out _ ((hkeep bI (by omega)).trans P6) (fun c n1 n2 n3=>hkp c (by omega) (by omega) n3)⟩,by simpa using Hgl.out,own_keep HG.out.ids (fun b n1 n2=>hkp b (by omega) n2 (by omega)),HG.out.wf⟩
  have hrd:=(hGn.lower (H':=w.heap.size) (by omega)).readIn hK
  rw[Hn.out,He.out]
  simp only[List.length_set] at hrd ⊢
  rw[hN,hM,hK]
  rw[hN,hM] at hrd
  have hq6:=H3.out.grown hg6 H3.out.size (fun k hk=>by cases hk;omega)
  exact⟨some ⟨b1,0,none⟩,N,some ⟨b2,0,none⟩,M,A3,c3,rfl,hrd,((hq6.setCell (p:=⟨w.heap.size+2,0,none⟩) (by simp) _).setCell (p:=⟨w.heap.size+2,1,none⟩) (by simp) _).setCell (p:=⟨w.heap.size+2,2,none⟩) (by simp) _⟩
 ·have he':(setE g id k v != 0)=true:=by simp[he]
  have Hn:Hid (setN g id k v=g):=zZ (if_neg he)
  clear he
  have y0:=p2.cell (j:=0) rfl
  have y1:=p2.cell (j:=1) rfl
  have y2:=p2.cell (j:=2) rfl
  have g0:=p2.frozen 0
  have g1:=p2.frozen 1
  have g2:=p2.frozen 2
  generalize hne:setE g id k v=er at *
  have Hne:=zZ hne
  clear hne
  go_wp2
  have P9:=((p2.set 0 (.slice (some ⟨b1,0,none⟩) N N)).set 1 (.slice (some ⟨b2,0,none⟩) M M)).set 2 (.slice A3 K c3)
  refine ret_cell1 (d:=.struct _) (cs:=[.slice (some ⟨b1,0,none⟩) N N,.slice (some ⟨b2,0,none⟩) M M,.slice A3 K c3]) rfl P9 rfl rfl rfl rfl rfl ?_
  have hG9:=(HG.out.below hB13.out).keep (w':=((w3.setCell ⟨w.heap.size+2,0,none⟩ (.slice (some ⟨b1,0,none⟩) N N)).setCell ⟨w.heap.size+2,1,none⟩ (.slice (some ⟨b2,0,none⟩) M M)).setCell ⟨w.heap.size+2,2,none⟩ (.slice A3 K c3)) (by simp) fun b hb _=>by
   rw[Below.heap_setCell _ _ _ _ (by show b≠w.heap.size+2;simp at hb;omega),Below.heap_setCell _ _ _ _ (by show b≠w.heap.size+2;simp at hb;omega),Below.heap_setCell _ _ _ _ (by show b≠w.heap.size+2;simp at hb;omega)]
  have hrd:=(hG9.lower (H':=w.heap.size) (by simp;omega)).readIn hK
  rw[Hn.out,hN,hM,hK,Hne.out]
  rw[hN,hM] at hrd
  exact⟨some ⟨b1,0,none⟩,N,some ⟨b2,0,none⟩,M,A3,c3,rfl,hrd,((H3.out.setCell (p:=⟨w.heap.size+2,0,none⟩) (by simp) _).setCell (p:=⟨w.heap.size+2,1,none⟩) (by simp) _).setCell (p:=⟨w.heap.size+2,2,none⟩) (by simp) _⟩
theorem gset_any (A B C:Option Addr) (N c M d K e:Nat) (g:Gr) (id k:Int) (s:ByteArray) (v:Vl) (w:World) (h:rGr (All w) w [.slice A N c,.slice B M d,.slice C K e] g) (htame:tameG g) (hs:byt s=v.2.1) (hv1:(Lit.int .i64 v.1).wf=true) (hv2:(Lit.int .i64 v.2.2).wf=true):
  Calls Tryz.prog 15 #[.agg #[.slice A N c,.slice B M d,.slice C K e],.int .i64 id,.int .i64 k,.agg #[.int .i64 v.1,.string s,.int .i64 v.2.2]] w fun e w'=>∃ A1 c1 B1 d1 C1 e1,e=.returned (.tuple #[.agg #[.slice A1 (setN g id k v).1.length c1,.slice B1 (setN g id k v).2.1.length d1,.slice C1 (setN g id k v).2.2.length e1],.int .i64 (setE g id k v)]) ∧
   rGr (All w') w' [.slice A1 (setN g id k v).1.length c1,.slice B1 (setN g id k v).2.1.length d1,.slice C1 (setN g id k v).2.2.length e1] (setN g id k v)∧Below w.heap.size w w':=by
 refine (gset_in A B C N c M d K e g id k s v w h htame hs hv1 hv2).mono ?_
 rintro e w' ⟨A1,c1,B1,d1,C1,e1,he,hr,hB⟩
 exact⟨A1,c1,B1,d1,C1,e1,he,rGr_stays.to (Keeps.mono fun b hb=>hb.2) hr,hB⟩
end Go.Proofs.YtnljjnkindjeoaaGreatDoor
