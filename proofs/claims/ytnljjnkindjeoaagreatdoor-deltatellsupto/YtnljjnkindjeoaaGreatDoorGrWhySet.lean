/- The contract of graph's whyNoSet. Nothing that was there is changed. -/
import Derived.Test.YtnljjnkindjeoaaGreatDoorGPlain
import Derived.Test.YtnljjnkindjeoaaGreatDoorGGraph
import Derived.Test.YtnljjnkindjeoaaGreatDoorAl
set_option maxRecDepth 100000
set_option maxHeartbeats 2000000
namespace Go.Proofs.YtnljjnkindjeoaaGreatDoor
open Go.RowKit
theorem whyNoSet_any (A B C:Option Addr) (N c M d K e:Nat) (g:Gr) (id k:Int) (s:ByteArray) (v:Vl) (w:World) (h:rGr (All w) w [.slice A N c,.slice B M d,.slice C K e] g) (hs:byt s=v.2.1):
  Calls Tryz.prog 44 #[.agg #[.slice A N c,.slice B M d,.slice C K e],.int .i64 id,.int .i64 k,.agg #[.int .i64 v.1,.string s,.int .i64 v.2.2]] w fun e w'=>e=.returned (.int .i64 (setE g id k v))∧Below w.heap.size w w':=by
 have hB0:Below w.heap.size w ((w.alloc (.cells #[.slice A N c,.slice B M d,.slice C K e] 28)).alloc (.cells #[.int .i64 v.1,.string s,.int .i64 v.2.2] 47)):=((zA _ w).alloc (zW _) _).alloc (by simp) _
 obtain⟨p1,p2⟩:=blk_two w 28 47 [.slice A N c,.slice B M d,.slice C K e] [.int .i64 v.1,.string s,.int .i64 v.2.2]
 obtain⟨hN,hNc,hcm⟩:=slice_len (rGr_open h).1
 obtain⟨hM,hMd,hdm⟩:=slice_len (rGr_open h).2.1
 have T1:=zZ (gmay_any A B C N c M d K e g _ (gr_below hB0 h))
 have T2:=zZ (fun W (hW:Below w.heap.size w W)=>gfind_any A B C N c M d K e g id W (gr_below hW h))
 have T4:=zZ (fun W (hW:Below w.heap.size w W) x y f hy=>mayHave_any A B C N c M d K e g x y s f v W (gr_below hW h) hy hs)
 have Hg:=zZ (fun W (hW:Below w.heap.size w W)=>gr_below hW h)
 have Hv:Hid (setE g id k v=if mayG g=true then if findG g.2.1 id≠-1∧(decide (0≤k) && decide (k<((objG g.2.1 id).2.2.length:Int)))=true then if haveG g ((fldsG g.1 (objG g.2.1 id).2.1).getD k.toNat ([],0,[])) v=true then 0 else 6 else 11 else 1):=zZ rfl
 have HB0:=zZ hB0
 clear h hB0 hs
 generalize setE g id k v=r at *
 generalize hmg:mayG g=m1 at *
 generalize v.1=n1 at *
 generalize v.2.2=n2 at *
 go_enter Tryz.func44,Tryz.ntmps44
 go_wp2_with fail
 refine T1.out.mono ?_
 rintro e w1 ⟨rfl,hB1⟩
 have H1:=zZ (HB0.out.trans (hB1.mono HB0.out.size))
 replace p1:=p1.to hB1
 replace p2:=p2.to hB1
 clear hB1 HB0 T1
 cases m1
 ·rw[if_neg (by simp)] at Hv
  go_wp2
  go_ret
  exact⟨by rw[Hv.out];rfl,H1.out⟩
 rw[if_pos rfl] at Hv
 have c0:=p1.cell (j:=0) rfl
 have c1:=p1.cell (j:=1) rfl
 have c2:=p1.cell (j:=2) rfl
 have Hfa:=zZ (fun h=>findG_at (os:=g.2.1) (id:=id) h)
 have Hob:=zZ (fun i o h1 h2=>objG_at (os:=g.2.1) (id:=id) (i:=i) (o:=o) h1 h2)
 generalize findG g.2.1 id=q at *
 go_wp2_with fail
 refine (T2.out _ H1.out).mono ?_
 rintro e w2 ⟨rfl,hB2⟩
 have H2:=zZ (H1.out.trans (hB2.mono H1.out.size))
 replace p1:=p1.to hB2
 replace p2:=p2.to hB2
 clear hB2 c0 c1 c2 H1 T2
 have c1:=p1.cell (j:=1) rfl
 by_cases hq:q = -1
 ·subst hq
  rw[if_neg (by simp)] at Hv
  go_wp2
  go_ret
  exact⟨by rw[Hv.out];rfl,H2.out⟩
 obtain⟨I,o,rfl,hgi,-,-⟩:=Hfa.out hq
 rw[Hob.out I o rfl hgi] at Hv
 have hIM:I<M:=by have:=(List.getElem?_eq_some_iff.1 hgi).1;omega
 obtain⟨b,off,A2,c2',rfl,hb,x0,x1,x2,hvs,-,-⟩:=ob_at (rGr_open (Hg.out _ H2.out)).2.1 hgi
 have hq':((I:Int) == -1)=false:=by rw[beq_eq_false_iff_ne];omega
 have hil:(I:Int)<(M:Int):=by omega
 have hi0:(0:Int)≤(I:Int):=by omega
 have T3:=zZ (fun W=>isPlace_any k (o.2.2.length:Int) W)
 have mo:=mayG_obj hmg (List.mem_of_getElem? hgi)
 have t0:=mo.t0
 have t1:=mo.t1
 have hlen:=mo.len
 clear mo Hfa Hob hq hgi
 by_cases hp:(decide (0≤k) && decide (k<(o.2.2.length:Int)))=true
 ·rw[if_pos ⟨by omega,hp⟩] at Hv
  rw[hp] at T3
  obtain⟨kn,hkn⟩:∃ kn:Nat,k=(kn:Int):=⟨k.toNat,by simp at hp;omega⟩
  have hkl:kn<o.2.2.length:=by simp at hp;omega
  obtain⟨t,ht⟩:∃ t:Nat,o.2.1=(t:Int):=⟨o.2.1.toNat,by omega⟩
  have htN:t<N:=by omega
  obtain⟨ty,hty⟩:∃ ty,g.1[t]?=some ty:=⟨_,zV (by omega)⟩
  obtain⟨bt,offt,st,AF,cF,rfl,hbt,-,y1,-,-,hfs⟩:=typ_at (rGr_open (Hg.out _ H2.out)).1 hty
  rw[fldsG_at ht hty] at hlen Hv
  obtain⟨f,hfk⟩:∃ f,ty.2[kn]?=some f:=⟨_,zV (by omega)⟩
  obtain⟨bf,offf,sx,tx,rfl,hbf,z0,z1,z2,-,hy,-,-,-⟩:=fld_at hfs hfk
  rw[hkn,Int.toNat_natCast,List.getD_eq_getElem?_getD,hfk,Option.getD_some] at Hv
  have T5:=zZ (fun W hW=>T4.out W hW sx tx f hy)
  have d0:=p1.cell (j:=0) rfl
  have d2:=p1.cell (j:=2) rfl
  have v0:=p2.cell (j:=0) rfl
  have v1:=p2.cell (j:=1) rfl
  have v2:=p2.cell (j:=2) rfl
  have hkl':(kn:Int)<(ty.2.length:Int):=by omega
  have hk0:(0:Int)≤(kn:Int):=by omega
  have htl:(t:Int)<(N:Int):=by omega
  have ht0:(0:Int)≤(t:Int):=by omega
  rw[ht] at x1
  subst hkn
  clear hty hfk T4 Hg hfs hvs hlen t0 t1 hy hp ht
  generalize haveG g f v=m3 at *
  generalize o.2.2.length=vl at *
  generalize ty.2.length=fl at *
  generalize f.2.1=kk at *
  go_wp2_with fail
  refine (T3.out _).mono ?_
  rintro e w3 ⟨rfl,rfl⟩
  have l1:=p1.lt
  have l2:=p2.lt
  clear p1 p2
  have S0:=And.intro (d0) (And.intro (c1) (And.intro (d2) (And.intro (x1) (And.intro (y1) (And.intro (z0) (And.intro (z1) (And.intro (z2) (And.intro (v0) (And.intro (v1) (v2))))))))))
  clear d0 d2 x0 x1 x2 y1 z0 z1 z2 v0 v1 v2
  go_wp2
  refine sch_start [(0,true),(1,true),(2,true),(3,true),(4,true),(5,true),(6,true),(7,true),(8,true),(9,true),(10,true),(11,true),(12,true),(13,true),(14,true),(15,true),(16,true),(17,false),(18,true)]
   (fun W=>W.cell? ⟨w.heap.size,0,none⟩=some (.slice (some ⟨bt,offt,none⟩) N c)∧W.cell? ⟨w.heap.size,1,none⟩=some (.slice (some ⟨b,off,none⟩) M d)∧W.cell? ⟨w.heap.size,2,none⟩=some (.slice C K e)∧W.cell? ⟨b,off+I * 3+1,none⟩=some (.int .i64 (t:Int))∧W.cell? ⟨bt,offt+t * 2+1,none⟩=some (.slice (some ⟨bf,offf,none⟩) fl cF)∧W.cell? ⟨bf,offf+kn * 3,none⟩=some (.string sx)∧W.cell? ⟨bf,offf+kn * 3+1,none⟩=some (.int .i64 kk)∧W.cell? ⟨bf,offf+kn * 3+2,none⟩=some (.string tx)∧W.cell? ⟨w.heap.size+1,0,none⟩=some (.int .i64 n1)∧W.cell? ⟨w.heap.size+1,1,none⟩=some (.string s)∧W.cell? ⟨w.heap.size+1,2,none⟩=some (.int .i64 n2)) (by kernel_rfl) rfl (by kernel_rfl) (fun _ _ _ _ _ h=>h) S0 (fun hH=>?_)
  repeat (first | (refine sch_yes (v:=?_) rfl rfl ?_ hH ?_;rotate_left;(focus ((rintro W ⟨hW0,hW1,hW2,hW3,hW4,hW5,hW6,hW7,hW8,hW9,hW10⟩;go_simp) <;> with_reducible rfl));simp only[Act.put,zY,zX,zQ]) | (refine sch_no rfl rfl hH ?_;simp only[Act.put,zY,zX,zQ]))
  refine sch_call rfl rfl (fun K' hK=>?_)
  go_wp2_with (go_at_call 84;refine (T5.out _ H2.out.drew).mono ?_;rintro e w8 ⟨rfl,hC8⟩)
  have hC9:Below w3.heap.size w3 w8:=(zA w3.heap.size w3).drew.trans hC8
  have hH8:=And.intro ((hC9.cell (p:=⟨w.heap.size,0,none⟩) l1).trans S0.1) (And.intro ((hC9.cell (p:=⟨w.heap.size,1,none⟩) l1).trans S0.2.1) (And.intro ((hC9.cell (p:=⟨w.heap.size,2,none⟩) l1).trans S0.2.2.1) (And.intro ((hC9.cell (p:=⟨b,off+I * 3+1,none⟩) hb).trans S0.2.2.2.1) (And.intro ((hC9.cell (p:=⟨bt,offt+t * 2+1,none⟩) hbt).trans S0.2.2.2.2.1) (And.intro ((hC9.cell (p:=⟨bf,offf+kn * 3,none⟩) hbf).trans S0.2.2.2.2.2.1) (And.intro ((hC9.cell (p:=⟨bf,offf+kn * 3+1,none⟩) hbf).trans S0.2.2.2.2.2.2.1) (And.intro ((hC9.cell (p:=⟨bf,offf+kn * 3+2,none⟩) hbf).trans S0.2.2.2.2.2.2.2.1) (And.intro ((hC9.cell (p:=⟨w.heap.size+1,0,none⟩) l2).trans S0.2.2.2.2.2.2.2.2.1) (And.intro ((hC9.cell (p:=⟨w.heap.size+1,1,none⟩) l2).trans S0.2.2.2.2.2.2.2.2.2.1) ((hC9.cell (p:=⟨w.heap.size+1,2,none⟩) l2).trans S0.2.2.2.2.2.2.2.2.2.2))))))))))
  refine hK.out _ _ hH8 ?_
  clear hK hH
  have hH:=hH8
  repeat (first | (refine sch_yes (v:=?_) rfl rfl ?_ hH ?_;rotate_left;(focus ((rintro W ⟨hW0,hW1,hW2,hW3,hW4,hW5,hW6,hW7,hW8,hW9,hW10⟩;go_simp) <;> with_reducible rfl));simp only[Act.put,zY,zX,zQ]) | (refine sch_no rfl rfl hH ?_;simp only[Act.put,zY,zX,zQ]))
  refine sch_done ?_
  clear hH hH8
  have H9:=zZ (H2.out.trans (hC9.mono H2.out.size))
  cases m3
  ·rw[if_neg (by simp)] at Hv
   go_wp2
   go_ret
   exact⟨by rw[Hv.out];rfl,H9.out⟩
  ·rw[if_pos (by trivial)] at Hv
   go_wp2
   go_ret
   exact⟨by rw[Hv.out];rfl,H9.out⟩
 ·have hp':(decide (0≤k) && decide (k<(o.2.2.length:Int)))=false:=by simpa using hp
  rw[if_neg (by rintro⟨-,h2⟩;exact hp h2)] at Hv
  rw[hp'] at T3
  clear hp hp'
  generalize o.2.2.length=vl at *
  go_wp2_with fail
  refine (T3.out _).mono ?_
  rintro e w3 ⟨rfl,rfl⟩
  go_wp2
  go_ret
  exact⟨by rw[Hv.out];rfl,H2.out⟩
end Go.Proofs.YtnljjnkindjeoaaGreatDoor
