/- The contract of code's read: the graph of bytes, or a panic by why there is none. Conditions: the table of kinds' texts, and the variable errors.errorType, are laid. -/
import Derived.Test.YtdlkmjfbmenedaaGreatDoorCoGraphOf
import Derived.Test.YtdlkmjfbmenedaaGreatDoorCoCalls
import Derived.Test.YtdlkmjfbmenedaaGreatDoorGFlow
import Derived.Test.YtdlkmjfbmenedaaGreatDoorGCrc
import Derived.Test.YtdlkmjfbmenedaaGreatDoorGCanon
import Derived.Test.YtdlkmjfbmenedaaGreatDoorAl
set_option maxRecDepth 100000
set_option maxHeartbeats 2000000
namespace Go.Proofs.YtdlkmjfbmenedaaGreatDoor
open Go.RowKit
theorem codeQ_flow {bs:List Nat} (h:(getFl bs).2≠0):codeQ bs=(([],[],[]),((getFl bs).2:Int)):=if_pos h
theorem codeQ_none {bs:List Nat} (h:(getFl bs).2=0) (hq:graphQ (getFl bs).1.2=none):codeQ bs=(([],[],[]),2):=by
 rw[codeQ,if_neg (by simpa using h),hq]
theorem codeQ_some {bs:List Nat} {x:Gr} (h:(getFl bs).2=0) (hq:graphQ (getFl bs).1.2=some x):codeQ bs=if codeE x=0∧codeB x=bs then (x,0) else (([],[],[]),2):=by
 rw[codeQ,if_neg (by simpa using h),hq]
def CReadSays (bs:List Nat) (w:World) (r:Ending) (w':World):Prop:=
 ((codeQ bs).2=0∧∃ A1 n1 c1 B1 m1 d1 C1 k1 e1,r=.returned (.agg #[.slice A1 n1 c1,.slice B1 m1 d1,.slice C1 k1 e1])∧rGr (fun b=>w.heap.size≤b∧b<w'.heap.size) w' [.slice A1 n1 c1,.slice B1 m1 d1,.slice C1 k1 e1] (codeQ bs).1)∨((codeQ bs).2≠0∧r=Wrong (codeQ bs).2)
theorem cread_any (A:Option Addr) (n c:Nat) (bs:List Nat) (w:World) (hKt:Kt w) (hg:Han w) (hn:bs.length=n) (hc:n≤c) (hb:∀ x∈bs,x<256) (hr:Rd w A (u8s bs)) (hlen:n≤1000000):
  Calls Tryz.prog 24 #[.slice A n c] w fun r w'=>CReadSays bs w r w'∧Below w.heap.size w w':=by
 have hB0:Below w.heap.size w (w.alloc (.cells #[.slice none 0 0,.slice none 0 0,.slice none 0 0] 28)):=(zA _ w).alloc (zW _) _
 have p0:=Blk.new w 28 [.slice none 0 0,.slice none 0 0,.slice none 0 0]
 have s0:(w.alloc (.cells #[.slice none 0 0,.slice none 0 0,.slice none 0 0] 28)).heap.size=w.heap.size+1:=by simp
 have T1:=zZ (fget_any A c n bs _ hn hc hb (hr.below hB0) (by omega) (hg.below hB0))
 have H0:=zZ hB0
 have P0:=zZ p0
 have S0:=zZ s0
 have HK0:=zZ (hKt.below hB0)
 have HKw:=zZ (fun W (hW:Below w.heap.size w W)=>hKt.below hW)
 have Hr:=zZ hr
 have Hb:=zZ hb
 have Hn:=zZ hn
 clear hB0 p0 s0 hKt hg hn hb hr
 go_enter Tryz.func24,Tryz.ntmps24
 go_wp2_with fail
 generalize w.alloc (.cells #[.slice none 0 0,.slice none 0 0,.slice none 0 0] 28)=w0 at *
 refine T1.out.mono ?_
 rintro r w1 ⟨A1,c1,rfl,hp,hB1⟩
 have hB2:=hB1.alloc (o:=.cells #[.int .u32 (getFl bs).1.1,.slice A1 (getFl bs).1.2.length c1] 60) hB1.size
 have p2:=Blk.new w1 60 [.int .u32 (getFl bs).1.1,.slice A1 (getFl bs).1.2.length c1]
 have hp2:=rPts_stays.to (Keeps.below ((zA _ w1).alloc (zW _) (.cells #[.int .u32 (getFl bs).1.1,.slice A1 (getFl bs).1.2.length c1] 60))) hp
 have HB2:=zZ hB2
 have P2:=zZ p2
 have Hp2:=zZ hp2
 clear T1 hp hB1 hB2 p2 hp2
 by_cases hf:(getFl bs).2=0
 ·have hok:=(getFl_back Hb.out hf).1
  have Hsh:=zZ hok.short
  have Hfw:=zZ hok.few
  have Hf:=zZ hf
  rw[hf]
  clear hf hok
  generalize hps:(getFl bs).1.2=ps at *
  generalize (getFl bs).1.1=fb at *
  have Hps:=zZ hps
  clear hps
  go_wp2_with fail
  generalize w1.alloc (.cells #[.int .u32 fb,.slice A1 ps.length c1] 60)=w2 at *
  refine (must_yes 0 _).mono ?_
  rintro r w3 ⟨rfl,hw⟩
  subst hw
  have x1:=P2.out.cell (j:=1) rfl
  have HB02:=zZ (H0.out.trans (HB2.out.mono H0.out.size))
  have T2:=zZ (graphOf_any A1 ps.length c1 ps w2 (HK0.out.below HB2.out) Hp2.out Hsh.out Hfw.out)
  clear HK0
  go_wp2_with fail
  refine T2.out.mono ?_
  rintro r w3 ⟨hB3,⟨g,hgq,A5,n5,c5,B5,m5,d5,C5,k5,e5,rfl,hrg⟩ | ⟨hgq,rfl⟩⟩
  rotate_left
  ·have hq:=codeQ_none Hf.out (by rw[Hps.out];exact hgq)
   have Hq:=zZ hq
   have HB9:=zZ (HB02.out.trans (hB3.mono HB02.out.size))
   clear hq hgq hB3 T2 x1
   unfold Wrong
   go_wp2_with fail
   exact⟨rfl,.inr ⟨by rw[Hq.out];decide,by rw[Hq.out];rfl⟩,HB9.out⟩
  have hB4:=hB3.alloc (o:=.cells #[.slice A5 n5 c5,.slice B5 m5 d5,.slice C5 k5 e5] 28) hB3.size
  have p4:=Blk.new w3 28 [.slice A5 n5 c5,.slice B5 m5 d5,.slice C5 k5 e5]
  have hB34:Below w3.heap.size w3 (w3.alloc (.cells #[.slice A5 n5 c5,.slice B5 m5 d5,.slice C5 k5 e5] 28)):=(zA _ w3).alloc (zW _) _
  have hrg4:rGr (fun b=>w2.heap.size≤b∧b<w3.heap.size) (w3.alloc (.cells #[.slice A5 n5 c5,.slice B5 m5 d5,.slice C5 k5 e5] 28)) [.slice A5 n5 c5,.slice B5 m5 d5,.slice C5 k5 e5] g:=rGr_stays.to (fun k hk=>⟨hk,hB34.block k hk.2⟩) hrg
  have s4:(w3.alloc (.cells #[.slice A5 n5 c5,.slice B5 m5 d5,.slice C5 k5 e5] 28)).heap.size=w3.heap.size+1:=by simp
  have hqs:=codeQ_some Hf.out (by rw[Hps.out];exact hgq)
  have HB04:=zZ (HB02.out.trans (hB4.mono HB02.out.size))
  have T3:=zZ (cput_any A5 B5 C5 n5 c5 m5 d5 k5 e5 g _ (HKw.out _ HB04.out) (rGr_stays.to (Keeps.mono fun k hk=>(show k<_ by rw[s4];have:=hk.2;omega)) hrg4))
  have P4:=zZ p4
  have Hrg4:=zZ hrg4
  have S4:=zZ s4
  have Hqs:=zZ hqs
  have HB34:=zZ hB34
  have HB23:=zZ hB3
  have Hok4:=zZ (gr_ok hrg4)
  have a0:=p4.cell (j:=0) rfl
  have a1:=p4.cell (j:=1) rfl
  have a2:=p4.cell (j:=2) rfl
  clear T2 x1 hB3 hgq hrg hB4 p4 hB34 hrg4 s4 hqs
  go_wp2_with fail
  generalize w3.alloc (.cells #[.slice A5 n5 c5,.slice B5 m5 d5,.slice C5 k5 e5] 28)=w4 at *
  refine T3.out.mono ?_
  rintro r w5 ⟨B1,m,cap,rfl,hm,hmc,hcm,hrb,hB5⟩
  have HB05:=zZ (HB04.out.trans (hB5.mono HB04.out.size))
  have HB45:=zZ hB5
  clear T3 hB5 a0 a1 a2
  by_cases h0:codeE g=0
  rotate_left
  ·have hq:codeQ bs=(([],[],[]),2):=by rw[Hqs.out,if_neg (fun h=>h0 h.1)]
   have Hq:=zZ hq
   have he:(codeE g == 0)=false:=by simpa using h0
   clear h0 hq hm hmc hcm hrb
   generalize codeE g=E at *
   go_wp2_with fail
   refine (must_no 2 _).mono ?_
   rintro r w6 ⟨rfl,hw⟩
   subst hw
   unfold Wrong
   go_wp2_with fail
   exact⟨rfl,.inr ⟨by rw[Hq.out];decide,by rw[Hq.out];rfl⟩,HB05.out⟩
  have T4:=zZ (equal_any B1 A m cap n c (codeB g) bs w5 hm.symm Hn.out (codeB_byte Hok4.out) Hb.out hrb (Hr.out.below HB05.out))
  rw[h0]
  by_cases heq:codeB g=bs
  rotate_left
  ·have hq:codeQ bs=(([],[],[]),2):=by rw[Hqs.out,if_neg (fun h=>heq h.2)]
   have Hq:=zZ hq
   rw[show (codeB g == bs)=false by simpa using heq] at T4
   clear h0 hq hm hmc hcm hrb heq
   go_wp2_with fail
   refine T4.out.mono ?_
   rintro r w6 ⟨rfl,hw⟩
   subst hw
   go_wp2_with fail
   refine (must_no 2 _).mono ?_
   rintro r w6 ⟨rfl,hw⟩
   subst hw
   unfold Wrong
   go_wp2_with fail
   exact⟨rfl,.inr ⟨by rw[Hq.out];decide,by rw[Hq.out];rfl⟩,HB05.out⟩
  have hq:codeQ bs=(g,0):=by rw[Hqs.out,if_pos ⟨h0,heq⟩]
  have Hq:=zZ hq
  rw[show (codeB g == bs)=true by simpa using heq] at T4
  have q5:=P4.out.to HB45.out
  have b0:=q5.cell (j:=0) rfl
  have b1:=q5.cell (j:=1) rfl
  have b2:=q5.cell (j:=2) rfl
  have r5:=P0.out.to (HB2.out.trans ((HB23.out.trans (HB34.out.mono HB23.out.size)).trans (HB45.out.mono (by have:=HB23.out.size;have:=HB34.out.size;omega)) |>.mono HB2.out.size))
  have e0:=r5.cell (j:=0) rfl
  have e1:=r5.cell (j:=1) rfl
  have e2:=r5.cell (j:=2) rfl
  have z0:=r5.frozen 0
  have z1:=r5.frozen 1
  have z2:=r5.frozen 2
  have R5:=zZ r5
  have Hrg5:=zZ (rGr_stays.to (S':=fun b=>w2.heap.size≤b∧b<w3.heap.size) (w':=w5) (fun k hk=>⟨hk,HB45.out.block k (by have:=hk.2;have:=S4.out;omega)⟩) Hrg4.out)
  clear h0 hq hm hmc hcm hrb heq q5 r5
  go_wp2_with fail
  refine T4.out.mono ?_
  rintro r w6 ⟨rfl,hw⟩
  subst hw
  go_wp2_with fail
  refine (must_yes 2 _).mono ?_
  rintro r w6 ⟨rfl,hw⟩
  subst hw
  go_wp2
  have P9:=((R5.out.set 0 (.slice A5 n5 c5)).set 1 (.slice B5 m5 d5)).set 2 (.slice C5 k5 e5)
  refine ret_cell0 (d:=.struct _) (cs:=[.slice A5 n5 c5,.slice B5 m5 d5,.slice C5 k5 e5]) rfl P9 rfl rfl rfl rfl rfl ?_
  have hs:=HB45.out.size
  have hs2:=HB34.out.size
  have hs3:=HB2.out.size
  have m6:=S0.out
  have m7:=S4.out
  refine⟨.inl ⟨by rw[Hq.out],A5,n5,c5,B5,m5,d5,C5,k5,e5,rfl,?_⟩,((HB05.out.setCell (p:=⟨w.heap.size,0,none⟩) (zW _) _).setCell (p:=⟨w.heap.size,1,none⟩) (zW _) _).setCell (p:=⟨w.heap.size,2,none⟩) (zW _) _⟩
  rw[Hq.out]
  refine rGr_stays.to (fun k hk=>?_) Hrg5.out
  obtain⟨k1,k2⟩:=hk
  have hne:k≠w.heap.size:=by omega
  refine⟨⟨by omega,by have:k<w5.heap.size:=(by omega);simpa using this⟩,?_⟩
  rw[Below.heap_setCell _ _ _ _ hne,Below.heap_setCell _ _ _ _ hne,Below.heap_setCell _ _ _ _ hne]
 ·have hq:=codeQ_flow hf
  have Hq:=zZ hq
  have hE:((((getFl bs).2:Nat):Int) == 0)=false:=by simp;omega
  have HE:=zZ (show (((getFl bs).2:Nat):Int)≠0 by omega)
  have HB9:=zZ (H0.out.trans (HB2.out.mono H0.out.size))
  clear hf hq
  generalize (((getFl bs).2:Nat):Int)=E at *
  generalize (getFl bs).1.2.length=pl at *
  generalize (getFl bs).1.1=fb at *
  go_wp2_with fail
  refine (must_no E _).mono ?_
  rintro r w3 ⟨rfl,hw⟩
  subst hw
  unfold Wrong
  go_wp2_with fail
  exact⟨rfl,.inr ⟨by rw[Hq.out];exact HE.out,by rw[Hq.out];rfl⟩,HB9.out⟩
end Go.Proofs.YtdlkmjfbmenedaaGreatDoor
