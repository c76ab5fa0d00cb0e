/- The contract of the document's own Get (layer 10): the graph of bytes, or why there is none. Condition: at most 100000 bytes. -/
import Derived.Test.YtdlkmjfbmenedaaGreatDoorCoRef7
import Derived.Test.YtdlkmjfbmenedaaGreatDoorCoRef3
import Derived.Test.YtdlkmjfbmenedaaGreatDoorGBytes
import Derived.Test.YtdlkmjfbmenedaaGreatDoorGFlRef
import Derived.Test.YtdlkmjfbmenedaaGreatDoorAl
set_option maxRecDepth 100000
set_option maxHeartbeats 2000000
namespace Go.Proofs.YtdlkmjfbmenedaaGreatDoor
open Go.RowKit
theorem mayS_tame {s:Sch} (h:mayS s=true):tameS s:=fun t ht=>by
 obtain⟨h1,h2,h3⟩:=(mayS_small h).2 t ht
 refine⟨by unfold tame;omega,fun f hf=>?_⟩
 obtain⟨-,h4,h5⟩:=h3 f hf
 unfold tame
 omega
theorem graphL_tame {ps:List (List Nat)} {g:Gr} (h:graphL ps=some g):tameS g.1:=by
 match ps,h with
 | a :: b :: os,h=>
  rw[graphL] at h
  cases hs:readS a with
  | none=>rw[hs] at h;cases h
  | some s=>
   rw[hs] at h
   simp only[Option.bind_some] at h
   cases hr:rootsL b with
   | none=>rw[hr] at h;cases h
   | some r=>
    rw[hr] at h
    simp only[Option.bind_some] at h
    cases ho:objsL s 0 os with
    | none=>rw[ho] at h;cases h
    | some l=>
     rw[ho] at h
     injection h with h
     subst h
     exact mayS_tame ((readS_iff _ _).1 hs).1
 | [],h=>cases h
 | [_],h=>cases h
theorem codeG_none {bs:List Nat} (h:(getFl bs).2=0) (hq:graphL (getFl bs).1.2=none):codeG bs=(([],[],[]),2):=by
 rw[codeG,if_neg (by simpa using h),hq]
theorem codeG_some {bs:List Nat} {x:Gr} (h:(getFl bs).2=0) (hq:graphL (getFl bs).1.2=some x):codeG bs=if codeE x=0∧codeB x=bs then (x,0) else (([],[],[]),2):=by
 rw[codeG,if_neg (by simpa using h),hq]
theorem str_eqB {a b:List Nat} (ha:∀ x∈a,x<256) (hb:∀ x∈b,x<256):((strB a).toList == (strB b).toList)=decide (a=b):=by rw[str_beq,byt_strB ha,byt_strB hb]
def RGetSays (bs:List Nat) (w:World) (r:Ending) (w':World):Prop:=
 ∃ A1 n1 c1 B1 m1 d1 C1 k1 e1,r=.returned (.tuple #[.agg #[.slice A1 n1 c1,.slice B1 m1 d1,.slice C1 k1 e1],.int .i64 (codeG bs).2])∧rGr (All w') w' [.slice A1 n1 c1,.slice B1 m1 d1,.slice C1 k1 e1] (codeG bs).1∧Below w.heap.size w w'
theorem rcget_any (A:Option Addr) (n c:Nat) (bs:List Nat) (w:World) (hn:bs.length=n) (hc:n≤c) (hb:∀ x∈bs,x<256) (hr:Rd w A (u8s bs)) (hlen:n≤100000):
  Calls Tryz.prog 9 #[.slice A n c] w fun r w'=>RGetSays bs w r w':=by
 have hB0:Below w.heap.size w (w.alloc (.cells #[.slice none 0 0,.slice none 0 0,.slice none 0 0] 28)):=(zA _ w).alloc (zW _) _
 have p0:=Blk.new w 28 [.slice none 0 0,.slice none 0 0,.slice none 0 0]
 have s0:(w.alloc (.cells #[.slice none 0 0,.slice none 0 0,.slice none 0 0] 28)).heap.size=w.heap.size+1:=by simp
 have T1:=zZ (rfget_any A c n bs (w.alloc (.cells #[.slice none 0 0,.slice none 0 0,.slice none 0 0] 28)) hn hc hb (hr.below hB0) hlen)
 have H0:=zZ hB0
 have P0:=zZ p0
 have S0:=zZ s0
 have Hr:=zZ hr
 have Hb:=zZ hb
 have Hn:=zZ hn
 clear hB0 p0 s0 hn hb hr
 go_enter Tryz.func9,Tryz.ntmps9
 go_wp2_with fail
 generalize w.alloc (.cells #[.slice none 0 0,.slice none 0 0,.slice none 0 0] 28)=w0 at *
 refine T1.out.mono ?_
 rintro r w1 ⟨A1,c1,rfl,hp,hB1⟩
 have hB2:=hB1.alloc (o:=.cells #[.int .u32 (getFl bs).1.1,.slice A1 (getFl bs).1.2.length c1] 60) hB1.size
 have p2:=Blk.new w1 60 [.int .u32 (getFl bs).1.1,.slice A1 (getFl bs).1.2.length c1]
 have hp2:=rPts_stays.to (Keeps.below ((zA _ w1).alloc (zW _) (.cells #[.int .u32 (getFl bs).1.1,.slice A1 (getFl bs).1.2.length c1] 60))) hp
 have HB2:=zZ hB2
 have P2:=zZ p2
 have Hp2:=zZ hp2
 clear T1 hp hB1 hB2 p2 hp2
 by_cases hf:(getFl bs).2=0
 rotate_left
 ·have HQ:=zZ (codeG_flow hf)
  have HBw:=zZ (H0.out.trans (HB2.out.mono H0.out.size))
  have QQ:=zZ (P0.out.to HB2.out)
  have q0:=QQ.out
  have e0:=q0.cell (j:=0) rfl
  have e1:=q0.cell (j:=1) rfl
  have e2:=q0.cell (j:=2) rfl
  have z0:=q0.frozen 0
  have z1:=q0.frozen 1
  have z2:=q0.frozen 2
  have hf2:(((getFl bs).2:Int) == 0)=false:=beq_eq_false_iff_ne.2 (by omega)
  have hf3:(((getFl bs).2:Int) != 0)=true:=by rw[bne,hf2];rfl
  have HZ:Hid ((codeG bs).1=([],[],[])∧(codeG bs).2=((getFl bs).2:Int)):=zZ (by rw[HQ.out];exact⟨rfl,rfl⟩)
  clear hf q0 HQ P2 Hp2
  generalize (getFl bs).1.1=f1 at *
  generalize (getFl bs).1.2=f2 at *
  generalize ((getFl bs).2:Int)=E at *
  go_upto_region 2 with fail
  generalize w1.alloc (.cells #[.int .u32 f1,.slice A1 f2.length c1] 60)=w2 at *
  go_wp2
  have P9:=((QQ.out.set 0 (.slice none 0 0)).set 1 (.slice none 0 0)).set 2 (.slice none 0 0)
  refine ret_cell1 (d:=.struct _) (cs:=[.slice none 0 0,.slice none 0 0,.slice none 0 0]) rfl P9 rfl rfl rfl rfl rfl ?_
  unfold RGetSays
  rw[HZ.out.1,HZ.out.2]
  exact⟨none,0,0,none,0,0,none,0,0,rfl,rGr_none _,((HBw.out.setCell (p:=⟨w.heap.size,0,none⟩) (zW _) _).setCell (p:=⟨w.heap.size,1,none⟩) (zW _) _).setCell (p:=⟨w.heap.size,2,none⟩) (zW _) _⟩
 have hok:=(getFl_back Hb.out hf).1
 have Hsh:=zZ hok.short
 have Hfw:=zZ hok.few
 have HG0:=zZ (fun h=>codeG_none (bs:=bs) hf h)
 have HG1:=zZ (fun x h=>codeG_some (bs:=bs) (x:=x) hf h)
 have Hbl:=zZ hok.byte
 rw[hf]
 clear hf hok
 generalize hps:(getFl bs).1.2=ps at *
 generalize (getFl bs).1.1=fb at *
 clear hps
 have x1:=P2.out.cell (j:=1) rfl
 have HB02:=zZ (H0.out.trans (HB2.out.mono H0.out.size))
 have T2:=zZ (rgraph_any A1 ps.length c1 ps _ Hp2.out Hsh.out Hfw.out)
 go_wp2_with fail
 generalize w1.alloc (.cells #[.int .u32 fb,.slice A1 ps.length c1] 60)=w2 at *
 refine T2.out.mono ?_
 rintro r w3 ⟨A5,n5,c5,B5,m5,d5,C5,k5,e5,ok,g,rfl,hB3,hrg,hcs⟩
 have hB4:=hB3.alloc (o:=.cells #[.slice A5 n5 c5,.slice B5 m5 d5,.slice C5 k5 e5] 28) hB3.size
 have p4:=Blk.new w3 28 [.slice A5 n5 c5,.slice B5 m5 d5,.slice C5 k5 e5]
 have hB34:Below w3.heap.size w3 (w3.alloc (.cells #[.slice A5 n5 c5,.slice B5 m5 d5,.slice C5 k5 e5] 28)):=(zA _ w3).alloc (zW _) _
 have hrg4:rGr (fun b=>w2.heap.size≤b∧b<w3.heap.size) (w3.alloc (.cells #[.slice A5 n5 c5,.slice B5 m5 d5,.slice C5 k5 e5] 28)) [.slice A5 n5 c5,.slice B5 m5 d5,.slice C5 k5 e5] g:=rGr_stays.to (fun k hk=>⟨hk,hB34.block k hk.2⟩) hrg
 have s4:(w3.alloc (.cells #[.slice A5 n5 c5,.slice B5 m5 d5,.slice C5 k5 e5] 28)).heap.size=w3.heap.size+1:=by simp
 have htame:tameS g.1:=by
  rcases hcs with⟨h1,-⟩ | ⟨-,-,h1⟩
  ·exact graphL_tame h1
  ·rw[h1];intro t ht;cases ht
 have HB04:=zZ (HB02.out.trans (hB4.mono HB02.out.size))
 have T3:=zZ (rcput_any A5 B5 C5 n5 c5 m5 d5 k5 e5 g _ htame (rGr_stays.to (Keeps.mono fun k hk=>(show k<_ by rw[s4];have:=hk.2;omega)) hrg4))
 have P4:=zZ p4
 have Hrg4:=zZ hrg4
 have S4:=zZ s4
 have HB24:=zZ hB4
 have HB23:=zZ hB3
 have Hok4:=zZ (gr_ok hrg4)
 have Hcs:=zZ hcs
 have a0:=p4.cell (j:=0) rfl
 have a1:=p4.cell (j:=1) rfl
 have a2:=p4.cell (j:=2) rfl
 clear T2 x1 hB3 hrg hB4 p4 hB34 hrg4 s4 hcs htame
 go_wp2_with fail
 generalize w3.alloc (.cells #[.slice A5 n5 c5,.slice B5 m5 d5,.slice C5 k5 e5] 28)=w4 at *
 refine T3.out.mono ?_
 rintro r w5 ⟨B1,m,cap,rfl,hm,hmc,hrb,hB5⟩
 have HB05:=zZ (HB04.out.trans (hB5.mono HB04.out.size))
 have HB45:=zZ hB5
 have hbB:=codeB_byte Hok4.out
 have cv1:=conv_str (P:=Tryz.prog) w5 _ _ _ Tryz.underlying29 Tryz.underlying5 Tryz.underlying9 B1 (codeB g) m cap hm.symm hrb
 have cv2:=conv_str (P:=Tryz.prog) w5 _ _ _ Tryz.underlying29 Tryz.underlying5 Tryz.underlying9 A bs n c Hn.out (Hr.out.below HB05.out)
 have hse:=str_eqB hbB Hb.out
 have HBz:Hid (Below w2.heap.size w2 w5):=zZ (HB24.out.trans (HB45.out.mono HB24.out.size))
 have QQ:=zZ (P0.out.to (HB2.out.trans (HBz.out.mono HB2.out.size)))
 have q0:=QQ.out
 have e0:=q0.cell (j:=0) rfl
 have e1:=q0.cell (j:=1) rfl
 have e2:=q0.cell (j:=2) rfl
 have z0:=q0.frozen 0
 have z1:=q0.frozen 1
 have z2:=q0.frozen 2
 clear T3 hB5 a0 a1 a2 q0 hm hmc hrb hbB
 by_cases hgood:ok=true∧codeE g=0∧codeB g=bs
 ·obtain⟨rfl,h0,heq⟩:=hgood
  have HQ:Hid (codeG bs=(g,0)):=zZ (by
   rcases Hcs.out with⟨h1,-⟩ | ⟨-,h2,-⟩
   ·rw[HG1.out _ h1,if_pos ⟨h0,heq⟩]
   ·cases h2)
  have hE0:(codeE g == 0)=true:=by simpa using h0
  have q4:=P4.out.to HB45.out
  have b0:=q4.cell (j:=0) rfl
  have b1:=q4.cell (j:=1) rfl
  have b2:=q4.cell (j:=2) rfl
  have Hrg5:=zZ (rGr_stays.to (S':=fun b=>w2.heap.size≤b∧b<w3.heap.size) (w':=w5) (fun k hk=>⟨hk,HB45.out.block k (by have:=hk.2;have:=S4.out;omega)⟩) Hrg4.out)
  rw[zJ heq] at hse
  rw[h0]
  clear q4 heq h0 hE0
  generalize strB (codeB g)=t1 at *
  generalize strB bs=t2 at *
  go_wp2
  have P9:=((QQ.out.set 0 (.slice A5 n5 c5)).set 1 (.slice B5 m5 d5)).set 2 (.slice C5 k5 e5)
  refine ret_cell1 (d:=.struct _) (cs:=[.slice A5 n5 c5,.slice B5 m5 d5,.slice C5 k5 e5]) rfl P9 rfl rfl rfl rfl rfl ?_
  unfold RGetSays
  rw[HQ.out]
  refine⟨A5,n5,c5,B5,m5,d5,C5,k5,e5,rfl,rGr_stays.to (fun k hk=>?_) Hrg5.out,((HB05.out.setCell (p:=⟨w.heap.size,0,none⟩) (zW _) _).setCell (p:=⟨w.heap.size,1,none⟩) (zW _) _).setCell (p:=⟨w.heap.size,2,none⟩) (zW _) _⟩
  obtain⟨j1,j2⟩:=hk
  have m0:=S0.out
  have m1:=HB2.out.size
  have m2:=S4.out
  have m3:=HB45.out.size
  have hne:k≠w.heap.size:=by omega
  refine⟨by show k<_;simp;omega,?_⟩
  rw[Below.heap_setCell _ _ _ _ hne,Below.heap_setCell _ _ _ _ hne,Below.heap_setCell _ _ _ _ hne]
 ·have HQ:Hid (codeG bs=(([],[],[]),2)):=zZ (by
   rcases Hcs.out with⟨h1,h2⟩ | ⟨h1,-,-⟩
   ·rw[HG1.out _ h1,if_neg (fun h=>hgood ⟨h2,h⟩)]
   ·exact HG0.out h1)
  have P9:=zZ (((QQ.out.set 0 (.slice none 0 0)).set 1 (.slice none 0 0)).set 2 (.slice none 0 0))
  have HB9:=zZ (((HB05.out.setCell (p:=⟨w.heap.size,0,none⟩) (zW _) (.slice none 0 0)).setCell (p:=⟨w.heap.size,1,none⟩) (zW _) (.slice none 0 0)).setCell (p:=⟨w.heap.size,2,none⟩) (zW _) (.slice none 0 0))
  cases ok with
  | false=>
   clear hgood hse
   generalize codeE g=E at *
   generalize strB (codeB g)=t1 at *
   generalize strB bs=t2 at *
   go_wp2
   refine ret_cell1 (d:=.struct _) (cs:=[.slice none 0 0,.slice none 0 0,.slice none 0 0]) rfl P9.out rfl rfl rfl rfl rfl ?_
   unfold RGetSays
   rw[HQ.out]
   exact⟨none,0,0,none,0,0,none,0,0,rfl,rGr_none _,HB9.out⟩
  | true=>
   by_cases h0:codeE g=0
   ·have heq:codeB g≠bs:=fun h=>hgood ⟨rfl,h0,h⟩
    rw[zK heq] at hse
    rw[h0]
    clear hgood h0 heq
    generalize strB (codeB g)=t1 at *
    generalize strB bs=t2 at *
    go_wp2
    refine ret_cell1 (d:=.struct _) (cs:=[.slice none 0 0,.slice none 0 0,.slice none 0 0]) rfl P9.out rfl rfl rfl rfl rfl ?_
    unfold RGetSays
    rw[HQ.out]
    exact⟨none,0,0,none,0,0,none,0,0,rfl,rGr_none _,HB9.out⟩
   ·have hE1:(codeE g == 0)=false:=by simpa using h0
    have hE2:(codeE g != 0)=true:=by simpa using h0
    clear hgood h0 hse
    generalize codeE g=E at *
    generalize strB (codeB g)=t1 at *
    generalize strB bs=t2 at *
    go_wp2
    refine ret_cell1 (d:=.struct _) (cs:=[.slice none 0 0,.slice none 0 0,.slice none 0 0]) rfl P9.out rfl rfl rfl rfl rfl ?_
    unfold RGetSays
    rw[HQ.out]
    exact⟨none,0,0,none,0,0,none,0,0,rfl,rGr_none _,HB9.out⟩
end Go.Proofs.YtdlkmjfbmenedaaGreatDoor
