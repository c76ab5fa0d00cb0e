/- The contracts of delta's sameTypes, and of what it asks of a schema alone: are two graphs that may be of one kind? No condition. -/
import Derived.Test.YtnljjnkindjeoaaGreatDoorDeProg
import Derived.Test.YtnljjnkindjeoaaGreatDoorGCanon
import Derived.Test.YtnljjnkindjeoaaGreatDoorGGraph
import Derived.Test.YtnljjnkindjeoaaGreatDoorGGen
import Derived.Test.YtnljjnkindjeoaaGreatDoorAl
set_option maxRecDepth 100000
set_option maxHeartbeats 4000000
namespace Go.Proofs.YtnljjnkindjeoaaGreatDoor
open Go.RowKit Go.Maps
theorem bare_any (A B C:Option Addr) (N c M d K e:Nat) (w:World):
  Calls Tryz.prog 50 #[.agg #[.slice A N c,.slice B M d,.slice C K e]] w fun r w'=>r=.returned (.agg #[.slice A N c,.slice none 0 0,.slice none 0 0])∧Below w.heap.size w w':=by
 have hB0:Below w.heap.size w ((w.alloc (.cells #[.slice A N c,.slice B M d,.slice C K e] 28)).alloc (.cells #[.slice A N c,.slice none 0 0,.slice none 0 0] 28)):=((zA _ w).alloc (zW _) _).alloc (by simp) _
 have p9:=(blk_two w 28 28 [.slice A N c,.slice B M d,.slice C K e] [.slice A N c,.slice none 0 0,.slice none 0 0]).2
 have c0:=(blk_two w 28 28 [.slice A N c,.slice B M d,.slice C K e] [.slice none 0 0,.slice none 0 0,.slice none 0 0]).1.cell (j:=0) rfl
 go_enter Tryz.func50,Tryz.ntmps50
 go_wp2
 refine ret_cell0 (d:=.struct _) (cs:=[.slice A N c,.slice none 0 0,.slice none 0 0]) rfl p9 rfl rfl rfl rfl rfl ?_
 exact⟨rfl,hB0⟩
theorem bare_eq {s t:Sch}:decide (((s,[],[]):Gr)=(t,[],[]))=decide (s=t):=by
 by_cases e:s=t <;> simp[e]
theorem bare_gr {w:World} {A:Option Addr} {N c:Nat} {s:Sch} (h:rSch (All w) w [.slice A N c] s):rGr (All w) w [.slice A N c,.slice none 0 0,.slice none 0 0] (s,[],[]):=by
 have h0:=rGr_none w
 exact rGr_mk h (rGr_open h0).2.1 (rGr_open h0).2.2
theorem sameTypes_any (A B C:Option Addr) (N c M d K e:Nat) (A1 B1 C1:Option Addr) (N1 c1 M1 d1 K1 e1:Nat) (g h:Gr) (w:World) (hg:rGr (All w) w [.slice A N c,.slice B M d,.slice C K e] g) (hh:rGr (All w) w [.slice A1 N1 c1,.slice B1 M1 d1,.slice C1 K1 e1] h):
  Calls Tryz.prog 18 #[.agg #[.slice A N c,.slice B M d,.slice C K e],.agg #[.slice A1 N1 c1,.slice B1 M1 d1,.slice C1 K1 e1]] w fun r w'=>r=.returned (.bool (kindQ g h))∧Below w.heap.size w w':=by
 have hB0:Below w.heap.size w ((w.alloc (.cells #[.slice A N c,.slice B M d,.slice C K e] 28)).alloc (.cells #[.slice A1 N1 c1,.slice B1 M1 d1,.slice C1 K1 e1] 28)):=((zA _ w).alloc (zW _) _).alloc (by simp) _
 obtain⟨p0,p1⟩:=blk_two w 28 28 [.slice A N c,.slice B M d,.slice C K e] [.slice A1 N1 c1,.slice B1 M1 d1,.slice C1 K1 e1]
 obtain⟨hM1,hMd1,hdm1⟩:=slice_len (rGr_open hh).2.1
 obtain⟨hM,hMd,hdm⟩:=slice_len (rGr_open hg).2.1
 simp only[maxLen] at hdm1 hdm
 have Hg:=zZ (gr_below hB0 hg)
 have Hh:=zZ (gr_below hB0 hh)
 have HB0:=zZ hB0
 have P0:=zZ p0
 have P1:=zZ p1
 have HM1:=zZ hM1
 have HM:=zZ hM
 clear hg hh hB0 p0 p1 hM1 hM
 go_enter Tryz.func18,Tryz.ntmps18
 go_upto_region 2 with fail
 generalize (w.alloc (.cells #[.slice A N c,.slice B M d,.slice C K e] 28)).alloc (.cells #[.slice A1 N1 c1,.slice B1 M1 d1,.slice C1 K1 e1] 28)=w1 at *
 have HS:=zZ (fun W (hW:Below w1.heap.size w1 W)=>And.intro ((P0.out.to hW).cell (j:=0) rfl) (And.intro ((P0.out.to hW).cell (j:=1) rfl) (And.intro ((P0.out.to hW).cell (j:=2) rfl) (And.intro ((P1.out.to hW).cell (j:=0) rfl) (And.intro ((P1.out.to hW).cell (j:=1) rfl) ((P1.out.to hW).cell (j:=2) rfl))))))
 have TS:=zZ (fun W (hW:Below w1.heap.size w1 W)=>gsame_any A none none N c 0 0 0 0 A1 none none N1 c1 0 0 0 0 (g.1,[],[]) (h.1,[],[]) W (bare_gr (sch_below hW (rGr_open Hg.out).1)) (bare_gr (sch_below hW (rGr_open Hh.out).1)))
 rw[bare_eq] at TS
 have Hk:Hid (kindQ g h=(decide (g.1=h.1) && h.2.1.all (fun o=>decide (findG g.2.1 o.1 = -1) || decide (typG g.2.1 o.1=o.2.1)))):=zZ rfl
 generalize decide (g.1=h.1)=ms at *
 refine sch_start [(0,true),(1,true),(3,true),(4,true),(2,false),(5,false),(6,false),(7,true)] (fun W=>Below w1.heap.size w1 W) (by kernel_rfl) rfl (by kernel_rfl) (fun _ _ _ _ _ h=>h) ((zA _ w1).drew) (fun hH=>?_)
 repeat (first | (refine sch_yes (v:=?_) rfl rfl ?_ hH ?_;rotate_left;(focus ((intro W hW;obtain⟨a0,a1,a2,b0,b1,b2⟩:=HS.out W hW;go_simp) <;> with_reducible rfl));simp only[Act.put,zY,zX,zQ]) | (refine sch_no rfl rfl hH ?_;simp only[Act.put,zY,zX,zQ]))
 refine sch_call rfl rfl (fun K' hK=>?_)
 go_wp2_with (go_at_call 50;refine (bare_any A B C N c M d K e _).mono ?_;rintro e w2 ⟨rfl,hB2⟩)
 have hD2:=hH.trans (hB2.mono hH.size)
 refine hK.out _ _ hD2 ?_
 clear hK hH hB2
 have hH:=hD2
 repeat (first | (refine sch_yes (v:=?_) rfl rfl ?_ hH ?_;rotate_left;(focus ((intro W hW;obtain⟨a0,a1,a2,b0,b1,b2⟩:=HS.out W hW;go_simp) <;> with_reducible rfl));simp only[Act.put,zY,zX,zQ]) | (refine sch_no rfl rfl hH ?_;simp only[Act.put,zY,zX,zQ]))
 refine sch_call rfl rfl (fun K' hK=>?_)
 go_wp2_with (go_at_call 50;refine (bare_any A1 B1 C1 N1 c1 M1 d1 K1 e1 _).mono ?_;rintro e w3 ⟨rfl,hB3⟩)
 have hD3:=hH.trans (hB3.mono hH.size)
 refine hK.out _ _ hD3 ?_
 clear hK hH hB3 hD2
 have hH:=hD3
 refine sch_call rfl rfl (fun K' hK=>?_)
 go_wp2_with (go_at_call 33;refine (TS.out _ hD3).mono ?_;rintro e w4 ⟨rfl,hB4⟩)
 have hD4:=hH.trans (hB4.mono hH.size)
 refine hK.out _ _ hD4 ?_
 clear hK hH hB4 hD3
 have hH:=hD4
 repeat (first | (refine sch_yes (v:=?_) rfl rfl ?_ hH ?_;rotate_left;(focus ((intro W hW;obtain⟨a0,a1,a2,b0,b1,b2⟩:=HS.out W hW;go_simp) <;> with_reducible rfl));simp only[Act.put,zY,zX,zQ]) | (refine sch_no rfl rfl hH ?_;simp only[Act.put,zY,zX,zQ]))
 refine sch_done ?_
 have H14:=zZ hH
 clear hH hD4 TS
 cases ms
 ·have Hq:Hid (kindQ g h=false):=zZ (by rw[Hk.out];rfl)
  go_wp2
  go_ret
  exact⟨by rw[Hq.out];rfl,HB0.out.trans (H14.out.mono HB0.out.size)⟩
 rw[Bool.true_and] at Hk
 simp only[Bool.not_true]
 obtain⟨a0,a1,a2,b0,b1,b2⟩:=HS.out _ H14.out
 go_wp2
 clear a0 a1 a2 b0 b1 b2
 go_loopw [20] (fun iv w'=>∃ i:Nat,i≤M1∧iv=.int .i64 (i:Int)∧Hid (∀ j o,j<i→h.2.1[j]?=some o→(decide (findG g.2.1 o.1 = -1) || decide (typG g.2.1 o.1=o.2.1))=true)∧Hid (Below w1.heap.size w1 w')) (fun iv _=>M1 - (intOf iv).toNat)
 case atStart=>exact⟨0,by omega,rfl,zZ (fun j o hj=>by omega),H14⟩
 case round=>
  rename World=>wr
  obtain⟨i,hi,rfl,hall,hB⟩:=hrel
  clear H14
  by_cases hin:i<M1
  ·obtain⟨o,ho⟩:∃ o,h.2.1[i]?=some o:=⟨_,zV (by have:=HM1.out;omega)⟩
   obtain⟨b,off,A2,c2,rfl,hb,x0,x1,x2,-,-,-⟩:=ob_at (rGr_open (gr_below hB.out Hh.out)).2.1 ho
   have hil:(i:Int)<(M1:Int):=by omega
   have hi0:(0:Int)≤(i:Int):=by omega
   have hBa:Below wr.heap.size wr (wr.alloc (.cells #[.int .i64 o.1,.int .i64 o.2.1,.slice A2 o.2.2.length c2] 53)):=(zA _ wr).alloc (zW _) _
   have bo:=Blk.new wr 53 [.int .i64 o.1,.int .i64 o.2.1,.slice A2 o.2.2.length c2]
   have hBw:=hB.out.trans (hBa.mono hB.out.size)
   have TF:=zZ (gfind_any A B C N c M d K e g o.1 _ (gr_below hBw Hg.out))
   obtain⟨a0,a1,a2,-,-,-⟩:=HS.out _ hBw
   have n0:=bo.cell (j:=0) rfl
   have BO:=zZ bo
   have HBw:=zZ hBw
   have Ho:=zZ ho
   clear hBa bo hBw ho
   go_wp2_with fail
   refine TF.out.mono ?_
   rintro e w5 ⟨rfl,hB5⟩
   have H5:=zZ (HBw.out.trans (hB5.mono HBw.out.size))
   have bo5:=BO.out.to hB5
   clear hB5 TF a0 a1 a2 n0
   obtain⟨a0,a1,a2,-,-,-⟩:=HS.out _ H5.out
   have n1:=bo5.cell (j:=1) rfl
   by_cases hf:findG g.2.1 o.1 = -1
   ·have hf':(findG g.2.1 o.1 != -1)=false:=by simp[hf]
    have Hst:Hid (∀ j p,j<i+1→h.2.1[j]?=some p→(decide (findG g.2.1 p.1 = -1) || decide (typG g.2.1 p.1=p.2.1))=true):=zZ fun j p hj hp=>by
     by_cases e:j<i
     ·exact hall.out j p e hp
     ·obtain rfl:j=i:=by omega
      rw[Ho.out] at hp
      injection hp with hp
      subst hp
      rw[zJ hf];rfl
    clear hf Ho bo5
    generalize findG g.2.1 o.1=fi at *
    generalize o.2.1=ot at *
    generalize o.1=oi at *
    generalize o.2.2.length=ol at *
    go_wp2
    go_quiet (fail)
    go_wp2
    go_roundw
    case rel=>exact⟨i+1,by omega,by go_num,Hst,zZ (below_drewN H5.out _)⟩
    case measure=>simp[intOf];omega
   ·obtain⟨I,p,hI,hp,-,hty⟩:=findG_at hf
    have hIM:I<M:=by have:=(List.getElem?_eq_some_iff.1 hp).1;have:=HM.out;omega
    obtain⟨bp,offp,A4,c4,rfl,hbp,z0,z1,z2,-,-,-⟩:=ob_at (rGr_open (gr_below H5.out Hg.out)).2.1 hp
    have hf':((I:Int) != -1)=true:=by rw[bne_iff_ne];omega
    have hIl:(I:Int)<(M:Int):=by omega
    have hI0:(0:Int)≤(I:Int):=by omega
    rw[hI]
    by_cases ht:p.2.1=o.2.1
    ·have hne:(p.2.1 != o.2.1)=false:=by simp[ht]
     have Hst:Hid (∀ j q,j<i+1→h.2.1[j]?=some q→(decide (findG g.2.1 q.1 = -1) || decide (typG g.2.1 q.1=q.2.1))=true):=zZ fun j q hj hq=>by
      by_cases e:j<i
      ·exact hall.out j q e hq
      ·obtain rfl:j=i:=by omega
       rw[Ho.out] at hq
       injection hq with hq
       subst hq
       rw[hty,zJ ht,Bool.or_true]
     clear hf Ho bo5 ht hty hp hI
     generalize p.2.1=pt at *
     generalize o.2.1=ot at *
     generalize o.1=oi at *
     generalize o.2.2.length=ol at *
     go_wp2
     go_quiet (fail)
     go_wp2
     go_roundw
     case rel=>exact⟨i+1,by omega,by go_num,Hst,zZ (below_drewN H5.out _)⟩
     case measure=>simp[intOf];omega
    ·have hne:(p.2.1 != o.2.1)=true:=by simp[ht]
     have Hq:Hid (kindQ g h=false):=zZ (by
      rw[Hk.out,List.all_eq_false]
      refine⟨o,List.mem_of_getElem? Ho.out,?_⟩
      rw[zK hf,hty,zK ht]
      decide)
     clear hf Ho bo5 ht hty hp hI
     generalize p.2.1=pt at *
     generalize o.2.1=ot at *
     generalize o.1=oi at *
     generalize o.2.2.length=ol at *
     go_wp2
     go_quiet (fail)
     go_wp2
     go_ret
     exact⟨by rw[Hq.out];rfl,HB0.out.trans ((below_drewN H5.out _).mono HB0.out.size)⟩
  ·have Hq:Hid (kindQ g h=true):=zZ (by
    rw[Hk.out,List.all_eq_true]
    intro o ho
    obtain⟨j,hj⟩:=List.getElem?_of_mem ho
    exact hall.out j o (by have:=(List.getElem?_eq_some_iff.1 hj).1;have:=HM1.out;omega) hj)
   go_wp2
   go_ret
   exact⟨by rw[Hq.out];rfl,HB0.out.trans (hB.out.mono HB0.out.size)⟩
end Go.Proofs.YtnljjnkindjeoaaGreatDoor
