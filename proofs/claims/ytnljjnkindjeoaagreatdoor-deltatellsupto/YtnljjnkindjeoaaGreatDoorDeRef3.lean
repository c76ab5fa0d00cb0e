/- The contract of the document's own Kind (layer 11): are two graphs of one kind? No condition. -/
import Derived.Test.YtnljjnkindjeoaaGreatDoorDeProg
import Derived.Test.YtnljjnkindjeoaaGreatDoorGCanon
import Derived.Test.YtnljjnkindjeoaaGreatDoorGRef
import Derived.Test.YtnljjnkindjeoaaGreatDoorGGen
import Derived.Test.YtnljjnkindjeoaaGreatDoorAl
set_option maxRecDepth 100000
set_option maxHeartbeats 4000000
namespace Go.Proofs.YtnljjnkindjeoaaGreatDoor
open Go.RowKit
theorem rkind_any (A B C:Option Addr) (N c M d K e:Nat) (A1 B1 C1:Option Addr) (N1 c1 M1 d1 K1 e1:Nat) (g h:Gr) (w:World) (hg:rGr (All w) w [.slice A N c,.slice B M d,.slice C K e] g) (hh:rGr (All w) w [.slice A1 N1 c1,.slice B1 M1 d1,.slice C1 K1 e1] h):
  Calls Tryz.prog 26 #[.agg #[.slice A N c,.slice B M d,.slice C K e],.agg #[.slice A1 N1 c1,.slice B1 M1 d1,.slice C1 K1 e1]] w fun r w'=>r=.returned (.bool (kindG g h))∧Below w.heap.size w w':=by
 have hB0:Below w.heap.size w ((w.alloc (.cells #[.slice A N c,.slice B M d,.slice C K e] 28)).alloc (.cells #[.slice A1 N1 c1,.slice B1 M1 d1,.slice C1 K1 e1] 28)):=((zA _ w).alloc (zW _) _).alloc (by simp) _
 obtain⟨p0,p1⟩:=blk_two w 28 28 [.slice A N c,.slice B M d,.slice C K e] [.slice A1 N1 c1,.slice B1 M1 d1,.slice C1 K1 e1]
 obtain⟨hM1,hMd1,hdm1⟩:=slice_len (rGr_open hh).2.1
 obtain⟨hM,hMd,hdm⟩:=slice_len (rGr_open hg).2.1
 simp only[maxLen] at hdm1 hdm
 have Hg:=zZ (gr_below hB0 hg)
 have Hh:=zZ (gr_below hB0 hh)
 have HB0:=zZ hB0
 have P0:=zZ p0
 have P1:=zZ p1
 have HM1:=zZ hM1
 have HM:=zZ hM
 clear hg hh hB0 p0 p1 hM1 hM
 go_enter Tryz.func26,Tryz.ntmps26
 go_wp2
 generalize (w.alloc (.cells #[.slice A N c,.slice B M d,.slice C K e] 28)).alloc (.cells #[.slice A1 N1 c1,.slice B1 M1 d1,.slice C1 K1 e1] 28)=w1 at *
 have HS:=zZ (fun W (hW:Below w1.heap.size w1 W)=>And.intro ((P0.out.to hW).cell (j:=0) rfl) (And.intro ((P0.out.to hW).cell (j:=1) rfl) (And.intro ((P0.out.to hW).cell (j:=2) rfl) (And.intro ((P1.out.to hW).cell (j:=0) rfl) (And.intro ((P1.out.to hW).cell (j:=1) rfl) ((P1.out.to hW).cell (j:=2) rfl))))))
 have TS:=zZ (fun W (hW:Below w1.heap.size w1 W)=>rssame_any A A1 N c N1 c1 g.1 h.1 W (sch_below hW (rGr_open Hg.out).1) (sch_below hW (rGr_open Hh.out).1))
 have Hk:Hid (kindG g h=(g.2.1.all (fun o=>decide (findG h.2.1 o.1 = -1) || decide (typG h.2.1 o.1=o.2.1)) && decide (g.1=h.1))):=zZ rfl
 generalize decide (g.1=h.1)=ms at *
 go_loopw [5] (fun iv w'=>∃ i:Nat,i≤M∧iv=.int .i64 (i:Int)∧Hid (∀ j o,j<i→g.2.1[j]?=some o→(decide (findG h.2.1 o.1 = -1) || decide (typG h.2.1 o.1=o.2.1))=true)∧Hid (Below w1.heap.size w1 w')) (fun iv _=>M - (intOf iv).toNat)
 case atStart=>exact⟨0,by omega,rfl,zZ (fun j o hj=>by omega),zZ (zA _ _)⟩
 case round=>
  rename World=>wr
  obtain⟨i,hi,rfl,hall,hB⟩:=hrel
  obtain⟨a0,a1,a2,b0,b1,b2⟩:=HS.out _ hB.out
  by_cases hin:i<M
  ·obtain⟨o,ho⟩:∃ o,g.2.1[i]?=some o:=⟨_,zV (by have:=HM.out;omega)⟩
   obtain⟨b,off,A2,c2,rfl,hb,x0,x1,-,-,-,-⟩:=ob_at (rGr_open (gr_below hB.out Hg.out)).2.1 ho
   have hil:(i:Int)<(M:Int):=by omega
   have hi0:(0:Int)≤(i:Int):=by omega
   have TF:=zZ (fun W (hW:Below wr.heap.size wr W)=>rgfind_any A1 B1 C1 N1 c1 M1 d1 K1 e1 h o.1 W (gr_below (hB.out.trans (hW.mono hB.out.size)) Hh.out))
   have HSr:=zZ (fun W (hW:Below wr.heap.size wr W)=>And.intro (HS.out W (hB.out.trans (hW.mono hB.out.size))) (And.intro ((hW.cell (p:=⟨b,off+i * 3,none⟩) hb).trans x0) ((hW.cell (p:=⟨b,off+i * 3+1,none⟩) hb).trans x1)))
   have Ho:=zZ ho
   clear ho x0 x1
   go_upto_region 4 with fail
   clear a0 a1 a2 b0 b1 b2
   refine sch_start [(0,true),(1,true),(2,true),(3,true),(4,true),(5,true),(6,true),(7,false),(8,true)] (fun W=>Below wr.heap.size wr W) (by kernel_rfl) rfl (by kernel_rfl) (fun _ _ _ _ _ h=>h) ((zA _ wr).drew) (fun hH=>?_)
   repeat (first | (refine sch_yes (v:=?_) rfl rfl ?_ hH ?_;rotate_left;(focus ((intro W hW;obtain⟨⟨a0,a1,a2,b0,b1,b2⟩,x0,x1⟩:=HSr.out W hW;go_simp) <;> with_reducible rfl));simp only[Act.put,zY,zX,zQ]) | (refine sch_no rfl rfl hH ?_;simp only[Act.put,zY,zX,zQ]))
   refine sch_call rfl rfl (fun K' hK=>?_)
   go_wp2_with (go_at_call 31;refine (TF.out _ hH).mono ?_;rintro e w5 ⟨rfl,hB5⟩)
   have hD5:=hH.trans (hB5.mono hH.size)
   refine hK.out _ _ hD5 ?_
   clear hK hH hB5
   have hH:=hD5
   repeat (first | (refine sch_yes (v:=?_) rfl rfl ?_ hH ?_;rotate_left;(focus ((intro W hW;obtain⟨⟨a0,a1,a2,b0,b1,b2⟩,x0,x1⟩:=HSr.out W hW;go_simp) <;> with_reducible rfl));simp only[Act.put,zY,zX,zQ]) | (refine sch_no rfl rfl hH ?_;simp only[Act.put,zY,zX,zQ]))
   refine sch_done ?_
   have HD5:=zZ hD5
   have H5:=zZ (hB.out.trans (hD5.mono hB.out.size))
   obtain⟨⟨a0,a1,a2,b0,b1,b2⟩,x0,x1⟩:=HSr.out _ hD5
   clear hH hD5 TF
   by_cases hf:findG h.2.1 o.1 = -1
   ·have hf':decide ((0:Int)≤findG h.2.1 o.1)=false:=zK (by omega)
    have Hst:Hid (∀ j p,j<i+1→g.2.1[j]?=some p→(decide (findG h.2.1 p.1 = -1) || decide (typG h.2.1 p.1=p.2.1))=true):=zZ fun j p hj hp=>by
     by_cases e:j<i
     ·exact hall.out j p e hp
     ·obtain rfl:j=i:=by omega
      rw[Ho.out] at hp
      injection hp with hp
      subst hp
      rw[zJ hf];rfl
    clear hf Ho
    generalize findG h.2.1 o.1=fi at *
    generalize o.2.1=ot at *
    generalize o.1=oi at *
    go_wp2
    go_quiet (fail)
    go_wp2
    go_roundw
    case rel=>exact⟨i+1,by omega,by go_num,Hst,zZ (below_drewN H5.out _)⟩
    case measure=>simp[intOf];omega
   ·obtain⟨I,p,hI,hp,-,hty⟩:=findG_at hf
    have hIM:I<M1:=by have:=(List.getElem?_eq_some_iff.1 hp).1;have:=HM1.out;omega
    obtain⟨bp,offp,A4,c4,rfl,hbp,-,z1,-,-,-,-⟩:=ob_at (rGr_open (gr_below H5.out Hh.out)).2.1 hp
    have hIl:(I:Int)<(M1:Int):=by omega
    have hI0:(0:Int)≤(I:Int):=by omega
    have hf':decide ((0:Int)≤(I:Int))=true:=zJ hI0
    rw[hI]
    by_cases ht:p.2.1=o.2.1
    ·have hne:(p.2.1 != o.2.1)=false:=by simp[ht]
     have Hst:Hid (∀ j q,j<i+1→g.2.1[j]?=some q→(decide (findG h.2.1 q.1 = -1) || decide (typG h.2.1 q.1=q.2.1))=true):=zZ fun j q hj hq=>by
      by_cases e:j<i
      ·exact hall.out j q e hq
      ·obtain rfl:j=i:=by omega
       rw[Ho.out] at hq
       injection hq with hq
       subst hq
       rw[hty,zJ ht,Bool.or_true]
     clear hf Ho ht hty hp hI
     generalize p.2.1=pt at *
     generalize o.2.1=ot at *
     generalize o.1=oi at *
     go_wp2
     go_quiet (fail)
     go_wp2
     go_roundw
     case rel=>exact⟨i+1,by omega,by go_num,Hst,zZ (below_drewN H5.out _)⟩
     case measure=>simp[intOf];omega
    ·have hne:(p.2.1 != o.2.1)=true:=by simp[ht]
     have Hq:Hid (kindG g h=false):=zZ (by
      rw[Hk.out,Bool.and_eq_false_iff,List.all_eq_false]
      refine .inl ⟨o,List.mem_of_getElem? Ho.out,?_⟩
      rw[zK hf,hty,zK ht]
      decide)
     clear hf Ho ht hty hp hI
     generalize p.2.1=pt at *
     generalize o.2.1=ot at *
     generalize o.1=oi at *
     go_wp2
     go_quiet (fail)
     go_wp2
     go_ret
     exact⟨by rw[Hq.out];rfl,HB0.out.trans ((below_drewN H5.out _).mono HB0.out.size)⟩
  ·have Hq:Hid (kindG g h=ms):=zZ (by
    rw[Hk.out,List.all_eq_true.2,Bool.true_and]
    intro o ho
    obtain⟨j,hj⟩:=List.getElem?_of_mem ho
    exact hall.out j o (by have:=(List.getElem?_eq_some_iff.1 hj).1;have:=HM.out;omega) hj)
   have hin':¬ ((i:Int)<(M:Int)):=by omega
   have T:=zZ (TS.out _ hB.out)
   clear hall Hk
   go_wp2_with fail
   refine T.out.mono ?_
   rintro e w5 ⟨rfl,hB5⟩
   have H5:=zZ (hB.out.trans (hB5.mono hB.out.size))
   clear a0 a1 a2 b0 b1 b2
   go_wp2
   go_ret
   exact⟨by rw[Hq.out];rfl,HB0.out.trans (H5.out.mono HB0.out.size)⟩
end Go.Proofs.YtnljjnkindjeoaaGreatDoor
