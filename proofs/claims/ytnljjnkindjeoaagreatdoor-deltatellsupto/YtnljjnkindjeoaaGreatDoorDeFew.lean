/- The contract of the delta laws' Few. No condition. -/
import Derived.Test.YtnljjnkindjeoaaGreatDoorDeMem
import Derived.Test.YtnljjnkindjeoaaGreatDoorGCanon
import Derived.Test.YtnljjnkindjeoaaGreatDoorAl
set_option maxRecDepth 100000
set_option maxHeartbeats 2000000
namespace Go.Proofs.YtnljjnkindjeoaaGreatDoor
open Go.RowKit
def fewD (d:Dlt):Bool:=d.2.2.all (fun x=>decide (x.2.2.length≤12)) && decide (d.2.2.length≤12) && decide (d.2.1.length≤10)
theorem dfew_any (R L:Option Addr) (rn rc ln lc:Nat) (q:Dlt) (w:World) (hq:rDlt (All w) w [.int .u32 q.1,.slice R rn rc,.slice L ln lc] q):
  Calls Tryz.prog 6 #[.agg #[.int .u32 q.1,.slice R rn rc,.slice L ln lc]] w fun r w'=>r=.returned (.bool (fewD q))∧Below w.heap.size w w':=by
 obtain⟨-,-,hRi,hLi⟩:=rDlt_open hq
 obtain⟨hrn,hrc,hrm⟩:=slice_len hRi
 obtain⟨hll,hlc,hlm⟩:=slice_len hLi
 simp only[maxLen] at hrm hlm
 have hB0:Below w.heap.size w (w.alloc (.cells #[.int .u32 q.1,.slice R rn rc,.slice L ln lc] 32)):=(zA _ w).alloc (zW _) _
 have p0:=Blk.new w 32 [.int .u32 q.1,.slice R rn rc,.slice L ln lc]
 have HLi:=zZ (itms_below hB0 hLi)
 have Hv:Hid (fewD q=(q.2.2.all (fun x=>decide (x.2.2.length≤12)) && decide (q.2.2.length≤12) && decide (q.2.1.length≤10))):=zZ rfl
 rw[hll,hrn] at Hv
 have HB0:=zZ hB0
 have Hll:=zZ hll
 have e1:=p0.cell (j:=1) rfl
 have e2:=p0.cell (j:=2) rfl
 clear hq hRi hLi hB0 hll hrn p0
 generalize q.1=u at *
 go_enter Tryz.func6,Tryz.ntmps6
 go_wp2
 generalize w.alloc (.cells #[.int .u32 u,.slice R rn rc,.slice L ln lc] 32)=w1 at *
 go_loop [3] (fun iv=>∃ i:Nat,i≤ln∧iv=.int .i64 (i:Int)∧Hid (∀ j x,j<i→q.2.2[j]?=some x→x.2.2.length≤12)) (fun iv=>ln - (intOf iv).toNat)
 case atStart=>exact⟨0,by omega,rfl,zZ (fun j x hj=>by omega)⟩
 case round=>
  obtain⟨i,hi,rfl,hall⟩:=hrel
  by_cases hin:i<ln
  ·obtain⟨x,hx⟩:∃ x,q.2.2[i]?=some x:=⟨_,zV (by have:=Hll.out;omega)⟩
   obtain⟨b,off,A2,c2,rfl,hb,x0,x1,x2,-,-,-⟩:=itm_at HLi.out hx
   have hil:(i:Int)<(ln:Int):=by omega
   have hi0:(0:Int)≤(i:Int):=by omega
   by_cases h12:x.2.2.length≤12
   ·have h12':decide ((12:Int)<(x.2.2.length:Int))=false:=zK (by omega)
    have Hst:Hid (∀ j y,j<i+1→q.2.2[j]?=some y→y.2.2.length≤12):=zZ fun j y hj hy=>by
     by_cases e:j<i
     ·exact hall.out j y e hy
     ·obtain rfl:j=i:=by omega
      rw[hx] at hy
      injection hy with hy
      subst hy
      exact h12
    clear h12 hx
    generalize x.2.2.length=xl at *
    go_wp2
    refine⟨⟨i+1,by omega,by go_num,Hst⟩,?_⟩
    simp[intOf];omega
   ·have h12':decide ((12:Int)<(x.2.2.length:Int))=true:=zJ (by omega)
    have Hq:Hid (fewD q=false):=zZ (by
     have:q.2.2.all (fun x=>decide (x.2.2.length≤12))=false:=by
      rw[List.all_eq_false]
      exact⟨x,List.mem_of_getElem? hx,by simpa using h12⟩
     rw[Hv.out,this];rfl)
    clear h12 hx
    generalize x.2.2.length=xl at *
    go_wp2
    go_ret
    exact⟨by rw[Hq.out];rfl,HB0.out⟩
  ·have Hq:Hid (fewD q=(decide (ln≤12) && decide (rn≤10))):=zZ (by
    have:q.2.2.all (fun x=>decide (x.2.2.length≤12))=true:=by
     rw[List.all_eq_true]
     intro x hx
     obtain⟨j,hj⟩:=List.getElem?_of_mem hx
     exact zJ (hall.out j x (by have:=(List.getElem?_eq_some_iff.1 hj).1;have:=Hll.out;omega) hj)
    rw[Hv.out,this,Bool.true_and])
   by_cases h1:ln≤12
   ·have h1':decide ((ln:Int)≤12)=true:=zJ (by omega)
    have e:decide ((rn:Int)≤10)=decide (rn≤10):=by by_cases h:rn≤10 <;> simp[h] <;> omega
    rw[zJ h1,Bool.true_and,← e] at Hq
    clear h1 e
    go_wp2
    go_ret
    exact⟨by rw[Hq.out];rfl,HB0.out⟩
   ·have h1':decide ((ln:Int)≤12)=false:=zK (by omega)
    rw[zK h1,Bool.false_and] at Hq
    clear h1
    go_wp2
    go_ret
    exact⟨by rw[Hq.out];rfl,HB0.out⟩
end Go.Proofs.YtnljjnkindjeoaaGreatDoor
