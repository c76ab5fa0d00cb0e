/- The contracts of the document's own items, Same and Kind (layer 11). Nothing that was there is changed. No condition. -/
import Derived.Test.YtnljjnkindjeoaaGreatDoorDeSame
import Derived.Test.YtnljjnkindjeoaaGreatDoorGCanon
import Derived.Test.YtnljjnkindjeoaaGreatDoorGRef
import Derived.Test.YtnljjnkindjeoaaGreatDoorGGen
import Derived.Test.YtnljjnkindjeoaaGreatDoorAl
set_option maxRecDepth 100000
set_option maxHeartbeats 4000000
namespace Go.Proofs.YtnljjnkindjeoaaGreatDoor
open Go.RowKit
theorem ritems_any (A B:Option Addr) (n c m d:Nat) (l1 l2:List Itm) (w:World) (h1:rItms (All w) w [.slice A n c] l1) (h2:rItms (All w) w [.slice B m d] l2):
  Calls Tryz.prog 35 #[.slice A n c,.slice B m d] w fun e w'=>e=.returned (.bool (decide (l1=l2)))∧Below w.heap.size w w':=by
 obtain⟨hn,hnc,hcm⟩:=slice_len h1
 obtain⟨hm,hmd,hdm⟩:=slice_len h2
 simp only[maxLen] at hcm hdm
 by_cases hnm:n=m
 ·subst hnm
  have hnn:((n:Int) != (n:Int))=false:=by simp
  go_enter Tryz.func35,Tryz.ntmps35
  go_wp2
  go_loopw [5] (fun iv w'=>∃ i:Nat,i≤n∧iv=.int .i64 (i:Int)∧Hid (Below w.heap.size w w')∧Hid (∀ j,j<i→l1[j]?=l2[j]?)) (fun iv _=>n - (intOf iv).toNat)
  case atStart=>exact⟨0,by omega,rfl,zZ (zA _ _),zZ fun j hj=>by omega⟩
  case round=>
   rename World=>wr
   obtain⟨i,hi,rfl,hB,hsame⟩:=hrel
   by_cases hin:i<n
   ·obtain⟨F1,hl1⟩:∃ F,l1[i]?=some F:=⟨_,zV (by omega)⟩
    obtain⟨F2,hl2⟩:∃ F,l2[i]?=some F:=⟨_,zV (by omega)⟩
    obtain⟨b1,off1,A1,c1,rfl,hb1,p1,p2,p3,hs1,-,-⟩:=itm_at (itms_below hB.out h1) hl1
    obtain⟨b2,off2,A2,c2,rfl,hb2,q1,q2,q3,hs2,-,-⟩:=itm_at (itms_below hB.out h2) hl2
    have hil:(i:Int)<(n:Int):=by omega
    have hi0:(0:Int)≤(i:Int):=by omega
    have Hne:Hid (F1≠F2→decide (l1=l2)=false):=zZ fun he=>zK fun e=>he (by subst e;rw[hl1] at hl2;exact Option.some.inj hl2)
    have Heq:Hid (F1=F2→∀ j,j<i+1→l1[j]?=l2[j]?):=zZ fun he j hj=>by
     by_cases hji:j<i
     ·exact hsame.out j hji
     ·obtain rfl:j=i:=by omega
      rw[hl1,hl2,he]
    obtain⟨hz1,hzc1,hzm1⟩:=slice_len hs1
    obtain⟨hz2,hzc2,hzm2⟩:=slice_len hs2
    simp only[maxLen] at hzm1 hzm2
    have Hs1:=zZ hs1
    have Hs2:=zZ hs2
    have HF1:Hid (F1=(F1.1,F1.2.1,F1.2.2)):=zZ rfl
    have HF2:Hid (F2=(F2.1,F2.2.1,F2.2.2)):=zZ rfl
    clear hl1 hl2 hsame h1 h2 hs1 hs2 hz1 hz2
    by_cases e1:F1.1=F2.1
    case neg=>
     have k1:(F1.1 != F2.1)=true:=by simp[e1]
     have Hr:=zZ (Hne.out fun e=>e1 (by rw[e]))
     clear Hne Heq e1 HF1 HF2 Hs1 Hs2
     generalize F1.1=x1 at *
     generalize F2.1=y1 at *
     go_wp2
     go_quiet (fail)
     go_wp2
     go_ret
     exact⟨by rw[Hr.out];rfl,below_drewN hB.out _⟩
    have k1:(F1.1 != F2.1)=false:=by simp[e1]
    by_cases e2:F1.2.1=F2.2.1
    case neg=>
     have k2:(F1.2.1 != F2.2.1)=true:=by simp[e2]
     have Hr:=zZ (Hne.out fun e=>e2 (by rw[e]))
     clear Hne Heq e1 e2 HF1 HF2 Hs1 Hs2
     generalize F1.1=x1 at *
     generalize F2.1=y1 at *
     generalize F1.2.1=x2 at *
     generalize F2.2.1=y2 at *
     go_wp2
     go_quiet (fail)
     go_wp2
     go_ret
     exact⟨by rw[Hr.out];rfl,below_drewN hB.out _⟩
    have k2:(F1.2.1 != F2.2.1)=false:=by simp[e2]
    generalize hs1d:F1.2.2=s1 at *
    generalize hs2d:F2.2.2=s2 at *
    by_cases e3:s1.length=s2.length
    case neg=>
     have k3:((s1.length:Int) != (s2.length:Int))=true:=by rw[bne_iff_ne];omega
     have Hr:=zZ (Hne.out fun e=>e3 (by rw[← hs1d,← hs2d,e]))
     clear Hne Heq e1 e2 e3 HF1 HF2 Hs1 Hs2 hs1d hs2d
     generalize F1.1=x1 at *
     generalize F2.1=y1 at *
     generalize F1.2.1=x2 at *
     generalize F2.2.1=y2 at *
     generalize s1.length=z1 at *
     generalize s2.length=z2 at *
     go_wp2
     go_quiet (fail)
     go_wp2
     go_ret
     exact⟨by rw[Hr.out];rfl,below_drewN hB.out _⟩
    have Hs1d:=zZ hs1d
    have Hs2d:=zZ hs2d
    have HE:Hid (s1=s2→F1=F2):=zZ fun e=>by rw[HF1.out,HF2.out,e1,e2,e]
    have HN:Hid (s1≠s2→decide (l1=l2)=false):=zZ fun e=>Hne.out fun e'=>e (by rw[← Hs1d.out,← Hs2d.out,e'])
    clear hs1d hs2d HF1 HF2 Hne e1 e2 Hs1d Hs2d
    generalize F1.1=x1 at *
    generalize F2.1=y1 at *
    generalize F1.2.1=x2 at *
    generalize F2.2.1=y2 at *
    rw[← e3] at q3 Hs2
    generalize hz:s1.length=z at *
    have k3:((z:Int) != (z:Int))=false:=by simp
    have Hz1:=zZ hz
    have Hz2:=zZ e3
    clear hz e3
    have HC:=zZ (fun W (hW:Below wr.heap.size wr W)=>And.intro ((hW.cell (p:=⟨b1,off1+i * 3+2,none⟩) hb1).trans p3) ((hW.cell (p:=⟨b2,off2+i * 3+2,none⟩) hb2).trans q3))
    go_wp2
    go_quiet (fail)
    go_wp2
    have HBd:=zZ (below_drewN hB.out 1)
    clear p1 p2 p3 q1 q2 q3
    go_loopw [6] (fun kv w'=>∃ k:Nat,k≤z∧kv=.int .i64 (k:Int)∧Hid (Below wr.heap.size wr w')∧Hid (∀ j,j<k→s1[j]?=s2[j]?)) (fun kv _=>z - (intOf kv).toNat)
    case atStart=>exact⟨0,by omega,rfl,zZ (below_drewN (zA _ _) _),zZ fun j hj=>by omega⟩
    case round=>
     rename World=>wq
     obtain⟨k,hk,rfl,hD,hkk⟩:=hrel
     obtain⟨p3,q3⟩:=HC.out wq hD.out
     have HBq:=zZ (hB.out.trans (hD.out.mono hB.out.size))
     by_cases hkn:k<z
     ·obtain⟨C1,hc1⟩:∃ C,s1[k]?=some C:=⟨_,zV (by have:=Hz1.out;omega)⟩
      obtain⟨C2,hc2⟩:∃ C,s2[k]?=some C:=⟨_,zV (by have:=Hz2.out;omega)⟩
      obtain⟨d1,of1,t1,rfl,hd1,a1,a2,a3,a4,f1,_,_,_,_⟩:=cel_at (cels_below hD.out Hs1.out) hc1
      obtain⟨d2,of2,t2,rfl,hd2,g1,g2,g3,g4,f2,_,_,_,_⟩:=cel_at (cels_below hD.out Hs2.out) hc2
      have hkl:(k:Int)<(z:Int):=by omega
      have hk0:(0:Int)≤(k:Int):=by omega
      have hq:∀ W,(binOp .neq 66 (.agg #[.int .i64 C1.1,.int .i64 C1.2.1,.string t1,.int .i64 C1.2.2.2]) (.agg #[.int .i64 C2.1,.int .i64 C2.2.1,.string t2,.int .i64 C2.2.2.2])).run Tryz.prog W=.ok (.bool (!decide (C1=C2))) W:=fun W=>by rw[cel_neq,cel_is,f1,f2]
      have heg:=scel_guard
      by_cases he:C1=C2
      ·rw[zJ he] at hq
       have Hq:Hid (∀ j,j<k+1→s1[j]?=s2[j]?):=zZ fun j hj=>by
        by_cases hji:j<k
        ·exact hkk.out j hji
        ·obtain rfl:j=k:=by omega
         rw[hc1,hc2,he]
       clear he hc1 hc2 hkk f1 f2 Heq HE HN
       generalize C1.1=u1 at *
       generalize C1.2.1=u2 at *
       generalize C1.2.2.2=u3 at *
       generalize C2.1=v1 at *
       generalize C2.2.1=v2 at *
       generalize C2.2.2.2=v3 at *
       go_wp2
       go_quiet (fail)
       go_wp2
       go_roundw
       case rel=>exact⟨k+1,by omega,by go_num,zZ (below_drewN hD.out _),Hq⟩
       case measure=>simp[intOf];omega
      ·rw[zK he] at hq
       have Hr:=zZ (HN.out fun e=>he (by rw[e,hc2] at hc1;exact (Option.some.inj hc1).symm))
       clear he hc1 hc2 hkk f1 f2 Heq HE HN
       generalize C1.1=u1 at *
       generalize C1.2.1=u2 at *
       generalize C1.2.2.2=u3 at *
       generalize C2.1=v1 at *
       generalize C2.2.1=v2 at *
       generalize C2.2.2.2=v3 at *
       go_wp2
       go_quiet (fail)
       go_wp2
       go_ret
       exact⟨by rw[Hr.out];rfl,below_drewN HBq.out _⟩
     ·have hkz:k=z:=by omega
      have Hq:=zZ (Heq.out (HE.out (List.ext_getElem? fun j=>by
       by_cases hj:j<z
       ·exact hkk.out j (by omega)
       ·rw[List.getElem?_eq_none (by have:=Hz1.out;omega),List.getElem?_eq_none (by have:=Hz2.out;omega)])))
      clear hkk Heq HE HN hkz
      have hkl:¬ ((k:Int)<(z:Int)):=by omega
      go_wp2
      go_roundw
      case rel=>exact⟨i+1,by omega,by go_num,HBq,Hq⟩
      case measure=>simp[intOf];omega
   ·obtain rfl:i=n:=by omega
    have heq:l1=l2:=List.ext_getElem? fun j=>by
     by_cases hj:j<i
     ·exact hsame.out j hj
     ·rw[List.getElem?_eq_none (by omega),List.getElem?_eq_none (by omega)]
    have hd:decide (l1=l2)=true:=zJ heq
    have Hd:=zZ hd
    clear hd hsame heq
    go_wp2
    go_ret
    exact⟨by rw[Hd.out];rfl,hB.out⟩
 ·have hd:decide (l1=l2)=false:=zK fun e=>hnm (by subst e;omega)
  have hne:((n:Int) != (m:Int))=true:=by rw[bne_iff_ne];omega
  rw[hd]
  go_enter Tryz.func35,Tryz.ntmps35
  go_wp2
  go_ret
  exact⟨rfl,zA _ _⟩
theorem rdsame_any (B B1 C C1:Option Addr) (M d M1 d1 K e K1 e1:Nat) (g h:Dlt) (w:World) (hg:rDlt (All w) w [.int .u32 g.1,.slice B M d,.slice C K e] g) (hh:rDlt (All w) w [.int .u32 h.1,.slice B1 M1 d1,.slice C1 K1 e1] h):
  Calls Tryz.prog 11 #[.agg #[.int .u32 g.1,.slice B M d,.slice C K e],.agg #[.int .u32 h.1,.slice B1 M1 d1,.slice C1 K1 e1]] w fun r w'=>r=.returned (.bool (sameD g h))∧Below w.heap.size w w':=by
 have hB0:Below w.heap.size w ((w.alloc (.cells #[.int .u32 g.1,.slice B M d,.slice C K e] 32)).alloc (.cells #[.int .u32 h.1,.slice B1 M1 d1,.slice C1 K1 e1] 32)):=((zA _ w).alloc (zW _) _).alloc (by simp) _
 obtain⟨p1,p2⟩:=blk_two w 32 32 [.int .u32 g.1,.slice B M d,.slice C K e] [.int .u32 h.1,.slice B1 M1 d1,.slice C1 K1 e1]
 have T2:=zZ (fun W (hW:Below w.heap.size w W)=>rints_any B B1 M d M1 d1 g.2.1 h.2.1 W (ids_below hW (rDlt_open hg).2.2.1) (ids_below hW (rDlt_open hh).2.2.1))
 have T3:=zZ (fun W (hW:Below w.heap.size w W)=>ritems_any C C1 K e K1 e1 g.2.2 h.2.2 W (itms_below hW (rDlt_open hg).2.2.2) (itms_below hW (rDlt_open hh).2.2.2))
 have Hd:Hid (sameD g h=((g.1 == h.1) && decide (g.2.1=h.2.1) && decide (g.2.2=h.2.2))):=zZ rfl
 have HB0:=zZ hB0
 have c1:=p1.cell (j:=2) rfl
 have c2:=p2.cell (j:=2) rfl
 clear hB0 hg hh
 generalize sameD g h=r at *
 generalize decide (g.2.1=h.2.1)=m2 at *
 generalize decide (g.2.2=h.2.2)=m3 at *
 generalize g.1=x1 at *
 generalize h.1=y1 at *
 go_enter Tryz.func11,Tryz.ntmps11
 go_wp2_with fail
 refine (T3.out _ HB0.out).mono ?_
 rintro e w2 ⟨rfl,hB2⟩
 have H2:=zZ (HB0.out.trans (hB2.mono HB0.out.size))
 replace p1:=p1.to hB2
 replace p2:=p2.to hB2
 clear hB2 HB0 c1 c2
 have c1:=p1.cell (j:=1) rfl
 have c2:=p2.cell (j:=1) rfl
 go_wp2_with fail
 refine (T2.out _ H2.out).mono ?_
 rintro e w3 ⟨rfl,hB3⟩
 have H3:=zZ (H2.out.trans (hB3.mono H2.out.size))
 replace p1:=p1.to hB3
 replace p2:=p2.to hB3
 clear hB3 H2 c1 c2
 cases m3
 ·rw[Bool.and_false] at Hd
  go_wp2
  go_ret
  exact⟨by rw[Hd.out];rfl,H3.out⟩
 cases m2
 ·rw[Bool.and_false,Bool.false_and] at Hd
  go_wp2
  go_ret
  exact⟨by rw[Hd.out];rfl,H3.out⟩
 rw[Bool.and_true,Bool.and_true] at Hd
 have c1:=p1.cell (j:=0) rfl
 have c2:=p2.cell (j:=0) rfl
 cases e1:(x1 == y1)
 ·rw[e1] at Hd
  go_wp2
  go_ret
  exact⟨by rw[Hd.out];rfl,H3.out⟩
 ·rw[e1] at Hd
  go_wp2
  go_ret
  exact⟨by rw[Hd.out];rfl,H3.out⟩
end Go.Proofs.YtnljjnkindjeoaaGreatDoor
