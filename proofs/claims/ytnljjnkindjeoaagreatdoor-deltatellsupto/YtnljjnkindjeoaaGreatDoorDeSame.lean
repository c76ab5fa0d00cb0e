/- The contracts of slices.Equal of cells, of delta's sameItem, of slices.EqualFunc with it, and of delta's Same. No condition. -/
import Derived.Test.YtnljjnkindjeoaaGreatDoorDeMem
import Derived.Test.YtnljjnkindjeoaaGreatDoorGCanon
import Derived.Test.YtnljjnkindjeoaaGreatDoorAl
set_option maxRecDepth 100000
set_option maxHeartbeats 2000000
namespace Go.Proofs.YtnljjnkindjeoaaGreatDoor
open Go.RowKit
theorem scel_guard:Tryz.prog.eqGuardType Tryz.prog.depth 66=false:=by kernel_rfl
theorem scel_stood:Tryz.prog.stoodInHeld 66=false:=by kernel_rfl
theorem cel_neq (m1 m2 n1 n2 r1 r2:Int) (s1 s2:ByteArray) (w:World):(binOp .neq 66 (.agg #[.int .i64 m1,.int .i64 n1,.string s1,.int .i64 r1]) (.agg #[.int .i64 m2,.int .i64 n2,.string s2,.int .i64 r2])).run Tryz.prog w
  = .ok (.bool (!((m1 == m2) && ((n1 == n2) && (s1.toList == s2.toList) && (r1 == r2))))) w:=by
 have h1:=scel_stood
 cases e1:(s1.toList == s2.toList) <;> cases e2:(n1 == n2) <;> cases e3:(r1 == r2) <;> cases e4:(m1 == m2)
 all_goals go_simp
theorem cel_is (m1 m2 n1 n2 r1 r2:Int) (s1 s2:ByteArray):((m1 == m2) && ((n1 == n2) && (s1.toList == s2.toList) && (r1 == r2)))=decide ((m1,n1,byt s1,r1)=(m2,n2,byt s2,r2)):=by
 rw[vl_is]
 by_cases e1:m1=m2 <;> by_cases e2:(n1,byt s1,r1)=(n2,byt s2,r2) <;> simp[e1,e2]
theorem equalC_any (A B:Option Addr) (n c m d:Nat) (l1 l2:List Cel) (w:World) (h1:rCels (All w) w [.slice A n c] l1) (h2:rCels (All w) w [.slice B m d] l2):
  Calls Tryz.prog 77 #[.slice A n c,.slice B m d] w fun e w'=>e=.returned (.bool (decide (l1=l2)))∧Below w.heap.size w w':=by
 obtain⟨hn,hnc,hcm⟩:=slice_len h1
 obtain⟨hm,hmd,hdm⟩:=slice_len h2
 simp only[maxLen] at hcm hdm
 by_cases hnm:n=m
 ·subst hnm
  have hnn:((n:Int) != (n:Int))=false:=by simp
  go_enter Tryz.func77,Tryz.ntmps77
  go_wp2
  go_loopw [13] (fun iv w'=>∃ i:Nat,i≤n∧iv=.int .i64 (i:Int)∧Below w.heap.size w w'∧(∀ j,j<i→l1[j]?=l2[j]?)) (fun iv _=>n - (intOf iv).toNat)
  case atStart=>exact⟨0,by omega,rfl,zA _ _,fun j hj=>by omega⟩
  case round=>
   rename_i iv wr
   obtain⟨i,hi,rfl,hB,hsame⟩:=hrel
   by_cases hin:i<n
   ·have hl1:l1[i]?=some l1[i]:=zV (by omega)
    have hl2:l2[i]?=some l2[i]:=zV (by omega)
    obtain⟨b1,off1,x1,rfl,hb1,p1,p2,p3,p4,e1,_,_,_,_⟩:=cel_at (cels_below hB h1) hl1
    obtain⟨b2,off2,x2,rfl,hb2,q1,q2,q3,q4,f1,_,_,_,_⟩:=cel_at (cels_below hB h2) hl2
    have hil:(i:Int)<(n:Int):=by omega
    have hi0:(0:Int)≤(i:Int):=by omega
    have hq:∀ W,(binOp .neq 66 (.agg #[.int .i64 l1[i].1,.int .i64 l1[i].2.1,.string x1,.int .i64 l1[i].2.2.2]) (.agg #[.int .i64 l2[i].1,.int .i64 l2[i].2.1,.string x2,.int .i64 l2[i].2.2.2])).run Tryz.prog W=.ok (.bool (!decide (l1[i]=l2[i]))) W:=fun W=>by rw[cel_neq,cel_is,e1,f1]
    have heg:=scel_guard
    have hne:l1[i]≠l2[i]→decide (l1=l2)=false:=fun he=>zK fun e=>he (by subst e;rfl)
    have heq:l1[i]=l2[i]→∀ j,j<i+1→l1[j]?=l2[j]?:=fun he j hj=>by
     by_cases hji:j<i
     ·exact hsame j hji
     ·obtain rfl:j=i:=by omega
      rw[hl1,hl2,he]
    have Hne:=zZ hne
    have Heq:=zZ heq
    have HB:=zZ hB
    clear hne heq hl1 hl2 hsame e1 f1 hB h1 h2
    generalize l1[i]=F1 at *
    generalize l2[i]=F2 at *
    by_cases he:F1=F2
    ·rw[zJ he] at hq
     have Hq:=zZ (Heq.out he)
     clear Heq Hne he
     generalize F1.1=k1 at *
     generalize F1.2.1=k3 at *
     generalize F1.2.2.2=k3k3 at *
     generalize F2.1=k2 at *
     generalize F2.2.1=k4 at *
     generalize F2.2.2.2=k4k4 at *
     go_wp2
     go_quiet (fail)
     go_wp2
     go_roundw
     case rel=>exact⟨i+1,by omega,by go_num,below_drewN HB.out _,Hq.out⟩
     case measure=>simp[intOf];omega
    ·rw[zK he] at hq
     have Hq:=zZ (Hne.out he)
     clear Heq Hne he
     generalize F1.1=k1 at *
     generalize F1.2.1=k3 at *
     generalize F1.2.2.2=k3k3 at *
     generalize F2.1=k2 at *
     generalize F2.2.1=k4 at *
     generalize F2.2.2.2=k4k4 at *
     go_wp2
     go_quiet (fail)
     go_wp2
     go_ret
     exact⟨by rw[Hq.out];rfl,below_drewN HB.out _⟩
   ·obtain rfl:i=n:=by omega
    have heq:l1=l2:=List.ext_getElem? fun j=>by
     by_cases hj:j<i
     ·exact hsame j hj
     ·rw[List.getElem?_eq_none (by omega),List.getElem?_eq_none (by omega)]
    have hd:decide (l1=l2)=true:=zJ heq
    have Hd:=zZ hd
    clear hd hsame heq
    go_wp2
    go_ret
    exact⟨by rw[Hd.out];rfl,hB⟩
 ·have hd:decide (l1=l2)=false:=zK fun e=>hnm (by subst e;omega)
  have hne:((n:Int) != (m:Int))=true:=by rw[bne_iff_ne];omega
  rw[hd]
  go_enter Tryz.func77,Tryz.ntmps77
  go_wp2
  go_ret
  exact⟨rfl,zA _ _⟩
theorem sameItem_any (A B:Option Addr) (c d:Nat) (x y:Itm) (w:World) (h1:rCels (All w) w [.slice A x.2.2.length c] x.2.2) (h2:rCels (All w) w [.slice B y.2.2.length d] y.2.2):
  Calls Tryz.prog 41 #[.agg #[.int .i64 x.1,.int .i64 x.2.1,.slice A x.2.2.length c],.agg #[.int .i64 y.1,.int .i64 y.2.1,.slice B y.2.2.length d]] w fun e w'=>e=.returned (.bool (decide (x=y)))∧Below w.heap.size w w':=by
 have hB:∀ u v,Below w.heap.size w ((w.alloc (.cells u 50)).alloc (.cells v 50)):=fun u v=>((zA _ w).alloc (zW _) _).alloc (by simp) _
 have T1:=zZ (fun u v=>equalC_any A B x.2.2.length c y.2.2.length d x.2.2 y.2.2 ((w.alloc (.cells u 50)).alloc (.cells v 50)) (cels_below (hB _ _) h1) (cels_below (hB _ _) h2))
 have hd:decide (x=y)=((x.1 == y.1) && (x.2.1 == y.2.1) && decide (x.2.2=y.2.2)):=by
  obtain⟨a,b,c⟩:=x
  obtain⟨a',b',c'⟩:=y
  simp only[Prod.mk.injEq]
  by_cases e1:a=a' <;> by_cases e2:b=b' <;> by_cases e3:c=c' <;> simp[e1,e2,e3]
 have Hd:=zZ hd
 clear hd h1 h2
 generalize decide (x=y)=r at *
 generalize decide (x.2.2=y.2.2)=m3 at *
 generalize x.2.2.length=xl at *
 generalize y.2.2.length=yl at *
 generalize x.1=x1 at *
 generalize y.1=y1 at *
 generalize x.2.1=x2 at *
 generalize y.2.1=y2 at *
 cases e1:(x1 == y1)
 ·rw[e1] at Hd
  go_enter Tryz.func41,Tryz.ntmps41
  go_wp2
  go_ret
  exact⟨by rw[Hd.out];rfl,hB _ _⟩
 ·cases e2:(x2 == y2)
  ·rw[e1,e2] at Hd
   go_enter Tryz.func41,Tryz.ntmps41
   go_wp2
   go_ret
   exact⟨by rw[Hd.out];rfl,hB _ _⟩
  ·rw[e1,e2] at Hd
   go_enter Tryz.func41,Tryz.ntmps41
   go_wp2_with (first | (go_at_call 77;refine (T1.out _ _).mono ?_;rintro e w1 ⟨rfl,hB1⟩) | fail)
   go_ret
   exact⟨by rw[Hd.out];rfl,(hB _ _).trans (hB1.mono (hB _ _).size)⟩
theorem equalIt_any (A B:Option Addr) (n c m d:Nat) (l1 l2:List Itm) (w:World) (h1:rItms (All w) w [.slice A n c] l1) (h2:rItms (All w) w [.slice B m d] l2):
  Calls Tryz.prog 40 #[.slice A n c,.slice B m d,.func (.func 41) #[] #[]] w fun e w'=>e=.returned (.bool (decide (l1=l2)))∧Below w.heap.size w w':=by
 obtain⟨hn,hnc,hcm⟩:=slice_len h1
 obtain⟨hm,hmd,hdm⟩:=slice_len h2
 simp only[maxLen] at hcm hdm
 by_cases hnm:n=m
 ·subst hnm
  have hnn:((n:Int) != (n:Int))=false:=by simp
  go_enter Tryz.func40,Tryz.ntmps40
  go_wp2
  go_loopw [17] (fun iv w'=>∃ i:Nat,i≤n∧iv=.int .i64 (i:Int)∧Below w.heap.size w w'∧(∀ j,j<i→l1[j]?=l2[j]?)) (fun iv _=>n - (intOf iv).toNat)
  case atStart=>exact⟨0,by omega,rfl,zA _ _,fun j hj=>by omega⟩
  case round=>
   rename_i iv wr
   obtain⟨i,hi,rfl,hB,hsame⟩:=hrel
   by_cases hin:i<n
   ·have hl1:l1[i]?=some l1[i]:=zV (by omega)
    have hl2:l2[i]?=some l2[i]:=zV (by omega)
    obtain⟨b1,off1,A1,c1,rfl,hb1,p1,p2,p3,r1,_,_⟩:=itm_at (itms_below hB h1) hl1
    obtain⟨b2,off2,A2,c2,rfl,hb2,q1,q2,q3,r2,_,_⟩:=itm_at (itms_below hB h2) hl2
    have hil:(i:Int)<(n:Int):=by omega
    have hi0:(0:Int)≤(i:Int):=by omega
    have hne:l1[i]≠l2[i]→decide (l1=l2)=false:=fun he=>zK fun e=>he (by subst e;rfl)
    have heq:l1[i]=l2[i]→∀ j,j<i+1→l1[j]?=l2[j]?:=fun he j hj=>by
     by_cases hji:j<i
     ·exact hsame j hji
     ·obtain rfl:j=i:=by omega
      rw[hl1,hl2,he]
    have Hne:=zZ hne
    have Heq:=zZ heq
    have HB:=zZ hB
    clear hne heq hl1 hl2 hsame h1 h2 hB
    generalize l1[i]=F1 at *
    generalize l2[i]=F2 at *
    have hB1:∀ u v,Below wr.heap.size wr ((wr.alloc (.cells u 50)).alloc (.cells v 50)):=fun u v=>((zA _ wr).alloc (zW _) _).alloc (by simp) _
    have S1:=zZ (fun u v=>sameItem_any A1 A2 c1 c2 F1 F2 ((wr.alloc (.cells u 50)).alloc (.cells v 50)) (cels_below (hB1 _ _) r1) (cels_below (hB1 _ _) r2))
    have q1':∀ u,(wr.alloc (.cells u 50)).cell? ⟨b2,off2+i * 3,none⟩=some (.int .i64 F2.1):=fun u=>(((zA _ wr).alloc (zW _) (.cells u 50)).cell (p:=⟨b2,off2+i * 3,none⟩) hb2).trans q1
    have q2':∀ u,(wr.alloc (.cells u 50)).cell? ⟨b2,off2+i * 3+1,none⟩=some (.int .i64 F2.2.1):=fun u=>(((zA _ wr).alloc (zW _) (.cells u 50)).cell (p:=⟨b2,off2+i * 3+1,none⟩) hb2).trans q2
    have q3':∀ u,(wr.alloc (.cells u 50)).cell? ⟨b2,off2+i * 3+2,none⟩=some (.slice A2 F2.2.2.length c2):=fun u=>(((zA _ wr).alloc (zW _) (.cells u 50)).cell (p:=⟨b2,off2+i * 3+2,none⟩) hb2).trans q3
    clear r1 r2 q1 q2 q3
    by_cases he:F1=F2
    ·rw[zJ he] at S1
     have Hq:=zZ (Heq.out he)
     clear Heq Hne he
     generalize F1.2.2.length=k1 at *
     generalize F1.1=k3 at *
     generalize F1.2.1=k5 at *
     generalize F2.2.2.length=k2 at *
     generalize F2.1=k4 at *
     generalize F2.2.1=k6 at *
     go_wp2_with (first | (go_at_call 41;refine (S1.out _ _).mono ?_;rintro e w1 ⟨rfl,hB2⟩) | fail)
     go_roundw
     case rel=>exact⟨i+1,by omega,by go_num,HB.out.trans (((hB1 _ _).trans (hB2.mono (hB1 _ _).size)).mono HB.out.size),Hq.out⟩
     case measure=>simp[intOf];omega
    ·rw[zK he] at S1
     have Hq:=zZ (Hne.out he)
     clear Heq Hne he
     generalize F1.2.2.length=k1 at *
     generalize F1.1=k3 at *
     generalize F1.2.1=k5 at *
     generalize F2.2.2.length=k2 at *
     generalize F2.1=k4 at *
     generalize F2.2.1=k6 at *
     go_wp2_with (first | (go_at_call 41;refine (S1.out _ _).mono ?_;rintro e w1 ⟨rfl,hB2⟩) | fail)
     go_ret
     exact⟨by rw[Hq.out];rfl,HB.out.trans (((hB1 _ _).trans (hB2.mono (hB1 _ _).size)).mono HB.out.size)⟩
   ·obtain rfl:i=n:=by omega
    have heq:l1=l2:=List.ext_getElem? fun j=>by
     by_cases hj:j<i
     ·exact hsame j hj
     ·rw[List.getElem?_eq_none (by omega),List.getElem?_eq_none (by omega)]
    have hd:decide (l1=l2)=true:=zJ heq
    have Hd:=zZ hd
    clear hd hsame heq
    go_wp2
    go_ret
    exact⟨by rw[Hd.out];rfl,hB⟩
 ·have hd:decide (l1=l2)=false:=zK fun e=>hnm (by subst e;omega)
  have hne:((n:Int) != (m:Int))=true:=by rw[bne_iff_ne];omega
  rw[hd]
  go_enter Tryz.func40,Tryz.ntmps40
  go_wp2
  go_ret
  exact⟨rfl,zA _ _⟩
def sameD (g h:Dlt):Bool:=(g.1 == h.1) && decide (g.2.1=h.2.1) && decide (g.2.2=h.2.2)
theorem sameD_iff {g h:Dlt}:sameD g h=true↔g=h:=by
 rw[sameD,Bool.and_eq_true,Bool.and_eq_true,beq_iff_eq,decide_eq_true_eq,decide_eq_true_eq]
 exact⟨fun e=>Prod.ext e.1.1 (Prod.ext e.1.2 e.2),fun e=>by subst e;exact⟨⟨rfl,rfl⟩,rfl⟩⟩
theorem dsame_any (B B1 C C1:Option Addr) (M d M1 d1 K e K1 e1:Nat) (g h:Dlt) (w:World) (hg:rDlt (All w) w [.int .u32 g.1,.slice B M d,.slice C K e] g) (hh:rDlt (All w) w [.int .u32 h.1,.slice B1 M1 d1,.slice C1 K1 e1] h):
  Calls Tryz.prog 13 #[.agg #[.int .u32 g.1,.slice B M d,.slice C K e],.agg #[.int .u32 h.1,.slice B1 M1 d1,.slice C1 K1 e1]] w fun r w'=>r=.returned (.bool (sameD g h))∧Below w.heap.size w w':=by
 have hB0:Below w.heap.size w ((w.alloc (.cells #[.int .u32 g.1,.slice B M d,.slice C K e] 32)).alloc (.cells #[.int .u32 h.1,.slice B1 M1 d1,.slice C1 K1 e1] 32)):=((zA _ w).alloc (zW _) _).alloc (by simp) _
 obtain⟨p1,p2⟩:=blk_two w 32 32 [.int .u32 g.1,.slice B M d,.slice C K e] [.int .u32 h.1,.slice B1 M1 d1,.slice C1 K1 e1]
 have T2:=zZ (fun W (hW:Below w.heap.size w W)=>equalI_any B B1 M d M1 d1 g.2.1 h.2.1 W (ids_below hW (rDlt_open hg).2.2.1) (ids_below hW (rDlt_open hh).2.2.1))
 have T3:=zZ (fun W (hW:Below w.heap.size w W)=>equalIt_any C C1 K e K1 e1 g.2.2 h.2.2 W (itms_below hW (rDlt_open hg).2.2.2) (itms_below hW (rDlt_open hh).2.2.2))
 have Hd:Hid (sameD g h=((g.1 == h.1) && decide (g.2.1=h.2.1) && decide (g.2.2=h.2.2))):=zZ rfl
 have HB0:=zZ hB0
 clear hB0 hg hh
 generalize sameD g h=r at *
 generalize decide (g.2.1=h.2.1)=m2 at *
 generalize decide (g.2.2=h.2.2)=m3 at *
 generalize g.1=x1 at *
 generalize h.1=y1 at *
 go_enter Tryz.func13,Tryz.ntmps13
 cases e1:(x1 == y1)
 ·rw[e1] at Hd
  go_wp2
  go_ret
  exact⟨by rw[Hd.out];rfl,HB0.out⟩
 rw[e1] at Hd
 go_wp2_with fail
 refine (T2.out _ HB0.out).mono ?_
 rintro e w2 ⟨rfl,hB2⟩
 have H2:=zZ (HB0.out.trans (hB2.mono HB0.out.size))
 replace p1:=p1.to hB2
 replace p2:=p2.to hB2
 clear hB2 HB0
 cases m2
 ·go_wp2
  go_ret
  exact⟨by rw[Hd.out];rfl,H2.out⟩
 have d1:=p1.cell (j:=2) rfl
 have d2:=p2.cell (j:=2) rfl
 go_wp2_with fail
 refine (T3.out _ H2.out).mono ?_
 rintro e w3 ⟨rfl,hB3⟩
 have H3:=zZ (H2.out.trans (hB3.mono H2.out.size))
 go_wp2
 go_ret
 exact⟨by rw[Hd.out];rfl,H3.out⟩
end Go.Proofs.YtnljjnkindjeoaaGreatDoor
