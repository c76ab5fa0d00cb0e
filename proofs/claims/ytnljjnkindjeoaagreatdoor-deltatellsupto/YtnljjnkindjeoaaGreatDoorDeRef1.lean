/- The contracts of the document's own from, set and rising (layer 11): the first item that was one; what an item sets in a field; do an item's fields rise. Nothing that was there is changed. No condition. -/
import Derived.Test.YtnljjnkindjeoaaGreatDoorDeMem
import Derived.Test.YtnljjnkindjeoaaGreatDoorDeProg
import Derived.Test.YtnljjnkindjeoaaGreatDoorGCanon
import Derived.Test.YtnljjnkindjeoaaGreatDoorGGraph
import Derived.Test.YtnljjnkindjeoaaGreatDoorGGen
import Derived.Test.YtnljjnkindjeoaaGreatDoorAl
set_option maxRecDepth 100000
set_option maxHeartbeats 2000000
namespace Go.Proofs.YtnljjnkindjeoaaGreatDoor
open Go.RowKit
def prevF (p:Int) (l:List Cel):Nat→Int
 | 0=>p
 | j+1=>(l.getD j (0,0,[],0)).1
theorem riseF_at {n:Nat}:∀ {l:List Cel} {p:Int},riseF n p l=true↔∀ j c,l[j]?=some c→prevF p l j<c.1∧c.1<(n:Int)
 | [],p=>by simp[riseF]
 | x :: r,p=>by
  rw[riseF,Bool.and_eq_true,Bool.and_eq_true,decide_eq_true_eq,decide_eq_true_eq,riseF_at (l:=r)]
  constructor
  ·rintro⟨⟨h1,h2⟩,h3⟩ j c hj
   cases j with
   | zero=>
    injection hj with hj
    subst hj
    exact⟨h1,h2⟩
   | succ j=>
    have:=h3 j c (by simpa using hj)
    cases j with
    | zero=>simpa [prevF] using this
    | succ k=>simpa [prevF] using this
  ·intro h
   refine⟨h 0 x rfl,fun j c hj=>?_⟩
   have:=h (j+1) c (by simpa using hj)
   cases j with
   | zero=>simpa [prevF] using this
   | succ k=>simpa [prevF] using this
theorem find_first {p:Cel→Bool}:∀ {l:List Cel} {i:Nat} {y:Cel},l[i]?=some y→p y=true→(∀ j z,j<i→l[j]?=some z→p z=false)→l.find? p=some y
 | [],i,y,h,_,_=>by simp at h
 | z :: r,0,y,h,hy,_=>by
  injection h with h
  subst h
  rw[List.find?_cons_of_pos hy]
 | z :: r,i+1,y,h,hy,hn=>by
  rw[List.find?_cons_of_neg (by simp[hn 0 z (by omega) rfl])]
  exact find_first (by simpa using h) hy fun j z hj hz=>hn (j+1) z (by omega) (by simpa using hz)
theorem rfrom_any (u:Int) (B C:Option Addr) (m d e:Nat) (M:Nat) (l:List Itm) (n:Int) (w:World) (h:rItms (All w) w [.slice C M e] l):
  Calls Tryz.prog 73 #[.agg #[.int .u32 u,.slice B m d,.slice C M e],.int .i64 n] w fun e w'=>e=.returned (.int .i64 (fromD l n))∧Below w.heap.size w w':=by
 obtain⟨hM,hMd,hdm⟩:=slice_len h
 simp only[maxLen] at hdm
 have hB0:Below w.heap.size w (w.alloc (.cells #[.int .u32 u,.slice B m d,.slice C M e] 32)):=(zA _ w).alloc (zW _) _
 have c0:=(Blk.new w 32 [.int .u32 u,.slice B m d,.slice C M e]).cell (j:=2) rfl
 have h0:=itms_below hB0 h
 clear h
 go_enter Tryz.func73,Tryz.ntmps73
 go_wp2
 generalize w.alloc (.cells #[.int .u32 u,.slice B m d,.slice C M e] 32)=w1 at *
 go_loop [5] (fun iv=>∃ i:Nat,i≤M∧iv=.int .i64 (i:Int)∧∀ j (o:Itm),j<i→l[j]?=some o→decide (o.1=n)=false) (fun iv=>M - (intOf iv).toNat)
 case atStart=>exact⟨0,by omega,rfl,fun j o hj=>by omega⟩
 case round=>
  obtain⟨i,hi,rfl,hno⟩:=hrel
  by_cases hin:i<M
  ·obtain⟨o,ho⟩:∃ o,l[i]?=some o:=⟨_,zV (by omega)⟩
   obtain⟨b,off,A2,c2,rfl,hb,x0,-,-,-,-,-⟩:=itm_at h0 ho
   have hil:(i:Int)<(M:Int):=by omega
   have hi0:(0:Int)≤(i:Int):=by omega
   by_cases he:o.1=n
   ·have he':(o.1 == n)=true:=by simp[he]
    have Hr:Hid (fromD l n=(i:Int)):=(idxP_iff _ l i).2 ⟨⟨o,ho,zJ he⟩,fun j b hj hb=>hno j b hj hb⟩
    clear hno he ho
    generalize o.1=ov at *
    go_wp2
    go_ret
    exact⟨by rw[Hr.out];rfl,hB0⟩
   ·have he':(o.1 == n)=false:=by simp[he]
    have Hr:Hid (∀ j (o:Itm),j<i+1→l[j]?=some o→decide (o.1=n)=false):=fun j p hj hp=>by
     by_cases hji:j<i
     ·exact hno j p hji hp
     ·obtain rfl:j=i:=by omega
      rw[ho] at hp
      injection hp with hp
      subst hp
      exact zK he
    clear hno he ho
    generalize o.1=ov at *
    go_wp2
    go_round
    case rel=>exact⟨i+1,by omega,by go_num,Hr.out⟩
    case measure=>simp[intOf];omega
  ·obtain rfl:i=M:=by omega
   have Hr:Hid (fromD l n = -1):=(idxP_none _ l).2 fun o ho=>by
    obtain⟨j,hj⟩:=List.getElem?_of_mem ho
    have:=(List.getElem?_eq_some_iff.1 hj).1
    exact hno j o (by omega) hj
   clear hno
   go_wp2
   go_ret
   exact⟨by rw[Hr.out];rfl,hB0⟩
theorem rset_any (A:Option Addr) (c k:Nat) (x:Itm) (w:World) (h:rCels (All w) w [.slice A x.2.2.length c] x.2.2):
  Calls Tryz.prog 75 #[.agg #[.int .i64 x.1,.int .i64 x.2.1,.slice A x.2.2.length c],.int .i64 (k:Int)] w fun r w'=>∃ s:ByteArray,r=.returned (.tuple #[.agg #[.int .i64 ((setF x k).getD vz).1,.string s,.int .i64 ((setF x k).getD vz).2.2],.bool (setF x k).isSome]) ∧
   byt s=((setF x k).getD vz).2.1∧s.size≤maxLen∧((-9223372036854775808≤((setF x k).getD vz).1∧((setF x k).getD vz).1≤9223372036854775807)∧(-9223372036854775808≤((setF x k).getD vz).2.2∧((setF x k).getD vz).2.2≤9223372036854775807))∧Below w.heap.size w w':=by
 obtain⟨hM,hMd,hdm⟩:=slice_len h
 simp only[maxLen] at hdm
 have hB0:Below w.heap.size w ((w.alloc (.cells #[.int .i64 x.1,.int .i64 x.2.1,.slice A x.2.2.length c] 50)).alloc (.cells #[.int .i64 0,.string ⟨#[]⟩,.int .i64 0] 47)):=((zA _ w).alloc (zW _) _).alloc (by simp) _
 obtain⟨p0,p1⟩:=blk_two w 50 47 [.int .i64 x.1,.int .i64 x.2.1,.slice A x.2.2.length c] [.int .i64 0,.string ⟨#[]⟩,.int .i64 0]
 have c0:=p0.cell (j:=2) rfl
 have h0:=cels_below hB0 h
 have HB0:=zZ hB0
 have HP1:=zZ p1
 have hSF:setF x k=(x.2.2.find? fun c=>decide (c.1=(k:Int))).map (·.2):=rfl
 clear h hB0 p0
 generalize setF x k=sf at *
 generalize x.1=xi at *
 generalize x.2.1=xt at *
 generalize x.2.2=l at *
 generalize hMl:l.length=M at *
 clear hM
 go_enter Tryz.func75,Tryz.ntmps75
 go_wp2
 generalize (w.alloc (.cells #[.int .i64 xi,.int .i64 xt,.slice A M c] 50)).alloc (.cells #[.int .i64 0,.string ⟨#[]⟩,.int .i64 0] 47)=w1 at *
 have g0:=p1.frozen 0
 have g1:=p1.frozen 1
 have g2:=p1.frozen 2
 have y0:=p1.cell (j:=0) rfl
 have y1:=p1.cell (j:=1) rfl
 have y2:=p1.cell (j:=2) rfl
 clear p1
 go_loop [6] (fun iv=>∃ i:Nat,i≤M∧iv=.int .i64 (i:Int)∧∀ j (o:Cel),j<i→l[j]?=some o→decide (o.1=(k:Int))=false) (fun iv=>M - (intOf iv).toNat)
 case atStart=>exact⟨0,by omega,rfl,fun j o hj=>by omega⟩
 case round=>
  obtain⟨i,hi,rfl,hno⟩:=hrel
  by_cases hin:i<M
  ·obtain⟨o,ho⟩:∃ o,l[i]?=some o:=⟨_,zV (by omega)⟩
   obtain⟨b,off,s,rfl,hb,x0,x1,x2,x3,hs,hsm,-,hn,hr⟩:=cel_at h0 ho
   have hil:(i:Int)<(M:Int):=by omega
   have hi0:(0:Int)≤(i:Int):=by omega
   by_cases he:o.1=(k:Int)
   ·have he':(o.1 == (k:Int))=true:=by simp[he]
    have Hr:Hid (sf=some o.2):=zZ (by rw[hSF,find_first ho (zJ he) fun j z hj hz=>hno j z hj hz];rfl)
    have Ho:=zZ (And.intro hs (And.intro hsm (And.intro hn hr)))
    clear hno he ho hSF hs hsm hn hr
    generalize o.1=ov at *
    generalize hvn:o.2.1=vn at *
    generalize hvr:o.2.2.2=vr at *
    have Hvn:=zZ hvn
    have Hvr:=zZ hvr
    clear hvn hvr
    go_wp2
    have P9:=((HP1.out.set 0 (.int .i64 vn)).set 1 (.string s)).set 2 (.int .i64 vr)
    refine ret_cell1 (d:=.struct _) (cs:=[.int .i64 vn,.string s,.int .i64 vr]) rfl P9 rfl rfl rfl rfl rfl ?_
    refine⟨s,?_,?_,Ho.out.2.1,?_,?_⟩
    ·rw[Hr.out];simp only[Option.getD_some,Option.isSome_some,Hvn.out,Hvr.out];rfl
    ·rw[Hr.out];exact Ho.out.1
    ·rw[Hr.out];simp only[Option.getD_some,Hvn.out,Hvr.out];exact Ho.out.2.2
    ·exact ((HB0.out.setCell (p:=⟨w.heap.size+1,0,none⟩) (by simp) _).setCell (p:=⟨w.heap.size+1,1,none⟩) (by simp) _).setCell (p:=⟨w.heap.size+1,2,none⟩) (by simp) _
   ·have he':(o.1 == (k:Int))=false:=by simp[he]
    have Hr:Hid (∀ j (o:Cel),j<i+1→l[j]?=some o→decide (o.1=(k:Int))=false):=fun j p hj hp=>by
     by_cases hji:j<i
     ·exact hno j p hji hp
     ·obtain rfl:j=i:=by omega
      rw[ho] at hp
      injection hp with hp
      subst hp
      exact zK he
    clear hno he ho hSF
    generalize o.1=ov at *
    go_wp2
    go_round
    case rel=>exact⟨i+1,by omega,by go_num,Hr.out⟩
    case measure=>simp[intOf];omega
  ·obtain rfl:i=M:=by omega
   have Hr:Hid (sf=none):=zZ (by
    rw[hSF,List.find?_eq_none.2 fun o ho=>by
     obtain⟨j,hj⟩:=List.getElem?_of_mem ho
     have:=(List.getElem?_eq_some_iff.1 hj).1
     rw[hno j o (by omega) hj];simp]
    rfl)
   clear hno hSF
   go_wp2
   have P9:=((HP1.out.set 0 (.int .i64 0)).set 1 (.string ⟨#[]⟩)).set 2 (.int .i64 0)
   refine ret_cell1 (d:=.struct _) (cs:=[.int .i64 0,.string ⟨#[]⟩,.int .i64 0]) rfl P9 rfl rfl rfl rfl rfl ?_
   refine⟨⟨#[]⟩,?_,?_,Nat.zero_le _,?_,?_⟩
   ·rw[Hr.out];rfl
   ·rw[Hr.out];rfl
   ·rw[Hr.out];simp only[Option.getD_none,vz];omega
   ·exact ((HB0.out.setCell (p:=⟨w.heap.size+1,0,none⟩) (by simp) _).setCell (p:=⟨w.heap.size+1,1,none⟩) (by simp) _).setCell (p:=⟨w.heap.size+1,2,none⟩) (by simp) _
theorem rrising_any (A:Option Addr) (c n:Nat) (hn:n≤9223372036854775807) (x:Itm) (w:World) (h:rCels (All w) w [.slice A x.2.2.length c] x.2.2):
  Calls Tryz.prog 74 #[.agg #[.int .i64 x.1,.int .i64 x.2.1,.slice A x.2.2.length c],.int .i64 (n:Int)] w fun r w'=>r=.returned (.bool (riseD x n))∧Below w.heap.size w w':=by
 obtain⟨hM,hMd,hdm⟩:=slice_len h
 simp only[maxLen] at hdm
 have hB0:Below w.heap.size w (w.alloc (.cells #[.int .i64 x.1,.int .i64 x.2.1,.slice A x.2.2.length c] 50)):=(zA _ w).alloc (zW _) _
 have p0:=Blk.new w 50 [.int .i64 x.1,.int .i64 x.2.1,.slice A x.2.2.length c]
 have P0:=zZ p0
 have c2:=p0.cell (j:=2) rfl
 have h0:=cels_below hB0 h
 have hRD:riseD x n=(riseF n (-1) x.2.2 && (decide (0≤x.1) || decide (x.2.2.length=n))):=rfl
 have HB0:=zZ hB0
 clear h hB0 p0
 generalize riseD x n=rd at *
 generalize x.1=xi at *
 generalize x.2.1=xt at *
 generalize x.2.2=l at *
 generalize hMl:l.length=M at *
 have HRD:=zZ hRD
 clear hM hRD c2
 go_enter Tryz.func74,Tryz.ntmps74
 go_wp2
 generalize w.alloc (.cells #[.int .i64 xi,.int .i64 xt,.slice A M c] 50)=w1 at *
 go_loopw [5] (fun iv w'=>∃ i:Nat,i≤M∧iv=.int .i64 (i:Int)∧Below w1.heap.size w1 w'∧∀ j (o:Cel),j<i→l[j]?=some o→prevF (-1) l j<o.1∧o.1<(n:Int)) (fun iv _=>M - (intOf iv).toNat)
 case atStart=>exact⟨0,by omega,rfl,zA _ _,fun j o hj=>by omega⟩
 case round=>
  rename_i iv wr
  obtain⟨i,hi,rfl,hB,hno⟩:=hrel
  replace P0:=zZ (P0.out.to hB)
  have c0:=P0.out.cell (j:=0) rfl
  have c2:=P0.out.cell (j:=2) rfl
  have HBr:=zZ (HB0.out.trans (hB.mono HB0.out.size))
  by_cases hin:i<M
  ·obtain⟨o,ho⟩:∃ o,l[i]?=some o:=⟨_,zV (by omega)⟩
   obtain⟨b,off,s,rfl,hb,x0,-,-,-,-,-,-,-,-⟩:=cel_at (cels_below hB h0) ho
   have hil:(i:Int)<(M:Int):=by omega
   have hi0:(0:Int)≤(i:Int):=by omega
   have Hbad:¬ (prevF (-1) l i<o.1∧o.1<(n:Int))→Hid (rd=false):=fun hn0=>zZ (by
    rw[HRD.out,Bool.and_eq_false_iff]
    exact .inl (Bool.eq_false_iff.2 fun h=>hn0 (riseF_at.1 h i o ho)))
   have Hgood:prevF (-1) l i<o.1∧o.1<(n:Int)→Hid (∀ j (o:Cel),j<i+1→l[j]?=some o→prevF (-1) l j<o.1∧o.1<(n:Int)):=fun hg=>zZ fun j p hj hp=>by
    by_cases hji:j<i
    ·exact hno j p hji hp
    ·obtain rfl:j=i:=by omega
     rw[ho] at hp
     injection hp with hp
     subst hp
     exact hg
   have Hpos:0<i→∃ p,l[i - 1]?=some p∧prevF (-1) l i=p.1∧0≤p.1:=fun h0i=>by
    obtain⟨p,hp⟩:∃ p,l[i - 1]?=some p:=⟨_,zV (by omega)⟩
    obtain⟨j,rfl⟩:∃ j,i=j+1:=⟨i - 1,by omega⟩
    rw[Nat.add_sub_cancel] at hp
    have hq:∀ k,k≤j→∀ p,l[k]?=some p→0≤p.1:=fun k=>by
     induction k with
     | zero=>intro _ p hp;have:=(hno 0 p (by omega) hp).1;simp only[prevF] at this;omega
     | succ k ih=>
      intro hk p hp
      have h1:=(hno (k+1) p (by omega) hp).1
      obtain⟨q,hq⟩:∃ q,l[k]?=some q:=⟨_,zV (by omega)⟩
      have h2:=ih (by omega) q hq
      simp only[prevF,List.getD_eq_getElem?_getD,hq,Option.getD_some] at h1
      omega
    exact⟨p,by rw[Nat.add_sub_cancel];exact hp,by simp only[prevF,List.getD_eq_getElem?_getD,hp,Option.getD_some],hq j (zW _) p hp⟩
   by_cases h1:o.1<0
   ·have Hr:=Hbad (fun hh=>by
     have:=hh.1
     by_cases h0i:0<i
     ·obtain⟨p,-,e,hp⟩:=Hpos h0i
      omega
     ·obtain rfl:i=0:=by omega
      simp only[prevF] at this
      omega)
    have d1:decide (o.1<0)=true:=zJ h1
    clear Hbad Hgood Hpos hno ho h1 HRD h0
    generalize o.1=ov at *
    go_wp2
    go_quiet (fail)
    go_wp2
    go_ret
    exact⟨by rw[Hr.out];rfl,below_drewN HBr.out _⟩
   have d1:decide (o.1<0)=false:=zK h1
   by_cases h2:(n:Int)≤o.1
   ·have Hr:=Hbad (fun hh=>by have:=hh.2;omega)
    have d2:decide ((n:Int)≤o.1)=true:=zJ h2
    clear Hbad Hgood Hpos hno ho h1 h2 HRD h0
    generalize o.1=ov at *
    go_wp2
    go_quiet (fail)
    go_wp2
    go_ret
    exact⟨by rw[Hr.out];rfl,below_drewN HBr.out _⟩
   have d2:decide ((n:Int)≤o.1)=false:=zK h2
   by_cases h0i:0<i
   ·obtain⟨p,hp,hpe,hp0⟩:=Hpos h0i
    obtain⟨b',off',s',hbb,hb',z0,-,-,-,-,-,-,-,-⟩:=cel_at (cels_below hB h0) hp
    obtain⟨rfl,rfl⟩:b=b'∧off=off':=by simpa using hbb
    obtain⟨j,rfl⟩:∃ j,i=j+1:=⟨i - 1,by omega⟩
    rw[Nat.add_sub_cancel] at z0
    have d3:decide ((0:Int)<((j+1:Nat):Int))=true:=zJ (by omega)
    have e1:(((j+1:Nat):Int) - 1)=(j:Int):=by omega
    have j0:(0:Int)≤(j:Int):=by omega
    have jl:(j:Int)<(M:Int):=by omega
    by_cases h3:o.1≤p.1
    ·have Hr:=Hbad (fun hh=>by have:=hh.1;omega)
     have d4:decide (o.1≤p.1)=true:=zJ h3
     clear Hbad Hgood Hpos hno ho h1 h2 h3 HRD h0 hp hpe
     generalize o.1=ov at *
     generalize p.1=pv at *
     go_wp2
     go_quiet (fail)
     go_wp2
     go_ret
     exact⟨by rw[Hr.out];rfl,below_drewN HBr.out _⟩
    ·have Hr:=Hgood ⟨by omega,by omega⟩
     have d4:decide (o.1≤p.1)=false:=zK h3
     have HB:=zZ hB
     clear Hbad Hgood Hpos hno ho h1 h2 h3 HRD h0 hp hpe hB
     generalize o.1=ov at *
     generalize p.1=pv at *
     go_wp2
     go_quiet (fail)
     go_wp2
     go_roundw
     case rel=>exact⟨j+1+1,by omega,by go_num,below_drewN HB.out _,Hr.out⟩
     case measure=>simp[intOf];omega
   ·have Hr:=Hgood ⟨by (obtain rfl:i=0:=(by omega));simp only[prevF];omega,by omega⟩
    have d3:decide ((0:Int)<(i:Int))=false:=zK (by omega)
    have HB:=zZ hB
    clear Hbad Hgood Hpos hno ho h1 h2 HRD h0 hB
    generalize o.1=ov at *
    go_wp2
    go_quiet (fail)
    go_wp2
    go_roundw
    case rel=>exact⟨i+1,by omega,by go_num,below_drewN HB.out _,Hr.out⟩
    case measure=>simp[intOf];omega
  ·obtain rfl:i=M:=by omega
   have hall:riseF n (-1) l=true:=riseF_at.2 fun j o ho=>hno j o (by have:=(List.getElem?_eq_some_iff.1 ho).1;omega) ho
   have Hr:Hid (rd=(decide (0≤xi) || decide (i=n))):=zZ (by rw[HRD.out,hall,Bool.true_and])
   clear hno hall HRD h0 hMl hB
   by_cases hx:0≤xi
   ·have d5:decide (0≤xi)=true:=zJ hx
    rw[d5,Bool.true_or] at Hr
    clear hx
    go_wp2
    go_ret
    exact⟨by rw[Hr.out];rfl,HBr.out⟩
   ·have d5:decide (0≤xi)=false:=zK hx
    have d6:(((i:Nat):Int) == (n:Int))=decide (i=n):=by
     by_cases h:i=n
     ·subst h;simp
     ·rw[zK h];exact beq_eq_false_iff_ne.2 (by omega)
    rw[d5,Bool.false_or] at Hr
    generalize decide (i=n)=dn at *
    clear hx
    go_wp2
    go_ret
    exact⟨by rw[Hr.out];rfl,HBr.out⟩
end Go.Proofs.YtnljjnkindjeoaaGreatDoor
