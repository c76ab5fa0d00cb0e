/- The contracts of delta's valuesAhead and valuesOf. Conditions: what each lemma names; they hold of a graph that may be. -/
import Derived.Test.YtnljjnkindjeoaaGreatDoorDeVals3
import Derived.Test.YtnljjnkindjeoaaGreatDoorAl
set_option maxRecDepth 100000
set_option maxHeartbeats 4000000
namespace Go.Proofs.YtnljjnkindjeoaaGreatDoor
open Go.RowKit Go.Maps
theorem valuesAhead_any (A B C:Option Addr) (N c M d K e:Nat) (g:Gr) (x:Itm) (A2:Option Addr) (xl c2 Mb mn:Nat) (l:List Itm) (w:World) (hmay:mayG g=true) (h:rGr (All w) w [.slice A N c,.slice B M d,.slice C K e] g) (hM:MpM w Mb mn (plF l)) (hl:l.length≤1000000):
  Calls Tryz.prog 114 #[.agg #[.slice A N c,.slice B M d,.slice C K e],.agg #[.int .i64 x.1,.int .i64 x.2.1,.slice A2 xl c2],.map (some Mb)] w fun r w'=>∃ v,r=.returned (.tuple #[v,.bool (aheadQ g l x).isSome])∧(∀ vs,aheadQ g l x=some vs→OwnV w.heap.size w' v vs)∧Below w.heap.size w w':=by
 obtain⟨hN,-,-⟩:=slice_len (rGr_open h).1
 obtain⟨hMl,-,-⟩:=slice_len (rGr_open h).2.1
 by_cases hx1:x.1 = -1
 ·have hq:aheadQ g l x=if 0≤x.2.1∧x.2.1<(g.1.length:Int) then some (List.replicate (fldsG g.1 x.2.1).length vz) else none:=by rw[aheadQ,if_pos hx1]
  have e1:(decide (0≤x.2.1) && decide (x.2.1<(N:Int)))=(aheadQ g l x).isSome:=by
   rw[hq,hN]
   by_cases hc:0≤x.2.1∧x.2.1<(N:Int)
   ·rw[if_pos hc,zJ hc.1,zJ hc.2];rfl
   ·rw[if_neg hc]
    cases hd:(decide (0≤x.2.1) && decide (x.2.1<(N:Int))) with
    | false=>rfl
    | true=>simp at hd;exact absurd hd hc
  rw[hx1]
  refine (ahead_new A B C N c M d K e g x.2.1 A2 xl c2 Mb w hmay h).mono ?_
  rintro r w' ⟨v,rfl,hv,hB⟩
  refine⟨v,by rw[e1],fun vs hvs=>?_,hB⟩
  have hs:=hv (by rw[e1,hvs];rfl)
  rw[hq] at hvs
  split at hvs
  ·injection hvs with hvs
   subst hvs
   exact hs
  ·cases hvs
 by_cases hp:(decide (0≤x.1) && decide (x.1<(M:Int)))=true
 rotate_left
 ·have hq:aheadQ g l x=none:=by
   rw[aheadQ,if_neg hx1,if_neg]
   rintro⟨e1,e2,-⟩
   rw[hMl] at e2
   exact hp (by rw[zJ e1,zJ e2];rfl)
  refine (ahead_out A B C N c M d K e x.1 x.2.1 A2 xl c2 Mb w hx1 (by simpa using hp)).mono ?_
  rintro r w' ⟨rfl,hB⟩
  exact⟨.slice none 0 0,by rw[hq];rfl,fun vs hvs=>absurd (hq.symm.trans hvs) (by simp),hB⟩
 obtain⟨I,hI⟩:∃ I:Nat,x.1=(I:Int):=⟨x.1.toNat,by simp at hp;omega⟩
 have hIM:I<M:=by simp at hp;omega
 obtain⟨o,hgi⟩:∃ o,g.2.1[I]?=some o:=⟨_,zV (by omega)⟩
 obtain⟨b,off,A9,c9,rfl,hb,x0,x1,x2,hvs,-,-⟩:=ob_at (rGr_open h).2.1 hgi
 have hob:obD g x=o:=by rw[obD,hI,Int.toNat_natCast];exact getD_of hgi
 by_cases ht:o.2.1=x.2.1
 rotate_left
 ·have hq:aheadQ g l x=none:=by
   rw[aheadQ,if_neg hx1,if_neg]
   rintro⟨-,-,e3⟩
   rw[hob] at e3
   exact ht e3
  rw[hI]
  refine (ahead_type A C N c M d K e b off I o.2.1 x.2.1 A2 xl c2 Mb w hb hIM x1 ht).mono ?_
  rintro r w' ⟨rfl,hB⟩
  exact⟨.slice none 0 0,by rw[hq];rfl,fun vs hvs=>absurd (hq.symm.trans hvs) (by simp),hB⟩
 have hq:aheadQ g l x=some (leadV (plG l) (fldsG g.1 x.2.1) o.2.2):=by
  rw[aheadQ,if_neg hx1,if_pos ⟨by omega,by omega,by rw[hob];exact ht⟩,hob]
 have mo:=mayG_obj hmay (List.mem_of_getElem? hgi)
 have hlen:=mo.len
 rw[ht] at hlen x1
 obtain⟨t,htt⟩:∃ t:Nat,x.2.1=(t:Int):=⟨x.2.1.toNat,by have:=mo.t0;omega⟩
 have htN:t<N:=by have:=mo.t1;omega
 rw[hI,hq,htt]
 rw[htt] at x1 hlen
 refine (ahead_there A C N c M d K e b off g I t o A2 A9 xl c2 c9 Mb mn l w hmay h hM hl hb hIM x1 x2 hvs hlen htN).mono ?_
 rintro r w' ⟨v,rfl,hv,hB⟩
 refine⟨v,rfl,fun vs hvs=>?_,hB⟩
 injection hvs with hvs
 subst hvs
 exact hv
def lastD:Int→List Cel→Int
 | p,[]=>p
 | _,c :: r=>lastD c.1 r
theorem riseF_app:∀ {S R:List Cel} {n:Nat} {p:Int},riseF n p (S++R)=(riseF n p S && riseF n (lastD p S) R)
 | [],R,n,p=>by rw[List.nil_append,riseF,lastD,Bool.true_and]
 | c :: S,R,n,p=>by rw[List.cons_append,riseF,riseF_app (S:=S),riseF,lastD,Bool.and_assoc (decide (p<c.1) && decide (c.1<(n:Int)))]
theorem lastD_app:∀ {S:List Cel} {c:Cel} {p:Int},lastD p (S++[c])=c.1
 | [],c,p=>rfl
 | d :: S,c,p=>by rw[List.cons_append,lastD,lastD_app (S:=S)]
theorem setQ_app:∀ {S:List Cel} {c:Cel} {vs:List Vl},setQ vs (S++[c])=(setQ vs S).set c.1.toNat c.2
 | [],c,vs=>rfl
 | d :: S,c,vs=>by rw[List.cons_append,setQ,setQ_app (S:=S),setQ]
theorem rise_step {S:List Cel} {i n:Nat} {c:Cel} (hc:S[i]?=some c) (h:riseF n (-1) (S.take i)=true):riseF n (-1) (S.take (i+1))=(decide (lastD (-1) (S.take i)<c.1) && decide (c.1<(n:Int))):=by
 rw[take_at hc,riseF_app,h,riseF,riseF,Bool.true_and,Bool.and_true]
theorem last_low:∀ {S:List Cel} {n:Nat} {p:Int},riseF n p S=true→p≤lastD p S
 | [],n,p,_=>Int.le_refl _
 | c :: S,n,p,h=>by
  rw[riseF,Bool.and_eq_true,Bool.and_eq_true,decide_eq_true_eq] at h
  have:=last_low (S:=S) h.2
  rw[lastD]
  omega
theorem rise_no {S:List Cel} {i n:Nat} (h:riseF n (-1) (S.take i)=false):riseF n (-1) S=false:=by
 rw[← List.take_append_drop i S,riseF_app,h,Bool.false_and]
theorem valuesOf_any (A B C:Option Addr) (N c M d K e:Nat) (g:Gr) (x:Itm) (A2:Option Addr) (xl c2 Mb mn:Nat) (l:List Itm) (w:World) (hmay:mayG g=true) (h:rGr (All w) w [.slice A N c,.slice B M d,.slice C K e] g) (hx:rCels (All w) w [.slice A2 xl c2] x.2.2) (hM:MpM w Mb mn (plF l)) (hl:l.length≤1000000):
  Calls Tryz.prog 69 #[.agg #[.slice A N c,.slice B M d,.slice C K e],.agg #[.int .i64 x.1,.int .i64 x.2.1,.slice A2 xl c2],.map (some Mb)] w fun r w'=>∃ v,r=.returned (.tuple #[v,.bool (valsQ g l x).isSome])∧(∀ vs,valsQ g l x=some vs→OwnV w.heap.size w' v vs)∧Below w.heap.size w w':=by
 obtain⟨hxl,hxc,hcm⟩:=slice_len hx
 simp only[maxLen] at hcm
 have hB0:Below w.heap.size w ((w.alloc (.cells #[.slice A N c,.slice B M d,.slice C K e] 28)).alloc (.cells #[.int .i64 x.1,.int .i64 x.2.1,.slice A2 xl c2] 50)):=((zA _ w).alloc (zW _) _).alloc (by simp) _
 obtain⟨p0,p1⟩:=blk_two w 28 50 [.slice A N c,.slice B M d,.slice C K e] [.int .i64 x.1,.int .i64 x.2.1,.slice A2 xl c2]
 have T1:=zZ (valuesAhead_any A B C N c M d K e g x A2 xl c2 Mb mn l _ hmay (gr_below hB0 h) (hM.below hB0) hl)
 have HX:=zZ hx
 have P1:=zZ p1
 have HB0:=zZ hB0
 have Hxl:=zZ hxl
 have Hvq:Hid (valsQ g l x=match aheadQ g l x with
  | none=>none
  | some vs=>if x.1 = -1∧x.2.2.length≠vs.length then none else if riseF vs.length (-1) x.2.2=true then some (setQ vs x.2.2) else none):=zZ rfl
 have h5:∀ vs,aheadQ g l x=some vs→vs.length≤5:=fun vs hvs=>by
  rw[aheadQ] at hvs
  split at hvs
  ·split at hvs
   ·injection hvs with hvs
    rw[← hvs,List.length_replicate]
    exact fields_few hmay _
   ·cases hvs
  ·split at hvs
   ·rename_i _ hh
    injection hvs with hvs
    have hmo:=mayG_obj hmay (ob_mem hh.1 hh.2.1)
    have hlen:=hmo.len
    rw[hh.2.2] at hlen
    rw[← hvs,leadV_len _ _ _ hlen,← hlen]
    exact fields_few hmay _
   ·cases hvs
 clear h hM hB0 p1 hx hxl hmay
 generalize hxf:x.1=xf at *
 generalize x.2.1=xt at *
 have i0:=P1.out.cell (j:=0) rfl
 have i1:=P1.out.cell (j:=1) rfl
 have i2:=P1.out.cell (j:=2) rfl
 have c0:=p0.cell (j:=0) rfl
 have c1:=p0.cell (j:=1) rfl
 have c2':=p0.cell (j:=2) rfl
 clear hxf p0
 go_enter Tryz.func69,Tryz.ntmps69
 go_wp2_with fail
 generalize (w.alloc (.cells #[.slice A N c,.slice B M d,.slice C K e] 28)).alloc (.cells #[.int .i64 xf,.int .i64 xt,.slice A2 xl c2] 50)=w1 at *
 refine T1.out.mono ?_
 rintro e w2 ⟨v,rfl,hv,hB2⟩
 have H2:=zZ hB2
 have HV:=zZ hv
 clear hv hB2 T1 i0 i1 i2 c0 c1 c2'
 cases hah:aheadQ g l x with
 | none=>
  rw[hah] at Hvq
  replace Hvq:Hid (valsQ g l x=none):=zZ Hvq.out
  clear hah h5 HV
  have i0:=(P1.out.to H2.out).cell (j:=0) rfl
  have i2:=(P1.out.to H2.out).cell (j:=2) rfl
  go_wp2
  go_ret2
  exact⟨.slice none 0 0,by rw[Hvq.out];rfl,fun vs hvs=>absurd (Hvq.out.symm.trans hvs) (by simp),HB0.out.trans (H2.out.mono HB0.out.size)⟩
 | some vs0=>
  have hn5:=h5 vs0 hah
  obtain⟨A3,c3,xs0,rfl,ho0,hc0⟩:=HV.out vs0 hah
  rw[hah] at Hvq
  replace Hvq:Hid (valsQ g l x=if xf = -1∧x.2.2.length≠vs0.length then none else if riseF vs0.length (-1) x.2.2=true then some (setQ vs0 x.2.2) else none):=zZ Hvq.out
  rw[Hxl.out] at Hvq
  have Ho0:=zZ (own_mono ho0 HB0.out.size)
  have Hc0:=zZ hc0
  have H2b:=zZ (HB0.out.trans (H2.out.mono HB0.out.size))
  have hs2:=H2.out.size
  have i0:=(P1.out.to H2.out).cell (j:=0) rfl
  have i2:=(P1.out.to H2.out).cell (j:=2) rfl
  generalize hn:vs0.length=n at *
  have Hn:=zZ hn
  clear hah h5 HV ho0 hc0 hn
  by_cases hbad:xf = -1∧xl≠n
  ·have e1:(xf == -1)=true:=by simp[hbad.1]
   have e2:((xl:Int) != (n:Int))=true:=by rw[bne_iff_ne];have:=hbad.2;omega
   have hq:valsQ g l x=none:=by rw[Hvq.out,if_pos hbad]
   have Hq:=zZ hq
   clear hbad hq Hvq
   go_wp2
   go_ret2
   exact⟨.slice none 0 0,by rw[Hq.out];rfl,fun vs hvs=>absurd (Hq.out.symm.trans hvs) (by simp),H2b.out⟩
  rw[if_neg hbad] at Hvq
  have hor:(xf == -1)=false∨((xf == -1)=true∧((xl:Int) != (n:Int))=false):=by
   by_cases hx:xf = -1
   ·exact .inr ⟨by simp[hx],by simp;omega⟩
   ·exact .inl (by simp[hx])
  clear hbad
  go_upto_region 2 with fail
  go_cut [34] (fun v34 wx=>v34=.bool false∧w2=wx)
  case first=>
   rcases hor with e1 | ⟨e1,e2⟩
   ·go_wp2
    go_meet
    case rel=>exact⟨rfl,rfl⟩
   ·go_wp2
    go_meet
    case rel=>exact⟨rfl,rfl⟩
  case rest=>
   obtain⟨rfl,rfl⟩:=hcut
   clear i0 hor
   go_wp2
   clear i2
   go_loopw [10,38] (fun lv iv w'=>∃ (i:Nat) (xs:List Value) (la:Int),i≤xl∧lv=.int .i64 la∧iv=.int .i64 (i:Int)∧Hid (la=lastD (-1) (x.2.2.take i))∧Hid (w'.ownsRow w.heap.size 47 3 (.slice A3 n c3) n xs)∧Hid (Chunks 3 (fun cs x=>∀ S W,rVal S W cs x) xs (setQ vs0 (x.2.2.take i)))∧Hid (riseF n (-1) (x.2.2.take i)=true)∧Hid (Below w.heap.size w w')) (fun _ iv _=>xl - (intOf iv).toNat)
   case atStart=>exact⟨0,xs0,-1,by omega,rfl,rfl,zZ rfl,Ho0,Hc0,zZ rfl,H2b⟩
   case round=>
    rename World=>wr
    obtain⟨i,xs,la,hi',rfl,rfl,hla,hown,hch,hri,hg⟩:=hrel
    clear Ho0 Hc0 H2b
    have hgs:=hg.out.size
    by_cases hin:i<xl
    ·obtain⟨cl,hcl⟩:∃ cl,x.2.2[i]?=some cl:=⟨_,zV (by have:=Hxl.out;omega)⟩
     obtain⟨bc,offc,sc,rfl,hbc,q0,q1,q2,q3,qs,qm,qb,qn,qr⟩:=cel_at (cels_below hg.out HX.out) hcl
     have hil:(i:Int)<(xl:Int):=by omega
     have hi0:(0:Int)≤(i:Int):=by omega
     have HA:=zZ (hg.out.alloc hgs (.cells #[.int .i64 cl.1,.int .i64 cl.2.1,.string sc,.int .i64 cl.2.2.2] 66))
     have hst:=rise_step hcl hri.out
     have hsq:setQ vs0 (x.2.2.take (i+1))=(setQ vs0 (x.2.2.take i)).set cl.1.toNat cl.2:=by rw[take_at hcl,setQ_app]
     have hlst:lastD (-1) (x.2.2.take (i+1))=cl.1:=by rw[take_at hcl,lastD_app]
     have hlen:(setQ vs0 (x.2.2.take i)).length=n:=by rw[setQ_len,Hn.out]
     by_cases hgood:la<cl.1∧cl.1<(n:Int)
     ·obtain⟨k,hk⟩:∃ k:Nat,cl.1=(k:Int):=by
       have:-1≤la:=by
        rw[hla.out]
        exact last_low hri.out
       exact⟨cl.1.toNat,by omega⟩
      have hkn:k<n:=by omega
      have e1:decide ((k:Int)≤la)=false:=zK (by omega)
      have e2:decide ((n:Int)≤(k:Int))=false:=zK (by omega)
      have Hst:Hid (riseF n (-1) (x.2.2.take (i+1))=true):=zZ (by rw[hst,← hla.out,zJ hgood.1,zJ hgood.2];rfl)
      have hownA:=hown.out.alloc (.cells #[.int .i64 cl.1,.int .i64 cl.2.1,.string sc,.int .i64 cl.2.2.2] 66)
      obtain⟨gb,y0,rfl,hgb,hgl,hy1,hy2,hy3,hy4⟩:=own_set hownA (p:=k * 3) (by omega)
      have hgw:gb<wr.heap.size:=(hown.out.lt gb rfl).2
      obtain⟨⟨y1,hz1,hz2⟩,hz3,hz4⟩:=own_put hownA (p:=k * 3+1) (by omega)
      obtain⟨⟨y2,hu1,hu2⟩,hu3,hu4⟩:=own_put hownA (p:=k * 3+2) (by omega)
      have Hcl:=zZ (chunks_set3 (k:=k) (v:=cl.2) hch.out (by omega) (fun S W=>rVal_mk (v:=cl.2) qs qm (WalkArith.wf_i64 qn) (WalkArith.wf_i64 qr)))
      have Hown:=zZ ((own_put ((own_put (hy4 (.int .i64 cl.2.1)) (p:=k * 3+1) (by omega)).2.2 (.string sc)) (p:=k * 3+2) (by omega)).2.2 (.int .i64 cl.2.2.2))
      rw[hk,Int.toNat_natCast] at hsq
      rw[hk] at hlst q0
      have Hsq:=zZ hsq
      have Hlst:=zZ hlst
      have hkl:(k:Int)<(n:Int):=by omega
      have hk0:(0:Int)≤(k:Int):=by omega
      have hld:=((((Blk.new wr 66 [.int .i64 cl.1,.int .i64 cl.2.1,.string sc,.int .i64 cl.2.2.2]).other ⟨gb,k * 3,none⟩ (.int .i64 cl.2.1) (show wr.heap.size≠gb by omega)).other ⟨gb,k * 3+1,none⟩ (.string sc) (show wr.heap.size≠gb by omega)).other ⟨gb,k * 3+2,none⟩ (.int .i64 cl.2.2.2) (show wr.heap.size≠gb by omega)).cell (j:=0) rfl
      rw[hk] at hld
      rw[hk] at HA hownA hy2 hy3 hz2 hz3 hu2 hu3 Hown
      clear hgood hst hsq hlst hlen hcl hownA hy1 hy4 hz1 hz4 hu1 hu4 hk qs qm qb qn qr hown hch hri hla
      generalize cl.2.1=cn at *
      generalize cl.2.2.2=cr at *
      clear hgw
      go_wp2
      go_roundw
      case rel=>exact⟨i+1,_,_,by omega,rfl,by go_num,zZ Hlst.out.symm,Hown,zZ (by rw[Hsq.out];exact Hcl.out),Hst,zZ (((HA.out.setCell (p:=⟨gb,k * 3,none⟩) hgb _).setCell (p:=⟨gb,k * 3+1,none⟩) hgb _).setCell (p:=⟨gb,k * 3+2,none⟩) hgb _)⟩
      case measure=>simp[intOf];omega
     ·have hno:riseF n (-1) (x.2.2.take (i+1))=false:=by
       rw[hst,← hla.out,← Bool.not_eq_true,Bool.and_eq_true,decide_eq_true_eq,decide_eq_true_eq]
       exact hgood
      have hq:valsQ g l x=none:=by rw[Hvq.out,if_neg (by rw[rise_no hno];simp)]
      have Hq:=zZ hq
      have hor:decide (cl.1≤la)=true∨(decide (cl.1≤la)=false∧decide ((n:Int)≤cl.1)=true):=by
       by_cases h1:cl.1≤la
       ·exact .inl (zJ h1)
       ·exact .inr ⟨zK h1,zJ (by omega)⟩
      clear hgood hst hsq hlst hlen hcl qs qm qb qn qr hown hch hri hla hno hq Hvq
      generalize cl.1=cf at *
      generalize cl.2.1=cn at *
      generalize cl.2.2.2=cr at *
      rcases hor with e1 | ⟨e1,e2⟩
      ·go_wp2
       go_ret2
       exact⟨.slice none 0 0,by rw[Hq.out];rfl,fun vs hvs=>absurd (Hq.out.symm.trans hvs) (by simp),HA.out⟩
      ·go_wp2
       go_ret2
       exact⟨.slice none 0 0,by rw[Hq.out];rfl,fun vs hvs=>absurd (Hq.out.symm.trans hvs) (by simp),HA.out⟩
    ·have hin':i=xl:=by omega
     have htk:x.2.2.take i=x.2.2:=List.take_of_length_le (by have:=Hxl.out;omega)
     rw[htk] at hri hch
     have hq:valsQ g l x=some (setQ vs0 x.2.2):=by rw[Hvq.out,if_pos hri.out]
     have Hq:=zZ hq
     have HL:Hid ((setQ vs0 x.2.2).length=n):=zZ (by rw[setQ_len,Hn.out])
     clear hin' htk hq Hvq
     go_wp2
     go_ret2
     refine⟨.slice A3 n c3,by rw[Hq.out];rfl,fun vs hvs=>?_,hg.out⟩
     have e:=Option.some.inj (Hq.out.symm.trans hvs)
     subst e
     exact⟨A3,c3,xs,by rw[HL.out],by rw[HL.out];exact hown.out,hch.out⟩
end Go.Proofs.YtnljjnkindjeoaaGreatDoor
