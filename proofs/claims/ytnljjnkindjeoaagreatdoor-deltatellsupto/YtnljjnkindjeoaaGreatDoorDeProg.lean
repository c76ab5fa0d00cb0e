/- What the program's own delta answers, on plain data: the same as the document's. No condition. -/
import Derived.Test.YtnljjnkindjeoaaGreatDoorDeMore
import Derived.Test.YtnljjnkindjeoaaGreatDoorAl
namespace Go.Proofs.YtnljjnkindjeoaaGreatDoor
def plF (l:List Itm) (y:Int):Option Int:=if y = -1 then some (-1) else if fromD l y<0 then none else some (fromD l y)
def plG (l:List Itm) (y:Int):Int:=(plF l y).getD (-2)
def onceD (l:List Itm):Bool:=allI (fun i x=>decide (x.1 = -1) || decide (fromD l x.1=(i:Int))) 0 l
abbrev obD (c:Gr) (x:Itm):Ob:=c.2.1.getD x.1.toNat (0,0,[])
def aheadQ (c:Gr) (l:List Itm) (x:Itm):Option (List Vl):=
 if x.1 = -1 then (if 0≤x.2.1∧x.2.1<(c.1.length:Int) then some (List.replicate (fldsG c.1 x.2.1).length vz) else none)
 else if 0≤x.1∧x.1<(c.2.1.length:Int)∧(obD c x).2.1=x.2.1 then some (leadV (plG l) (fldsG c.1 x.2.1) (obD c x).2.2)
 else none
def setQ:List Vl→List Cel→List Vl
 | vs,[]=>vs
 | vs,c :: r=>setQ (vs.set c.1.toNat c.2) r
def valsQ (c:Gr) (l:List Itm) (x:Itm):Option (List Vl):=
 match aheadQ c l x with
 | none=>none
 | some vs=>if x.1 = -1∧x.2.2.length≠vs.length then none else if riseF vs.length (-1) x.2.2=true then some (setQ vs x.2.2) else none
def objsP (c:Gr) (l:List Itm):Nat→List Itm→Option (List Ob)
 | _,[]=>some []
 | i,x :: xs=>(valsQ c l x).bind fun vs=>(objsP c l (i+1) xs).map (((i:Int),x.2.1,vs) :: ·)
def buildQ (c:Gr) (l:List Itm):Option (List Ob):=if onceD l=true then objsP c l 0 l else none
def applyQ (g:Gr) (d:Dlt):Gr × Int:=
 if codeE g≠0 then (([],[],[]),codeE g) else if (codeS g:Int)≠d.1 then (([],[],[]),7)
 else match buildQ (canonG g) d.2.2 with
  | none=>(([],[],[]),2)
  | some l=>if canonG ((canonG g).1,l,d.2.1)=((canonG g).1,l,d.2.1) then (((canonG g).1,l,d.2.1),0) else (([],[],[]),2)
theorem setQ_len:∀ {S:List Cel} {vs:List Vl},(setQ vs S).length=vs.length
 | [],_=>rfl
 | c :: r,vs=>by rw[setQ,setQ_len (S:=r),List.length_set]
theorem setQ_at:∀ {S:List Cel} {vs:List Vl} {p:Int} {k:Nat},riseF vs.length p S=true→-1≤p→k<vs.length →
  (setQ vs S)[k]?=match S.find? (fun c=>decide (c.1=(k:Int))) with | some c=>some c.2 | none=>vs[k]?
 | [],_,_,_,_,_,_=>rfl
 | c :: r,vs,p,k,h,hp,hk=>by
  rw[riseF,Bool.and_eq_true,Bool.and_eq_true,decide_eq_true_eq,decide_eq_true_eq] at h
  obtain⟨⟨h1,h2⟩,h3⟩:=h
  have hl:(vs.set c.1.toNat c.2).length=vs.length:=List.length_set
  rw[setQ,setQ_at (S:=r) (vs:=vs.set c.1.toNat c.2) (p:=c.1) (by rw[hl];exact h3) (by omega) (by rw[hl];exact hk),List.find?_cons]
  by_cases e:c.1=(k:Int)
  ·rw[zJ e]
   have hn:r.find? (fun c=>decide (c.1=(k:Int)))=none:=by
    rw[List.find?_eq_none]
    intro y hy
    have:=((riseF_iff.1 h3).1 y hy).1
    simp only[decide_eq_true_eq]
    omega
   rw[hn]
   simp only
   rw[e,Int.toNat_natCast,List.getElem?_set_self hk]
  ·rw[zK e]
   simp only
   rw[List.getElem?_set_ne (by omega)]
theorem rise_full:∀ {S:List Cel} {n:Nat} {p:Int},riseF n p S=true→p+1+(S.length:Int)=(n:Int)→∀ k:Nat,p<(k:Int)→k<n→∃ c∈S,c.1=(k:Int)
 | [],n,p,_,hl,k,h1,h2=>by simp at hl;omega
 | c :: r,n,p,h,hl,k,h1,h2=>by
  rw[riseF,Bool.and_eq_true,Bool.and_eq_true,decide_eq_true_eq,decide_eq_true_eq] at h
  obtain⟨⟨h3,h4⟩,h5⟩:=h
  have hb:c.1+1+(r.length:Int)≤(n:Int):=rise_room h5 h4
  rw[List.length_cons] at hl
  have hc:c.1=p+1:=by omega
  by_cases e:c.1=(k:Int)
  ·exact⟨c,List.mem_cons_self,e⟩
  ·obtain⟨y,hy,e2⟩:=rise_full (S:=r) h5 (by omega) k (by omega) h2
   exact⟨y,List.mem_cons_of_mem _ hy,e2⟩
where
 rise_room:∀ {S:List Cel} {n:Nat} {p:Int},riseF n p S=true→p<(n:Int)→p+1+(S.length:Int)≤(n:Int)
 | [],n,p,_,hp=>by simp;omega
 | c :: r,n,p,h,_=>by
  rw[riseF,Bool.and_eq_true,Bool.and_eq_true,decide_eq_true_eq,decide_eq_true_eq] at h
  obtain⟨⟨h3,h4⟩,h5⟩:=h
  have:=rise_room (S:=r) h5 h4
  rw[List.length_cons]
  omega
theorem valsD_none {c:Gr} {l:List Itm} {x:Itm}:∀ {fs:List Fld} {k j:Nat} {f:Fld},fs[j]?=some f→valD c l x (k+j) f=none→valsD c l x k fs=none
 | [],_,_,_,h,_=>by simp at h
 | a :: fs,k,0,f,h,hn=>by
  simp at h
  subst h
  rw[valsD,show valD c l x k a=none from hn]
  rfl
 | a :: fs,k,j+1,f,h,hn=>by
  rw[valsD,valsD_none (fs:=fs) (k:=k+1) (j:=j) (by simpa using h) (by rwa [show k+1+j=k+(j+1) by omega])]
  cases valD c l x k a <;> rfl
theorem from_lt {l:List Itm} {i:Nat} {x:Itm} (h:l[i]?=some x):0≤fromD l x.1∧fromD l x.1≤(i:Int):=by
 have h0:0≤fromD l x.1:=(idxP_ge _ _).2 ⟨x,List.mem_of_getElem? h,zJ rfl⟩
 refine⟨h0,?_⟩
 obtain⟨j,hj⟩:∃ j:Nat,fromD l x.1=(j:Int):=⟨(fromD l x.1).toNat,by omega⟩
 obtain⟨-,h2⟩:=(idxP_iff _ l j).1 hj
 rw[hj]
 by_cases e:j≤i
 ·omega
 ·have:=h2 i x (by omega) h
  simp at this
theorem ob_mem {c:Gr} {x:Itm} (h0:0≤x.1) (h1:x.1<(c.2.1.length:Int)):obD c x∈c.2.1:=by
 have:x.1.toNat<c.2.1.length:=by omega
 rw[obD,List.getD_eq_getElem?_getD,zV this]
 exact List.getElem_mem this
theorem fieldQ {c:Gr} (hm:mayG c=true) {l:List Itm} {x:Itm} (h0:0≤x.1) (h1:x.1<(c.2.1.length:Int)) (ht:(obD c x).2.1=x.2.1) (hr:riseF (fldsG c.1 x.2.1).length (-1) x.2.2=true) {k:Nat} {f:Fld} (hf:(fldsG c.1 x.2.1)[k]?=some f):
  ∃ v,(setQ (leadV (plG l) (fldsG c.1 x.2.1) (obD c x).2.2) x.2.2)[k]?=some v∧(valD c l x k f=some v∨(valD c l x k f=none∧f.2.1=5∧v.2.2 = -2)):=by
 have ho:=ob_mem h0 h1
 have hmo:=mayG_obj hm ho
 have hlen:=hmo.len
 rw[ht] at hlen
 have hll:=leadV_len (plG l) _ _ hlen
 have hk:k<(fldsG c.1 x.2.1).length:=(List.getElem?_eq_some_iff.1 hf).1
 obtain⟨v0,hv0⟩:∃ v0,(obD c x).2.2[k]?=some v0:=⟨_,zV (by omega)⟩
 have hat:=setQ_at (S:=x.2.2) (vs:=leadV (plG l) (fldsG c.1 x.2.1) (obD c x).2.2) (p:=-1) (k:=k) (by rw[hll,← hlen];exact hr) (by omega) (by omega)
 rw[hat]
 have hlead:=leadV_at (plG l) hf hv0
 have hg0:((c.2.1.getD x.1.toNat (0,0,[])).2.2.getD k (0,[],0))=v0:=getD_of hv0
 rw[valD,setF]
 cases hfi:x.2.2.find? (fun c=>decide (c.1=(k:Int))) with
 | some y=>exact⟨y.2,rfl,.inl rfl⟩
 | none=>
  simp only[Option.map_none]
  rw[hg0,hlead]
  refine⟨_,rfl,?_⟩
  by_cases h5:f.2.1=5
  ·rw[if_pos h5]
   have hrl:=refs_led hm ho v0.2.2 (refsL_mem.2 ⟨k,f,v0,by rw[ht];exact hf,hv0,h5,rfl⟩)
   by_cases hn:0≤v0.2.2
   ·rw[if_pos ⟨h5,hn⟩,plG,plF,if_neg (show ¬ v0.2.2 = -1 by omega)]
    by_cases hfd:fromD l v0.2.2<0
    ·rw[if_pos hfd,if_pos hfd]
     exact .inr ⟨rfl,h5,rfl⟩
    ·rw[if_neg hfd,if_neg hfd]
     exact .inl rfl
   ·have hn1:v0.2.2 = -1:=by
     rcases hrl with e | e
     ·exact e
     ·have:=id_pos hm e
      omega
    rw[if_neg (fun h=>hn h.2),plG,plF,if_pos hn1]
    refine .inl ?_
    rw[Option.getD_some,← hn1]
  ·rw[if_neg h5,if_neg (fun h=>h5 h.1)]
   exact .inl rfl
theorem itemQ {c:Gr} (hm:mayG c=true) {l:List Itm} (hon:onceD l=true) {i:Nat} {x:Itm} (hx:l[i]?=some x):
  (∃ vs,valsQ c l x=some vs∧objD c l i x=some ((i:Int),x.2.1,vs))∨(objD c l i x=none∧(valsQ c l x=none∨∃ (vs:List Vl) (k:Nat) (f:Fld) (v:Vl),valsQ c l x=some vs∧(fldsG c.1 x.2.1)[k]?=some f∧vs[k]?=some v∧f.2.1=5∧v.2.2 = -2)):=by
 have hox:=(allI_iff _ l 0).1 hon i x hx
 rw[Nat.zero_add,Bool.or_eq_true,decide_eq_true_eq,decide_eq_true_eq] at hox
 by_cases h1:x.1 = -1
 ·by_cases ht:0≤x.2.1∧x.2.1<(c.1.length:Int)
  ·by_cases hs:x.2.2.length=(fldsG c.1 x.2.1).length∧riseF (fldsG c.1 x.2.1).length (-1) x.2.2=true
   ·left
    refine⟨_,by rw[valsQ,aheadQ,if_pos h1,if_pos ht];simp only;rw[if_neg (by rw[List.length_replicate];exact fun h=>h.2 hs.1),if_pos (by rw[List.length_replicate];exact hs.2)],?_⟩
    have hfit:fitD c l i x=true:=by
     rw[fitD,h1]
     simp[ht.1,ht.2]
     omega
    have hri:riseD x (fldsG c.1 x.2.1).length=true:=by
     rw[riseD,hs.2,zJ hs.1];simp
    rw[objD,hfit,hri]
    simp only[Bool.and_self,if_true]
    rw[valsD_all (vs:=setQ (List.replicate (fldsG c.1 x.2.1).length vz) x.2.2) (by rw[setQ_len,List.length_replicate]) fun j f v hf hv=>?_]
    ·rfl
    ·rw[Nat.zero_add]
     have hj:j<(fldsG c.1 x.2.1).length:=(List.getElem?_eq_some_iff.1 hf).1
     rw[setQ_at (p:=-1) (by rw[List.length_replicate];exact hs.2) (by omega) (by rw[List.length_replicate];exact hj)] at hv
     obtain⟨y,hy,e⟩:=rise_full hs.2 (by rw[hs.1];omega) j (by omega) hj
     cases hfi:x.2.2.find? (fun c=>decide (c.1=(j:Int))) with
     | none=>rw[List.find?_eq_none] at hfi;exact absurd (zJ e) (by simpa using hfi y hy)
     | some z=>
      rw[hfi] at hv
      rw[valD,setF,hfi]
      exact hv
   ·right
    have hq:valsQ c l x=none:=by
     rw[valsQ,aheadQ,if_pos h1,if_pos ht]
     simp only
     rw[List.length_replicate]
     by_cases hl:x.2.2.length=(fldsG c.1 x.2.1).length
     ·rw[if_neg (fun h=>h.2 hl),if_neg (fun h=>hs ⟨hl,h⟩)]
     ·rw[if_pos ⟨h1,hl⟩]
    refine⟨?_,.inl hq⟩
    rw[objD,if_neg]
    intro h
    rw[Bool.and_eq_true,riseD,Bool.and_eq_true,Bool.or_eq_true,decide_eq_true_eq,decide_eq_true_eq] at h
    exact hs ⟨by have:=h.2.2;omega,h.2.1⟩
  ·right
   refine⟨?_,.inl (by rw[valsQ,aheadQ,if_pos h1,if_neg ht])⟩
   rw[objD,if_neg]
   intro h
   rw[Bool.and_eq_true,fitD] at h
   simp only[Bool.and_eq_true,decide_eq_true_eq] at h
   exact ht h.1.1.1
 ·by_cases ht:0≤x.1∧x.1<(c.2.1.length:Int)∧(obD c x).2.1=x.2.1
  ·obtain⟨t0,t1,t2⟩:=ht
   have hmo:=mayG_obj hm (ob_mem t0 t1)
   have hlen:=hmo.len
   rw[t2] at hlen
   have hll:=leadV_len (plG l) _ _ hlen
   have hah:aheadQ c l x=some (leadV (plG l) (fldsG c.1 x.2.1) (obD c x).2.2):=by rw[aheadQ,if_neg h1,if_pos ⟨t0,t1,t2⟩]
   by_cases hs:riseF (fldsG c.1 x.2.1).length (-1) x.2.2=true
   ·have hq:valsQ c l x=some (setQ (leadV (plG l) (fldsG c.1 x.2.1) (obD c x).2.2) x.2.2):=by
     rw[valsQ,hah]
     simp only
     rw[if_neg (fun h=>h1 h.1),if_pos (by rw[hll,← hlen];exact hs)]
    have hfit:fitD c l i x=true:=by
     have f0:=hox.resolve_left h1
     have t2':(c.2.1.getD x.1.toNat (0,0,[])).2.1=x.2.1:=t2
     have a0:=hmo.t0
     have a1:=hmo.t1
     rw[t2] at a0 a1
     rw[fitD,zJ a0,zJ a1,zJ (show -1≤x.1 by omega),zJ t1,zJ t2',zJ (show (i:Int)≤fromD l x.1 by omega)]
     simp
    have hri:riseD x (fldsG c.1 x.2.1).length=true:=by rw[riseD,hs,zJ t0];rfl
    by_cases hb:∃ (j:Nat) (f:Fld),(fldsG c.1 x.2.1)[j]?=some f∧valD c l x j f=none
    ·right
     obtain⟨j,f,hf,hv⟩:=hb
     obtain⟨v,e1,e2⟩:=fieldQ hm (l:=l) t0 t1 t2 hs hf
     refine⟨?_,.inr ⟨_,j,f,v,hq,hf,e1,?_⟩⟩
     ·rw[objD,hfit,hri]
      simp only[Bool.and_self,if_true]
      rw[valsD_none (k:=0) hf (by rw[Nat.zero_add];exact hv)]
      rfl
     ·rcases e2 with e2 | e2
      ·rw[hv] at e2;cases e2
      ·exact e2.2
    ·left
     refine⟨_,hq,?_⟩
     rw[objD,hfit,hri]
     simp only[Bool.and_self,if_true]
     rw[valsD_all (vs:=setQ (leadV (plG l) (fldsG c.1 x.2.1) (obD c x).2.2) x.2.2) (by rw[setQ_len];omega) fun j f v hf hv=>?_]
     ·rfl
     ·rw[Nat.zero_add]
      obtain⟨v',e1,e2⟩:=fieldQ hm (l:=l) t0 t1 t2 hs hf
      rw[hv] at e1
      injection e1 with e1
      subst e1
      rcases e2 with e2 | e2
      ·exact e2
      ·exact absurd ⟨j,f,hf,e2.1⟩ hb
   ·right
    refine⟨?_,.inl ?_⟩
    ·rw[objD,if_neg]
     intro h
     rw[Bool.and_eq_true,riseD,Bool.and_eq_true] at h
     exact hs h.2.1
    ·rw[valsQ,hah]
     simp only
     rw[if_neg (fun h=>h1 h.1),if_neg (by rw[hll,← hlen];exact hs)]
  ·right
   refine⟨?_,.inl (by rw[valsQ,aheadQ,if_neg h1,if_neg ht])⟩
   rw[objD,if_neg]
   intro h
   rw[Bool.and_eq_true,fitD] at h
   simp only[Bool.and_eq_true,Bool.or_eq_true,decide_eq_true_eq] at h
   obtain⟨⟨⟨-,h2,h3⟩,h4⟩,-⟩:=h
   rcases h4 with h4 | h4
   ·omega
   ·exact ht ⟨by omega,h3,h4.1⟩
theorem objsP_eq {c:Gr} (hm:mayG c=true) {l:List Itm} (hon:onceD l=true):∀ {xs:List Itm} {k:Nat},(∀ j x,xs[j]?=some x→l[k+j]?=some x) →
  objsP c l k xs=objsD c l k xs∨(objsD c l k xs=none∧∃ os,objsP c l k xs=some os∧∃ o∈os,-2∈refsL c.1 o)
 | [],k,_=>.inl rfl
 | x :: xs,k,h=>by
  have hx:=h 0 x rfl
  rw[Nat.add_zero] at hx
  have ih:=objsP_eq hm hon (xs:=xs) (k:=k+1) (fun j y hy=>by have:=h (j+1) y (by simpa using hy);rwa [show k+1+j=k+(j+1) by omega])
  rw[objsP,objsD]
  rcases itemQ hm hon hx with⟨vs,e1,e2⟩ | ⟨e1,e2 | ⟨vs,j,f,v,e2,e3,e4,e5,e6⟩⟩
  ·rw[e1,e2,Option.bind_some,Option.bind_some]
   rcases ih with ih | ⟨i1,os,i2,o,ho,hr⟩
   ·rw[ih]
    exact .inl rfl
   ·right
    rw[i1,i2]
    exact⟨rfl,_,rfl,o,List.mem_cons_of_mem _ ho,hr⟩
  ·rw[e1,e2]
   exact .inl rfl
  ·rw[e1,e2,Option.bind_some]
   rcases ho:objsP c l (k+1) xs with _ | os
   ·exact .inl rfl
   ·right
    refine⟨rfl,_,rfl,_,List.mem_cons_self,refsL_mem.2 ⟨j,f,v,e3,e4,e5,e6⟩⟩
theorem objsD_none {c:Gr} {l:List Itm}:∀ {xs:List Itm} {k j:Nat} {x:Itm},xs[j]?=some x→objD c l (k+j) x=none→objsD c l k xs=none
 | [],_,_,_,h,_=>by simp at h
 | y :: xs,k,0,x,h,hn=>by
  simp at h
  subst h
  rw[objsD,show objD c l k y=none from hn]
  rfl
 | y :: xs,k,j+1,x,h,hn=>by
  rw[objsD,objsD_none (xs:=xs) (k:=k+1) (j:=j) (by simpa using h) (by rwa [show k+1+j=k+(j+1) by omega])]
  cases objD c l k y <;> rfl
theorem once_no {c:Gr} {l:List Itm} (h:¬ onceD l=true):objsD c l 0 l=none:=by
 rw[onceD,allI_iff] at h
 obtain⟨j,h⟩:=Classical.not_forall.1 h
 obtain⟨x,h⟩:=Classical.not_forall.1 h
 obtain⟨hx,h⟩:=Classical.not_imp.1 h
 rw[Nat.zero_add,Bool.or_eq_true,decide_eq_true_eq,decide_eq_true_eq] at h
 refine objsD_none hx ?_
 rw[Nat.zero_add,objD,if_neg]
 intro h2
 rw[Bool.and_eq_true,fitD] at h2
 simp only[Bool.and_eq_true,Bool.or_eq_true,decide_eq_true_eq] at h2
 obtain⟨⟨⟨-,h3,-⟩,h4⟩,-⟩:=h2
 have hl:=from_lt hx
 have hne:x.1≠-1:=fun e=>h (.inl e)
 have hne2:fromD l x.1≠(j:Int):=fun e=>h (.inr e)
 rcases h4 with h4 | h4
 ·omega
 ·omega
theorem bad_may {c:Gr} {os:List Ob} {rs:List Int} {o:Ob} (ho:o∈os) (hr:-2∈refsL c.1 o):mayG (c.1,os,rs)=false:=by
 cases hm:mayG (c.1,os,rs) with
 | false=>rfl
 | true=>
  rcases refs_led (g:=(c.1,os,rs)) hm ho (-2) hr with e | e
  ·cases e
  ·have:=id_pos hm e
   omega
theorem canon_self_may {s:Sch} {os:List Ob} {rs:List Int} (hs:s≠[]):canonG (s,os,rs)=(s,os,rs)↔mayG (s,os,rs)=true∧canonG (s,os,rs)=(s,os,rs):=by
 refine⟨fun h=>⟨?_,h⟩,fun h=>h.2⟩
 cases hm:mayG (s,os,rs) with
 | true=>rfl
 | false=>
  rw[canonG,if_neg (by rw[hm];decide)] at h
  exact absurd (congrArg (·.1) h).symm hs
theorem may_sch {g:Gr} (hm:mayG g=true):g.1≠[]:=fun e=>by
 have:=((mayS_iff _).1 (mayG_parts hm).1).1.1
 rw[e] at this
 simp at this
theorem applyQ_eq (g:Gr) (d:Dlt):applyQ g d=applyD g d:=by
 by_cases he:codeE g=0
 ·by_cases hs:(codeS g:Int)=d.1
  ·have hm:=codeE_may he
   have hc:=canon_may hm
   have e1:=canon_sch hm
   rw[applyQ,if_neg (by simpa using he),if_neg (by simpa using hs),applyD,if_neg (by simpa using he),if_neg (by simpa using hs),buildQ]
   by_cases hon:onceD d.2.2=true
   ·rw[if_pos hon]
    rcases objsP_eq hc hon (xs:=d.2.2) (k:=0) (fun j x h=>by rwa [Nat.zero_add]) with e | ⟨e2,os,e3,o,ho,hr⟩
    ·rw[e]
     cases objsD (canonG g) d.2.2 0 d.2.2 with
     | none=>rfl
     | some l=>
      simp only
      rw[e1]
      by_cases hcn:canonG (g.1,l,d.2.1)=(g.1,l,d.2.1)
      ·rw[if_pos hcn,if_pos ((canon_self_may (may_sch hm)).1 hcn)]
      ·rw[if_neg hcn,if_neg (fun h=>hcn h.2)]
    ·rw[e2,e3]
     simp only
     rw[if_neg]
     intro h
     have:=((canon_self_may (may_sch hc)).1 h).1
     rw[bad_may ho hr] at this
     cases this
   ·rw[if_neg hon,once_no hon]
  ·rw[applyQ,if_neg (by simpa using he),if_pos hs,applyD,if_neg (by simpa using he),if_pos hs]
 ·rw[applyQ,applyD,if_pos he,if_pos he]
def allC (c:List Vl):List Cel:=c.mapIdx fun i v=>((i:Int),v)
def otherC (was now:List Vl) (x:Cel):Bool:=!decide (was[x.1.toNat]?=now[x.1.toNat]?)
theorem allC_at {c:List Vl} {i:Nat} {v:Vl} (h:c[i]?=some v):(allC c)[i]?=some ((i:Int),v):=by rw[allC,List.getElem?_mapIdx,h];rfl
theorem allC_len {c:List Vl}:(allC c).length=c.length:=by rw[allC,List.length_mapIdx]
theorem setK_take {old now c:List Vl}:∀ {n:Nat},n≤c.length→setK true old now c n=(allC c).take n
 | 0,_=>by simp[setK]
 | n+1,h=>by
  have hv:c[n]?=some (c[n]'(by omega)):=zV (by omega)
  rw[setK_succ,setK_take (n:=n) (by omega),if_neg (by simp),hv,List.take_add_one,allC_at hv]
  rfl
theorem setK_new {old now c:List Vl} {n:Nat} (h:c.length=n):setK true old now c n=allC c:=by
 rw[setK_take (by omega),List.take_of_length_le (by rw[allC_len];omega)]
theorem setK_keep {old now c:List Vl}:∀ {n:Nat},n≤c.length→setK false old now c n=((allC c).take n).filter (otherC old now)
 | 0,_=>by simp[setK]
 | n+1,h=>by
  have hv:c[n]?=some (c[n]'(by omega)):=zV (by omega)
  rw[setK_succ,setK_keep (n:=n) (by omega),List.take_add_one,allC_at hv,List.filter_append]
  congr 1
  by_cases he:old[n]?=now[n]?
  ·rw[if_pos ⟨rfl,he⟩]
   simp[otherC,he]
  ·rw[if_neg (fun h=>he h.2),hv]
   simp[otherC,he]
theorem setK_old {old now c:List Vl} {n:Nat} (h:c.length=n):setK false old now c n=(allC c).filter (otherC old now):=by
 rw[setK_keep (by omega),List.take_of_length_le (by rw[allC_len];omega)]
def kindQ (a b:Gr):Bool:=decide (a.1=b.1) && b.2.1.all (fun o=>decide (findG a.2.1 o.1 = -1) || decide (typG a.2.1 o.1=o.2.1))
theorem kindQ_eq {a b:Gr} (ha:mayG a=true) (hb:mayG b=true):kindQ a b=kindG a b:=by
 have key:∀ {a b:Gr},mayG a=true→(∀ o∈b.2.1,findG a.2.1 o.1 = -1∨typG a.2.1 o.1=o.2.1)→∀ o∈a.2.1,findG b.2.1 o.1 = -1∨typG b.2.1 o.1=o.2.1:=by
  intro a b ha h o ho
  by_cases hf:findG b.2.1 o.1 = -1
  ·exact .inl hf
  ·obtain⟨i,p,-,h2,h3,h4⟩:=findG_at hf
   right
   rw[h4]
   have hp:=h p (List.mem_of_getElem? h2)
   have hfa:findG a.2.1 p.1≠-1:=findG_mem.2 ⟨o,ho,h3.symm⟩
   obtain⟨j,q,-,k2,k3,k4⟩:=findG_at hfa
   have:q=o:=mayG_apart ha (List.mem_of_getElem? k2) ho (k3.trans h3)
   subst this
   rw[← hp.resolve_left hfa,k4]
 rw[Bool.eq_iff_iff,kindQ,kindG,Bool.and_eq_true,Bool.and_eq_true,List.all_eq_true,List.all_eq_true]
 simp only[Bool.or_eq_true,decide_eq_true_eq]
 exact⟨fun h=>⟨key ha h.2,h.1⟩,fun h=>⟨h.2,key hb h.1⟩⟩
end Go.Proofs.YtnljjnkindjeoaaGreatDoor
