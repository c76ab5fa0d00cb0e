/- What becomes of a graph, on plain data: the delta of two graphs, and what a delta makes of a graph; what is made so is the other graph's Canon. No condition. -/
import Derived.Test.YtnljjnkindjeoaaGreatDoorCoSum
import Derived.Test.YtnljjnkindjeoaaGreatDoorAl
namespace Go.Proofs.YtnljjnkindjeoaaGreatDoor
abbrev Cel:=Int × Vl
abbrev Itm:=Int × Int × List Cel
abbrev Dlt:=Int × List Int × List Itm
def kindG (a b:Gr):Bool:=a.2.1.all (fun o=>decide (findG b.2.1 o.1 = -1) || decide (typG b.2.1 o.1=o.2.1)) && decide (a.1=b.1)
def setK (fresh:Bool) (old now c:List Vl) (k:Nat):List Cel:=(List.range k).filterMap fun (j:Nat)=>if fresh=false∧old[j]?=now[j]? then none else (c[j]?).map fun v=>((j:Int),v)
def itemD (a b:Gr) (i:Nat) (x:Int):Itm:=
 (atL (ordG a) x,(objG b.2.1 x).2.1,setK (decide (atL (ordG a) x<0)) (objG a.2.1 x).2.2 (objG b.2.1 x).2.2 (canO b (ordG b) i x).2.2 (objG b.2.1 x).2.2.length)
def makeE (a b:Gr):Int:=if (mayG a && mayG b)=true then if kindG a b=true then codeE a else 6 else 1
def makeD (a b:Gr):Dlt:=if makeE a b=0 then ((codeS a:Int),(canonG b).2.2,(ordG b).mapIdx (itemD a b)) else (0,[],[])
def fromD (l:List Itm) (n:Int):Int:=idxP (fun x=>decide (x.1=n)) l
def setF (x:Itm) (k:Nat):Option Vl:=(x.2.2.find? fun c=>decide (c.1=(k:Int))).map (·.2)
def riseF (n:Nat):Int→List Cel→Bool
 | _,[]=>true
 | p,c :: r=>decide (p<c.1) && decide (c.1<(n:Int)) && riseF n c.1 r
def riseD (x:Itm) (n:Nat):Bool:=riseF n (-1) x.2.2 && (decide (0≤x.1) || decide (x.2.2.length=n))
def valD (c:Gr) (l:List Itm) (x:Itm) (k:Nat) (f:Fld):Option Vl:=
 match setF x k with
 | some v=>some v
 | none=>if f.2.1=5∧0≤((c.2.1.getD x.1.toNat (0,0,[])).2.2.getD k (0,[],0)).2.2 then
   (if fromD l ((c.2.1.getD x.1.toNat (0,0,[])).2.2.getD k (0,[],0)).2.2<0 then none
    else some (((c.2.1.getD x.1.toNat (0,0,[])).2.2.getD k (0,[],0)).1,((c.2.1.getD x.1.toNat (0,0,[])).2.2.getD k (0,[],0)).2.1,fromD l ((c.2.1.getD x.1.toNat (0,0,[])).2.2.getD k (0,[],0)).2.2))
  else some ((c.2.1.getD x.1.toNat (0,0,[])).2.2.getD k (0,[],0))
def valsD (c:Gr) (l:List Itm) (x:Itm):Nat→List Fld→Option (List Vl)
 | _,[]=>some []
 | k,f :: fs=>(valD c l x k f).bind fun v=>(valsD c l x (k+1) fs).map (v :: ·)
def fitD (c:Gr) (l:List Itm) (i:Nat) (x:Itm):Bool:=
 (decide (0≤x.2.1) && decide (x.2.1<(c.1.length:Int))) && (decide (-1≤x.1) && decide (x.1<(c.2.1.length:Int))) && (decide (x.1<0) || (decide ((c.2.1.getD x.1.toNat (0,0,[])).2.1=x.2.1) && decide ((i:Int)≤fromD l x.1)))
def objD (c:Gr) (l:List Itm) (i:Nat) (x:Itm):Option Ob:=
 if (fitD c l i x && riseD x (fldsG c.1 x.2.1).length)=true then (valsD c l x 0 (fldsG c.1 x.2.1)).map fun vs=>((i:Int),x.2.1,vs) else none
def objsD (c:Gr) (l:List Itm):Nat→List Itm→Option (List Ob)
 | _,[]=>some []
 | i,x :: xs=>(objD c l i x).bind fun o=>(objsD c l (i+1) xs).map (o :: ·)
def applyD (g:Gr) (d:Dlt):Gr × Int:=
 if codeE g≠0 then (([],[],[]),codeE g) else if (codeS g:Int)≠d.1 then (([],[],[]),7)
 else match objsD (canonG g) d.2.2 0 d.2.2 with
  | none=>(([],[],[]),2)
  | some l=>if mayG (g.1,l,d.2.1)=true∧canonG (g.1,l,d.2.1)=(g.1,l,d.2.1) then ((g.1,l,d.2.1),0) else (([],[],[]),2)
theorem setK_succ (fr:Bool) (old now c:List Vl) (n:Nat):setK fr old now c (n+1)=setK fr old now c n++(if fr=false∧old[n]?=now[n]? then none else (c[n]?).map fun v=>((n:Int),v)).toList:=by
 rw[setK,setK,List.range_succ,List.filterMap_append]
 congr 1
theorem setK_mem {fr:Bool} {old now c:List Vl} {n:Nat} {x:Cel}:x∈setK fr old now c n↔∃ j:Nat,j<n∧x.1=(j:Int)∧c[j]?=some x.2∧¬ (fr=false∧old[j]?=now[j]?):=by
 rw[setK,List.mem_filterMap]
 constructor
 ·rintro⟨j,hj,h⟩
  rw[List.mem_range] at hj
  split at h
  ·cases h
  ·rename_i hn
   cases hc:c[j]? with
   | none=>rw[hc] at h;cases h
   | some v=>
    rw[hc] at h
    injection h with h
    subst h
    exact⟨j,hj,rfl,hc,hn⟩
 ·rintro⟨j,hj,h1,h2,h3⟩
  refine⟨j,List.mem_range.2 hj,?_⟩
  rw[if_neg h3,h2,← h1]
  rfl
theorem setK_find {fr:Bool} {old now c:List Vl}:∀ {n k:Nat},(setK fr old now c n).find? (fun x=>decide (x.1=(k:Int)))=if k<n then (if fr=false∧old[k]?=now[k]? then none else (c[k]?).map fun v=>((k:Int),v)) else none
 | 0,k=>by simp[setK]
 | n+1,k=>by
  rw[setK_succ,List.find?_append,setK_find (n:=n) (k:=k)]
  by_cases hk:k<n
  ·rw[if_pos hk,if_pos (show k<n+1 by omega)]
   have hne:((if fr=false∧old[n]?=now[n]? then none else (c[n]?).map fun v=>((n:Int),v)).toList).find? (fun x=>decide (x.1=(k:Int)))=none:=by
    rw[List.find?_eq_none]
    intro x hx
    split at hx
    ·cases hx
    ·cases hc:c[n]? with
     | none=>rw[hc] at hx;cases hx
     | some v=>
      rw[hc] at hx
      obtain rfl:=List.mem_singleton.1 hx
      simp only[decide_eq_true_eq]
      omega
   rw[hne]
   cases (if fr=false∧old[k]?=now[k]? then none else (c[k]?).map fun v=>((k:Int),v)) <;> rfl
  ·rw[if_neg hk]
   by_cases hkn:k=n
   ·subst hkn
    rw[if_pos (show k<k+1 by omega)]
    split
    ·rfl
    ·cases c[k]? with
     | none=>rfl
     | some v=>simp
   ·rw[if_neg (show ¬ k<n+1 by omega)]
    have hne:((if fr=false∧old[n]?=now[n]? then none else (c[n]?).map fun v=>((n:Int),v)).toList).find? (fun x=>decide (x.1=(k:Int)))=none:=by
     rw[List.find?_eq_none]
     intro x hx
     split at hx
     ·cases hx
     ·cases hc:c[n]? with
      | none=>rw[hc] at hx;cases hx
      | some v=>
       rw[hc] at hx
       obtain rfl:=List.mem_singleton.1 hx
       simp only[decide_eq_true_eq]
       omega
    rw[hne]
    rfl
theorem riseF_iff {n:Nat}:∀ {l:List Cel} {p:Int},riseF n p l=true↔(∀ c∈l,p<c.1∧c.1<(n:Int))∧l.Pairwise (fun a b=>a.1<b.1)
 | [],p=>by simp[riseF]
 | c :: r,p=>by
  rw[riseF,Bool.and_eq_true,Bool.and_eq_true,decide_eq_true_eq,decide_eq_true_eq,riseF_iff (l:=r),List.pairwise_cons]
  constructor
  ·rintro⟨⟨h1,h2⟩,h3,h4⟩
   refine⟨fun x hx=>?_,fun x hx=>(h3 x hx).1,h4⟩
   rcases List.mem_cons.1 hx with rfl | hx
   ·exact⟨h1,h2⟩
   ·have:=h3 x hx
    exact⟨by omega,this.2⟩
  ·rintro⟨h1,h2,h3⟩
   exact⟨h1 c (by simp),fun x hx=>⟨h2 x hx,(h1 x (by simp[hx])).2⟩,h3⟩
theorem setK_rise {fr:Bool} {old now c:List Vl} {n:Nat}:riseF n (-1) (setK fr old now c n)=true:=by
 rw[riseF_iff]
 refine⟨fun x hx=>?_,?_⟩
 ·obtain⟨j,hj,e,-,-⟩:=setK_mem.1 hx
  omega
 ·rw[setK,List.pairwise_filterMap]
  refine List.pairwise_lt_range.imp ?_
  intro i j hij x hx y hy
  have key:∀ {m:Nat} {z:Cel},(if fr=false∧old[m]?=now[m]? then none else (c[m]?).map fun v=>((m:Int),v))=some z→z.1=(m:Int):=by
   intro m z h
   split at h
   ·cases h
   ·cases hc:c[m]? with
    | none=>rw[hc] at h;cases h
    | some v=>rw[hc] at h;injection h with h;rw[← h]
  rw[key hx,key hy]
  omega
theorem setK_all {old now c:List Vl}:∀ {n:Nat},n≤c.length→(setK true old now c n).length=n
 | 0,_=>by simp[setK]
 | n+1,h=>by
  rw[setK_succ,List.length_append,setK_all (n:=n) (by omega),if_neg (by simp),zV (by omega)]
  rfl
theorem setF_item {a b:Gr} {i:Nat} {x:Int} {k:Nat} (hk:k<(objG b.2.1 x).2.2.length):setF (itemD a b i x) k=if ¬ atL (ordG a) x<0∧(objG a.2.1 x).2.2[k]?=(objG b.2.1 x).2.2[k]? then none else (canO b (ordG b) i x).2.2[k]?:=by
 rw[setF,itemD]
 simp only
 rw[setK_find,if_pos hk]
 by_cases h0:atL (ordG a) x<0
 ·rw[if_neg (fun h=>by have:=h.1;rw[zJ h0] at this;cases this),if_neg (fun h=>h.1 h0)]
  cases (canO b (ordG b) i x).2.2[k]? <;> rfl
 ·by_cases hv:(objG a.2.1 x).2.2[k]?=(objG b.2.1 x).2.2[k]?
  ·rw[if_pos ⟨zK h0,hv⟩,if_pos ⟨h0,hv⟩];rfl
  ·rw[if_neg (fun h=>hv h.2),if_neg (fun h=>hv h.2)]
   cases (canO b (ordG b) i x).2.2[k]? <;> rfl
theorem from_item {a b:Gr} (hb:mayG b=true) {j:Nat} {x:Int} (hx:(ordG b)[j]?=some x) (h0:0≤atL (ordG a) x):fromD ((ordG b).mapIdx (itemD a b)) (atL (ordG a) x)=(j:Int):=by
 rw[fromD]
 refine (idxP_iff _ _ j).2 ⟨⟨itemD a b j x,?_,zJ rfl⟩,fun m y hm hy=>?_⟩
 ·rw[List.getElem?_mapIdx,hx];rfl
 ·rw[List.getElem?_mapIdx] at hy
  cases hz:(ordG b)[m]? with
  | none=>rw[hz] at hy;cases hy
  | some z=>
   rw[hz] at hy
   injection hy with hy
   subst hy
   refine zK fun e=>?_
   have e':atL (ordG a) z=atL (ordG a) x:=e
   have hxm:x∈ordG a:=by
    rcases Classical.em (x∈ordG a) with h | h
    ·exact h
    ·rw[atL_none.2 h] at h0;omega
   have hzm:z∈ordG a:=by
    rcases Classical.em (z∈ordG a) with h | h
    ·exact h
    ·rw[atL_none.2 h] at e';omega
   obtain⟨p,hp,hp2⟩:=atL_mem hxm
   obtain⟨q,hq,hq2⟩:=atL_mem hzm
   have hpq:p=q:=by omega
   subst hpq
   rw[hp2] at hq2
   injection hq2 with hq2
   subst hq2
   have hn:=ordG_nodup hb
   have h1:=atL_at hn hx
   have h2:=atL_at hn hz
   omega
theorem kind_typ {a b:Gr} (ha:mayG a=true) (hb:mayG b=true) (hk:kindG a b=true) {x:Int} (hxa:x∈ordG a) (hxb:x∈ordG b):(objG a.2.1 x).2.1=(objG b.2.1 x).2.1:=by
 obtain⟨o,ho,hox,hob⟩:=ord_obj ha hxa
 obtain⟨p,hp,hpx,hpb⟩:=ord_obj hb hxb
 rw[kindG,Bool.and_eq_true,List.all_eq_true] at hk
 have h1:=hk.1 o ho
 rw[Bool.or_eq_true,decide_eq_true_eq,decide_eq_true_eq,hox] at h1
 have h2:findG b.2.1 x≠-1:=findG_mem.2 ⟨p,hp,hpx⟩
 rcases h1 with h1 | h1
 ·exact absurd h1 h2
 ·rw[hob,← h1,typG]
  rfl
theorem kind_sch {a b:Gr} (hk:kindG a b=true):a.1=b.1:=by
 rw[kindG,Bool.and_eq_true] at hk
 exact of_decide_eq_true hk.2
theorem at_pos {l:List Int} {x:Int} (h:x∈l):0≤atL l x:=by
 obtain⟨i,hi,-⟩:=atL_mem h
 omega
theorem at_in {l:List Int} {x:Int} (h:0≤atL l x):x∈l:=by
 rcases Classical.em (x∈l) with h1 | h1
 ·exact h1
 ·rw[atL_none.2 h1] at h;omega
theorem getD_of {α:Type} {l:List α} {i:Nat} {x d:α} (h:l[i]?=some x):l.getD i d=x:=by rw[List.getD_eq_getElem?_getD,h];rfl
theorem canon_getD {g:Gr} (hm:mayG g=true) {x:Int} (hx:x∈ordG g):(canonG g).2.1.getD (atL (ordG g) x).toNat (0,0,[])=canO g (ordG g) (atL (ordG g) x).toNat x:=by
 obtain⟨i,h1,h2⟩:=atL_mem hx
 rw[h1,Int.toNat_natCast]
 exact getD_of (canon_at hm h2)
theorem valsD_all {c:Gr} {l:List Itm} {x:Itm}:∀ {fs:List Fld} {vs:List Vl} {k:Nat},fs.length=vs.length→(∀ (j:Nat) f v,fs[j]?=some f→vs[j]?=some v→valD c l x (k+j) f=some v)→valsD c l x k fs=some vs
 | [],[],_,_,_=>rfl
 | [],_ :: _,_,h,_=>by simp at h
 | _ :: _,[],_,h,_=>by simp at h
 | f :: fs,v :: vs,k,h,hv=>by
  have h0:=hv 0 f v rfl rfl
  have ih:=valsD_all (fs:=fs) (vs:=vs) (k:=k+1) (by simpa using h) (fun j f v hf hv'=>by have:=hv (j+1) f v (by simpa using hf) (by simpa using hv');rwa [show k+(j+1)=k+1+j by omega] at this)
  rw[valsD,show valD c l x k f=some v from h0,Option.bind_some,ih]
  rfl
theorem objsD_all {c:Gr} {l:List Itm}:∀ {xs:List Itm} {os:List Ob} {k:Nat},xs.length=os.length→(∀ (j:Nat) x o,xs[j]?=some x→os[j]?=some o→objD c l (k+j) x=some o)→objsD c l k xs=some os
 | [],[],_,_,_=>rfl
 | [],_ :: _,_,h,_=>by simp at h
 | _ :: _,[],_,h,_=>by simp at h
 | x :: xs,o :: os,k,h,hv=>by
  have h0:=hv 0 x o rfl rfl
  have ih:=objsD_all (xs:=xs) (os:=os) (k:=k+1) (by simpa using h) (fun j x o hx ho=>by have:=hv (j+1) x o (by simpa using hx) (by simpa using ho);rwa [show k+(j+1)=k+1+j by omega] at this)
  rw[objsD,show objD c l k x=some o from h0,Option.bind_some,ih]
  rfl
theorem objD_make {a b:Gr} (ha:mayG a=true) (hb:mayG b=true) (hk:kindG a b=true) {i:Nat} {x:Int} (hx:(ordG b)[i]?=some x):objD (canonG a) ((ordG b).mapIdx (itemD a b)) i (itemD a b i x)=some (canO b (ordG b) i x):=by
 have hxb:x∈ordG b:=List.mem_of_getElem? hx
 obtain⟨p,hp,hpx,hpb⟩:=ord_obj hb hxb
 have hmp:=mayG_obj hb hp
 have hs:=kind_sch hk
 have hcs:(canonG a).1=b.1:=by rw[canon_sch ha,hs]
 have hlen:(fldsG b.1 (objG b.2.1 x).2.1).length=(objG b.2.1 x).2.2.length:=by rw[hpb];exact hmp.len
 have hcl:(canO b (ordG b) i x).2.2.length=(objG b.2.1 x).2.2.length:=leadV_len _ _ _ hlen
 have hfit:fitD (canonG a) ((ordG b).mapIdx (itemD a b)) i (itemD a b i x)=true:=by
  rw[fitD,Bool.and_eq_true,Bool.and_eq_true,Bool.and_eq_true,Bool.and_eq_true]
  refine⟨⟨⟨?_,?_⟩,?_,?_⟩,?_⟩
  ·refine zJ ?_
   show 0≤(objG b.2.1 x).2.1
   rw[hpb];exact hmp.t0
  ·refine zJ ?_
   show (objG b.2.1 x).2.1<_
   rw[hcs,hpb];exact hmp.t1
  ·exact zJ (idxP_low _ _)
  ·refine zJ ?_
   rw[canon_len ha]
   exact idxP_lt _ _
  ·rw[Bool.or_eq_true]
   by_cases h0:atL (ordG a) x<0
   ·exact .inl (zJ h0)
   ·refine .inr ?_
    have hxa:=at_in (x:=x) (l:=ordG a) (by omega)
    rw[Bool.and_eq_true]
    constructor
    ·refine zJ ?_
     show ((canonG a).2.1.getD (atL (ordG a) x).toNat (0,0,[])).2.1=(objG b.2.1 x).2.1
     rw[canon_getD ha hxa]
     exact kind_typ ha hb hk hxa hxb
    ·refine zJ ?_
     show (i:Int)≤fromD _ (atL (ordG a) x)
     rw[from_item hb hx (by omega)]
     omega
 have hrise:riseD (itemD a b i x) (fldsG (canonG a).1 (itemD a b i x).2.1).length=true:=by
  have e:(fldsG (canonG a).1 (itemD a b i x).2.1).length=(objG b.2.1 x).2.2.length:=by rw[hcs];exact hlen
  rw[e,riseD,Bool.and_eq_true]
  refine⟨setK_rise,?_⟩
  rw[Bool.or_eq_true]
  by_cases h0:atL (ordG a) x<0
  ·refine .inr (zJ ?_)
   show (setK (decide (atL (ordG a) x<0)) _ _ _ _).length=_
   rw[zJ h0]
   exact setK_all (by rw[hcl];exact zW _)
  ·exact .inl (zJ (by show 0≤atL (ordG a) x;omega))
 have hvals:valsD (canonG a) ((ordG b).mapIdx (itemD a b)) (itemD a b i x) 0 (fldsG (canonG a).1 (itemD a b i x).2.1)=some (canO b (ordG b) i x).2.2:=by
  have e:fldsG (canonG a).1 (itemD a b i x).2.1=fldsG b.1 (objG b.2.1 x).2.1:=by rw[hcs];rfl
  rw[e]
  refine valsD_all (by rw[hcl,hlen]) fun k f v hf hv=>?_
  rw[Nat.zero_add]
  have hkn:k<(objG b.2.1 x).2.2.length:=by rw[← hcl];exact (List.getElem?_eq_some_iff.1 hv).1
  obtain⟨v0,hv0⟩:∃ v0,(objG b.2.1 x).2.2[k]?=some v0:=⟨_,zV hkn⟩
  have hlead:=leadV_at (atL (ordG b)) hf hv0
  have hv':(canO b (ordG b) i x).2.2[k]?=some (if f.2.1=5 then (v0.1,v0.2.1,atL (ordG b) v0.2.2) else v0):=hlead
  rw[hv] at hv'
  injection hv' with hv'
  rw[valD,setF_item hkn]
  by_cases hun:¬ atL (ordG a) x<0∧(objG a.2.1 x).2.2[k]?=(objG b.2.1 x).2.2[k]?
  ·rw[if_pos hun]
   obtain⟨h0,hold⟩:=hun
   have hxa:=at_in (x:=x) (l:=ordG a) (by omega)
   rw[hv0] at hold
   have hty:=kind_typ ha hb hk hxa hxb
   have hfa:(fldsG a.1 (objG a.2.1 x).2.1)[k]?=some f:=by rw[hs,hty];exact hf
   have hla:=leadV_at (atL (ordG a)) hfa hold
   have hco:((canonG a).2.1.getD (itemD a b i x).1.toNat (0,0,[])).2.2.getD k (0,[],0)=(if f.2.1=5 then (v0.1,v0.2.1,atL (ordG a) v0.2.2) else v0):=by
    show ((canonG a).2.1.getD (atL (ordG a) x).toNat (0,0,[])).2.2.getD k (0,[],0)=_
    rw[canon_getD ha hxa]
    exact getD_of hla
   simp only
   rw[hco]
   by_cases h5:f.2.1=5
   ·rw[if_pos h5]
    simp only
    have href:v0.2.2∈refsL b.1 (objG b.2.1 x):=refsL_mem.2 ⟨k,f,v0,hf,hv0,h5,rfl⟩
    have hrefa:v0.2.2∈refsL a.1 (objG a.2.1 x):=refsL_mem.2 ⟨k,f,v0,hfa,hold,h5,rfl⟩
    by_cases hr0:0≤v0.2.2
    ·have hra:=ordG_shut ha x hxa _ hrefa hr0
     have hrb:=ordG_shut hb x hxb _ href hr0
     obtain⟨j,hj,hj2⟩:=atL_mem hrb
     have hap:=at_pos hra
     rw[if_pos ⟨h5,hap⟩,from_item hb hj2 hap,if_neg (by omega),hv',if_pos h5,hj]
    ·have hna:atL (ordG a) v0.2.2 = -1:=atL_none.2 fun h=>by have:=ordG_pos ha h;omega
     have hnb:atL (ordG b) v0.2.2 = -1:=atL_none.2 fun h=>by have:=ordG_pos hb h;omega
     rw[if_neg (fun h=>by have:=h.2;omega),hv',if_pos h5,hna,hnb]
   ·rw[if_neg h5,if_neg (fun h=>h5 h.1),hv',if_neg h5]
  ·rw[if_neg hun,hv]
 rw[objD,hfit,hrise,hvals]
 rfl
theorem apply_make {a b:Gr} (h:makeE a b=0):applyD a (makeD a b)=(canonG b,0):=by
 have h':=h
 rw[makeE] at h'
 split at h'
 ·rename_i hab
  rw[Bool.and_eq_true] at hab
  obtain⟨ha,hb⟩:=hab
  split at h'
  ·rename_i hk
   have ho:objsD (canonG a) ((ordG b).mapIdx (itemD a b)) 0 ((ordG b).mapIdx (itemD a b))=some (canonG b).2.1:=by
    refine objsD_all (by rw[canon_len hb,List.length_mapIdx]) fun j x o hx hO=>?_
    rw[Nat.zero_add]
    rw[List.getElem?_mapIdx] at hx
    cases hz:(ordG b)[j]? with
    | none=>rw[hz] at hx;cases hx
    | some z=>
     rw[hz] at hx
     injection hx with hx
     subst hx
     rw[canon_at hb hz] at hO
     injection hO with hO
     subst hO
     exact objD_make ha hb hk hz
   have e:(a.1,(canonG b).2.1,(canonG b).2.2)=canonG b:=by rw[kind_sch hk,← canon_sch hb]
   rw[applyD,makeD,if_pos h,if_neg (by simpa using h'),if_neg (by simp)]
   simp only
   rw[ho]
   simp only
   rw[e,if_pos ⟨canon_may hb,canon_twice hb⟩]
  ·cases h'
 ·cases h'
end Go.Proofs.YtnljjnkindjeoaaGreatDoor
