/- The texts GrSetMem, GrRows3, RowIn, GrReach, CaMeetAll, CaOrdPlain, CaOrder, CaCanonAll, ScFldEq, ScSame, GrSame, CaIso, ScOne, GrOne, GrFew, GrRefS, CaLead in one (as far as the seat has what they speak of); what each proves, and its conditions, stands before it. -/
import Derived.Test.YtnljjnkindjeoaaGreatDoorGPlain
import Derived.Test.YtnljjnkindjeoaaGreatDoorGGraph
import Derived.Lib.AppendZeros
import Derived.Test.YtnljjnkindjeoaaGreatDoorGGen
import Derived.Maps.OwnSet
import Derived.Maps.OwnOps
import Derived.Deep.LoopGhost
import Derived.BigQuiet
import Derived.Laws.StructEq
import Derived.Test.YtnljjnkindjeoaaGreatDoorAl
set_option maxRecDepth 100000
set_option maxHeartbeats 4000000
namespace Go.Proofs.YtnljjnkindjeoaaGreatDoor
open Go.RowKit
theorem chunks_set3 {α:Type} {R:List Value→α→Prop} {xs:List Value} {l:List α} {a b c:Value} {v:α} {k:Nat} (h:Chunks 3 R xs l) (hk:k<l.length) (hR:R [a,b,c] v):Chunks 3 R (((xs.set (k * 3) a).set (k * 3+1) b).set (k * 3+2) c) (l.set k v):=by
 have hl:=h.1
 refine⟨by simp[hl],fun i x hx=>?_⟩
 by_cases hik:i=k
 ·subst hik
  have hx':v=x:=by simpa [hk] using hx
  subst hx'
  have:(((((xs.set (i * 3) a).set (i * 3+1) b).set (i * 3+2) c).drop (i * 3)).take 3)=[a,b,c]:=by
   refine List.ext_getElem? fun j=>?_
   rw[List.getElem?_take]
   rcases Nat.lt_or_ge j 3 with hj | hj
   ·rw[if_pos hj,List.getElem?_drop]
    have:j=0∨j=1∨j=2:=by omega
    rcases this with rfl | rfl | rfl
    ·rw[List.getElem?_set_ne (by omega),List.getElem?_set_ne (by omega),Nat.add_zero,List.getElem?_set_self (by omega)];rfl
    ·rw[List.getElem?_set_ne (by omega),List.getElem?_set_self (by simp;omega)];rfl
    ·rw[List.getElem?_set_self (by simp;omega)];rfl
   ·rw[if_neg (by omega),List.getElem?_eq_none (by simpa using hj)]
  rw[this]
  exact hR
 ·have hx':l[i]?=some x:=by rwa [List.getElem?_set_ne (fun e=>hik e.symm)] at hx
  have:(((((xs.set (k * 3) a).set (k * 3+1) b).set (k * 3+2) c).drop (i * 3)).take 3)=(xs.drop (i * 3)).take 3:=by
   refine List.ext_getElem? fun j=>?_
   rw[List.getElem?_take,List.getElem?_take]
   rcases Nat.lt_or_ge j 3 with hj | hj
   ·rw[if_pos hj,if_pos hj,List.getElem?_drop,List.getElem?_drop,List.getElem?_set_ne (by omega),List.getElem?_set_ne (by omega),List.getElem?_set_ne (by omega)]
   ·rw[if_neg (by omega),if_neg (by omega)]
  rw[this]
  exact h.2 i x hx'
theorem obCells_at:∀ {os:List Ob} {bs:List Nat} {i:Nat} {o:Ob} {b:Nat},os[i]?=some o→bs[i]?=some b→(obCells os bs)[i * 3+2]?=some (.slice (some ⟨b,0,none⟩) o.2.2.length o.2.2.length)
 | [],_,_,_,_,h,_=>by simp at h
 | _ :: _,[],_,_,_,_,h=>by simp at h
 | p :: os,c :: bs,0,o,b,h,h'=>by simp at h h';subst h h';rfl
 | p :: os,c :: bs,i+1,o,b,h,h'=>by
  rw[obCells,show (i+1) * 3+2=i * 3+2+1+1+1 by omega]
  simp only[List.getElem?_cons_succ]
  exact obCells_at (by simpa using h) (by simpa using h')
theorem obCells_set:∀ {os:List Ob} {bs:List Nat} {i:Nat} {o p:Ob},os[i]?=some o→p.1=o.1→p.2.1=o.2.1→p.2.2.length=o.2.2.length→obCells (os.set i p) bs=obCells os bs
 | [],_,_,_,_,h,_,_,_=>by simp at h
 | q :: os,[],i,o,p,_,_,_,_=>by cases i <;> rfl
 | q :: os,c :: bs,0,o,p,h,h1,h2,h3=>by simp at h;subst h;rw[zX,obCells,obCells,h1,h2,h3]
 | q :: os,c :: bs,i+1,o,p,h,h1,h2,h3=>by rw[zQ,obCells,obCells,obCells_set (by simpa using h) h1 h2 h3]
theorem ObIn.set {lo hi:Nat} {w W:World} {bs:List Nat} {os:List Ob} {I k b:Nat} {o:Ob} {v:Vl} {vs:List Value} {x y z:Value} (h2:os.length=bs.length) (h3:bs.Pairwise (·<·)) (h4:∀ (i:Nat) o b,os[i]?=some o→bs[i]?=some b→lo<b∧b<hi∧OwnF w b o)
  (ho:os[I]?=some o) (hb:bs[I]?=some b) (hk:k<o.2.2.length) (hvs:Blk w b 47 vs) (hch:Chunks 3 (rVal (fun _=>True) w) vs o.2.2) (hv:∀ S W',rVal S W' [x,y,z] v) (hW:Blk W b 47 (((vs.set (k * 3) x).set (k * 3+1) y).set (k * 3+2) z)) (hkeep:∀ c,lo<c→c<hi→c≠b→W.heap[c]?=w.heap[c]?):
  ObIn lo hi W (obCells os bs) (os.set I (o.1,o.2.1,o.2.2.set k v)):=by
 have _:=hvs
 refine⟨bs,(obCells_set (p:=(o.1,o.2.1,o.2.2.set k v)) ho rfl rfl (by simp)).symm,by rw[List.length_set,h2],h3,fun i p c hp hc=>?_⟩
 have hIl:=(List.getElem?_eq_some_iff.1 ho).1
 by_cases hi:i=I
 ·subst hi
  have e:(o.1,o.2.1,o.2.2.set k v)=p:=by simpa [hIl] using hp
  subst e
  rw[hb] at hc
  injection hc with hc
  subst hc
  obtain⟨h5,h6,h7,h8,h9,-⟩:=h4 i o b ho hb
  exact⟨h5,h6,h7,h8,by simpa using h9,_,hW,chunks_set3 (R:=rVal (fun _=>True) W) hch hk (hv _ _)⟩
 ·rw[List.getElem?_set_ne (fun e=>hi e.symm)] at hp
  obtain⟨h5,h6,h7⟩:=h4 i p c hp hc
  refine⟨h5,h6,h7.keep (hkeep c h5 h6 fun e=>?_)⟩
  subst e
  have hil:=(List.getElem?_eq_some_iff.1 hc).1
  have hIb:=(List.getElem?_eq_some_iff.1 hb).1
  rw[List.pairwise_iff_getElem] at h3
  rcases Nat.lt_or_gt_of_ne hi with hlt | hlt
  ·have:=h3 i I hil hIb hlt
   rw[(List.getElem?_eq_some_iff.1 hc).2,(List.getElem?_eq_some_iff.1 hb).2] at this
   omega
  ·have:=h3 I i hIb hil hlt
   rw[(List.getElem?_eq_some_iff.1 hc).2,(List.getElem?_eq_some_iff.1 hb).2] at this
   omega
theorem info_vals:(Tryz.prog.info? 47).map (fun i=>(i.zero,i.size,i.bytes))=some (some (.agg #[.int .i64 0,.string ⟨#[]⟩,.int .i64 0]),3,32):=by kernel_rfl
theorem own_set {w:World} {base e size n c p:Nat} {A:Option Addr} {xs:List Value} (h:w.ownsRow base e size (.slice A n c) n xs) (hp:p<n * size):
  ∃ gb y,A=some ⟨gb,0,none⟩∧base≤gb∧gb<w.heap.size∧xs[p]?=some y∧w.cell? ⟨gb,p,none⟩=some y∧w.frozen? ⟨gb,p,none⟩=false∧∀ u,(w.setCell ⟨gb,p,none⟩ u).ownsRow base e size (.slice A n c) n (xs.set p u):=by
 have hl:=h.1
 rcases h.2 with⟨_,h0⟩ | ⟨g,cap,cur,hv,hb,hg,hnc,hcm,hcs,htk⟩
 ·subst h0;omega
 ·injection hv with e1 _ e3
  subst e1 e3
  have B:Blk w g e cur.toList:=hg
  have hcl:cur.toList.length=c * size:=by simpa using hcs
  have hle:n * size≤c * size:=Nat.mul_le_mul_right _ hnc
  obtain⟨y,hy⟩:∃ y,cur.toList[p]?=some y:=⟨_,zV (by omega)⟩
  have hx:xs[p]?=some y:=by rw[← htk,List.getElem?_take_of_lt hp];exact hy
  refine⟨g,y,rfl,hb,B.lt,hx,B.cell (j:=p) hy,B.frozen p,fun u=>?_⟩
  refine⟨by simpa using hl,.inr ⟨g,c,(cur.toList.set p u).toArray,rfl,hb,B.set p u,hnc,hcm,by simpa using hcs,?_⟩⟩
  rw[← htk,List.take_set]
theorem own_put {w:World} {base e size n c p gb:Nat} {xs:List Value} (h:w.ownsRow base e size (.slice (some ⟨gb,0,none⟩) n c) n xs) (hp:p<n * size):
  (∃ y,xs[p]?=some y∧w.cell? ⟨gb,p,none⟩=some y)∧w.frozen? ⟨gb,p,none⟩=false∧∀ u,(w.setCell ⟨gb,p,none⟩ u).ownsRow base e size (.slice (some ⟨gb,0,none⟩) n c) n (xs.set p u):=by
 obtain⟨gb',y,hge,-,-,h1,h2,h3,h4⟩:=own_set h hp
 injection hge with hge
 injection hge with hge
 subst hge
 exact⟨⟨y,h1,h2⟩,h3,h4⟩
theorem own_rdIn {w:World} {base e size n c g:Nat} {xs:List Value} (h:w.ownsRow base e size (.slice (some ⟨g,0,none⟩) n c) n xs):RdIn (fun b=>b=g) w (some ⟨g,0,none⟩) xs∧n≤c∧c≤maxLen:=by
 rcases h.2 with⟨hv,_⟩ | ⟨g',cap,cur,hv,hb,hg,hnc,hcm,hcs,htk⟩
 ·cases hv
 ·injection hv with e1 _ e3
  injection e1 with e1
  injection e1 with e1
  subst e1 e3
  have B:Blk w g e cur.toList:=hg
  refine⟨.inr ⟨g,0,rfl,rfl,fun j u hu=>?_⟩,hnc,hcm⟩
  rw[Nat.zero_add]
  refine B.cell ?_
  rw[← htk,List.getElem?_take] at hu
  split at hu
  ·exact hu
  ·cases hu
theorem slice_cells {α:Type} {size:Nat} {R:Reader α} {w:World} {A:Option Addr} {n c:Nat} {l:List α} (h:rSlice size R (All w) w [.slice A n c] l):∃ xs,Rd w A xs∧xs.length=n * size∧Chunks size (R (All w) w) xs l:=by
 obtain⟨A1,c1,xs,hv,_,_,hr,hc⟩:=h
 have e:A=A1∧n=l.length:=by simp at hv;exact⟨hv.1,hv.2.1⟩
 obtain⟨rfl,rfl⟩:=e
 exact⟨xs,hr,hc.1,hc⟩
theorem chunks_all1 {α:Type} {R:List Value→α→Prop} {xs:List Value} {l:List α} (hR:∀ cs a,R cs a→∀ u∈cs,u.oneCell'=true) (h:Chunks 3 R xs l):∀ u∈xs,u.oneCell'=true:=by
 intro u hu
 obtain⟨j,hj⟩:=List.getElem?_of_mem hu
 have hlt:=(List.getElem?_eq_some_iff.1 hj).1
 have hl:=h.1
 obtain⟨a,ha⟩:∃ a,l[j / 3]?=some a:=⟨_,zV (by omega)⟩
 refine hR _ _ (h.2 (j / 3) a ha) u ?_
 refine List.mem_of_getElem? (i:=j % 3) ?_
 rw[List.getElem?_take_of_lt (by omega),List.getElem?_drop,show j / 3 * 3+j % 3=j by omega]
 exact hj
theorem ob_one {S:Nat→Prop} {w:World} (cs:List Value) (o:Ob) (h:rOb S w cs o):∀ u∈cs,u.oneCell'=true:=by
 obtain⟨A,c,rfl,_⟩:=rOb_open h
 intro u hu
 simp only[List.mem_cons,List.not_mem_nil,or_false] at hu
 rcases hu with rfl | rfl | rfl <;> rfl
theorem val_one {S:Nat→Prop} {w:World} (cs:List Value) (v:Vl) (h:rVal S w cs v):∀ u∈cs,u.oneCell'=true:=by
 obtain⟨s,rfl,_⟩:=rVal_open h
 intro u hu
 simp only[List.mem_cons,List.not_mem_nil,or_false] at hu
 rcases hu with rfl | rfl | rfl <;> rfl
theorem chunks_at3 {α:Type} {R:List Value→α→Prop} {xs:List Value} {l:List α} {i:Nat} {a:α} (h:Chunks 3 R xs l) (ha:l[i]?=some a):∃ x y z,xs[i * 3]?=some x∧xs[i * 3+1]?=some y∧xs[i * 3+2]?=some z∧R [x,y,z] a:=by
 have hR:=h.2 i a ha
 have hlt:=(List.getElem?_eq_some_iff.1 ha).1
 have hl:=h.1
 have e:∀ j,j<3→((xs.drop (i * 3)).take 3)[j]?=xs[i * 3+j]?:=fun j hj=>by rw[List.getElem?_take_of_lt hj,List.getElem?_drop]
 have h0:i * 3<xs.length:=by omega
 have h1:i * 3+1<xs.length:=by omega
 have h2:i * 3+2<xs.length:=by omega
 refine⟨xs[i * 3],xs[i * 3+1],xs[i * 3+2],zV h0,zV h1,zV h2,?_⟩
 have e3:(xs.drop (i * 3)).take 3=[xs[i * 3],xs[i * 3+1],xs[i * 3+2]]:=by
  rw[List.drop_eq_getElem_cons h0,List.drop_eq_getElem_cons h1,List.drop_eq_getElem_cons h2]
  rfl
 rw[← e3]
 exact hR
theorem own_vals {w:World} {base n c:Nat} {A:Option Addr} {xs:List Value} {l:List Vl} (h:w.ownsRow base 47 3 (.slice A n c) n xs) (hn:l.length=n) (hc:Chunks 3 (fun cs x=>∀ S W,rVal S W cs x) xs l):rVals (fun b=>(Value.slice A n c).ownBlock=some b) w [.slice A n c] l:=by
 have hc':=hc.imp (R':=rVal (fun b=>(Value.slice A n c).ownBlock=some b) w) fun cs x hq=>hq _ _
 subst hn
 rcases h.2 with⟨hv,h0⟩ | ⟨g,cap,cur,hv,_⟩
 ·injection hv with e1 e2 e3
  subst e1 e3
  have hl:l=[]:=List.eq_nil_of_length_eq_zero h0
  subst hl
  exact⟨none,0,xs,rfl,zW _,Nat.zero_le _,.inl (List.eq_nil_of_length_eq_zero (by simpa using h.1)),hc'⟩
 ·injection hv with e1 e2 e3
  subst e1 e3
  obtain⟨hr,h1,h2⟩:=own_rdIn h
  exact⟨_,_,xs,rfl,h1,h2,hr.keeps (fun b e=>by subst e;exact⟨rfl,rfl⟩),hc'⟩
theorem own_slice3 {w:World} {base e size n:Nat} {v:Value} {xs:List Value} (h:w.ownsRow base e size v n xs):∃ A c,v=.slice A n c:=by
 rcases h.2 with⟨rfl,rfl⟩ | ⟨g,cap,cur,rfl,_⟩
 ·exact⟨none,0,rfl⟩
 ·exact⟨_,cap,rfl⟩
structure RowIn (b j:Nat) (t e:TypeId) (size:Nat) (cs:List Value) (w0:World) (v:Value) (n:Nat) (xs:List Value) (w:World):Prop where
 bel:Below b w0 w
 kept:∀ k,k<w0.heap.size→k≠b→w.heap[k]?=w0.heap[k]?
 bx:Blk w b t (cs.set j v)
 own:w.ownsRow w0.heap.size e size v n xs
section
variable {b j n n' size : Nat} {t e : TypeId} {cs xs ys zs : List Value} {w0 w wq wa : World} {v v' : Value} {ob : Obj} {objs : List Ob} {o : Ob}
theorem RowIn.start (hx:Blk w b t cs) (hj:cs[j]?=some (.slice none 0 0)):RowIn b j t e size cs w (.slice none 0 0) 0 [] w:=by
 refine⟨zA _ _,fun _ _ _=>rfl,?_,World.ownsRow_nil _ _ _ _⟩
 have:cs.set j (.slice none 0 0)=cs:=List.ext_getElem? fun k=>by
  rw[List.getElem?_set]
  split
  ·rename_i e
   subst e
   split
   ·exact hj.symm
   ·rename_i h
    exact (List.getElem?_eq_none (by omega)).symm
  ·rfl
 rw[this]
 exact hx
theorem RowIn.more (h:RowIn b j t e size cs w0 v n xs w) (hb:b<w0.heap.size) (hq:Below w.heap.size w wq):RowIn b j t e size cs w0 v n xs wq:=by
 have:=h.bel.size
 exact⟨h.bel.trans (hq.mono (by omega)),fun k h1 h2=>by rw[hq.block k (by omega),h.kept k h1 h2],h.bx.to hq,own_below h.own hq⟩
theorem RowIn.step (h:RowIn b j t e size cs w0 v n xs w) (hb:b<w0.heap.size) (hq:Below w.heap.size w wq) (hg:(wq.alloc ob).grownBy wa v.ownBlock) (hown:wa.ownsRow w0.heap.size e size v' n' ys):
  Blk wa b t (cs.set j v)∧RowIn b j t e size cs w0 v' n' ys (wa.setCell ⟨b,j,none⟩ v'):=by
 have hlo:∀ k,v.ownBlock=some k→w0.heap.size≤k∧k<w.heap.size:=fun k hk=>h.own.lt k hk
 have s0:=h.bel.size
 have s1:=hq.size
 have s2:(wq.alloc ob).heap.size=wq.heap.size+1:=by simp
 have s3:=hg.size
 have keep:∀ k,k<w0.heap.size→wa.heap[k]?=w.heap[k]?:=fun k hk=>by
  rw[hg.block k (by omega) (fun e=>by have:=(hlo k e.symm).1;omega),Below.heap_alloc _ _ _ (by omega),hq.block k (by omega)]
 have bxa:Blk wa b t (cs.set j v):=by
  show wa.heap[b]?=_
  rw[keep b hb]
  exact h.bx
 have kset:∀ k,k≠b→(wa.setCell ⟨b,j,none⟩ v').heap[k]?=wa.heap[k]?:=fun k hk=>Below.heap_setCell _ _ _ _ hk
 have hset:=bxa.set j v'
 rw[List.set_set] at hset
 refine⟨bxa,?_,fun k h1 h2=>by rw[kset k h2,keep k h1,h.kept k h1 h2],hset,own_keep hown fun k h1 _=>kset k (by omega)⟩
 exact (((h.bel.trans (hq.mono (by omega))).alloc (by omega) ob).grown hg (by omega) (fun k hk=>by have:=(hlo k hk).1;omega)).setCell (p:=⟨b,j,none⟩) (zW _) _
theorem RowIn.obs (h:RowIn b j t e size cs w0 v n xs w) (hb:b<w0.heap.size) (hch:Chunks 3 (rOb (fun k=>w0.heap.size≤k∧k<w.heap.size∧some k≠v.ownBlock) w) xs objs) (hq:Below w.heap.size w wq)
  (ho:rOb (fun k=>w.heap.size≤k∧k<wq.heap.size) wq zs o) (hz:zs.length=3) (hg:(wq.alloc ob).grownBy wa v.ownBlock) (hv:v'.ownBlock=v.ownBlock∨v'.ownBlock=some (wq.alloc ob).heap.size):
  Chunks 3 (rOb (fun k=>w0.heap.size≤k∧k<(wa.setCell ⟨b,j,none⟩ v').heap.size∧some k≠v'.ownBlock) (wa.setCell ⟨b,j,none⟩ v')) (xs++zs) (objs++[o]):=by
 have hlo:∀ k,v.ownBlock=some k→w0.heap.size≤k∧k<w.heap.size:=fun k hk=>h.own.lt k hk
 have s0:=h.bel.size
 have s1:=hq.size
 have s2:(wq.alloc ob).heap.size=wq.heap.size+1:=by simp
 have s3:=hg.size
 have keep:∀ k,k<wq.heap.size→some k≠v.ownBlock→wa.heap[k]?=wq.heap[k]?:=fun k h1 h2=>by rw[hg.block k (by omega) h2,Below.heap_alloc _ _ _ h1]
 have nv:∀ k,k<wq.heap.size→some k≠v.ownBlock→some k≠v'.ownBlock:=fun k h1 h2=>by
  rcases hv with e | e
  ·rw[e];exact h2
  ·rw[e];intro e2;injection e2 with e2;omega
 have sz:(wa.setCell ⟨b,j,none⟩ v').heap.size=wa.heap.size:=by simp
 have kset:∀ k,k≠b→(wa.setCell ⟨b,j,none⟩ v').heap[k]?=wa.heap[k]?:=fun k hk=>Below.heap_setCell _ _ _ _ hk
 refine Chunks.append (hch.imp fun cs a hr=>rOb_stays.to (fun k hk=>?_) hr) (Chunks.one hz (rOb_stays.to (fun k hk=>?_) ho))
 ·obtain⟨c1,c2,c3⟩:=hk
  refine⟨⟨c1,by omega,nv k (by omega) c3⟩,?_⟩
  rw[kset k (by omega),keep k (by omega) c3,hq.block k c2]
 ·obtain⟨c1,c2⟩:=hk
  have c3:some k≠v.ownBlock:=fun e=>by have:=(hlo k e.symm).2;omega
  refine⟨⟨by omega,by omega,nv k c2 c3⟩,?_⟩
  rw[kset k (by omega),keep k c2 c3]
end
theorem built_graph {b r2 n m N c d e:Nat} {A B C:Option Addr} {x y y':Value} {xs:List Value} {w5 w6 w W:World} {s:Sch} {objs:List Ob} {rs:List Int} {S:Nat→Prop}
  (hO:RowIn b 1 28 53 3 [.slice A N c,x,y] w5 (.slice B n d) n xs w6) (hch:Chunks 3 (rOb (fun k=>w5.heap.size≤k∧k<w6.heap.size∧some k≠(Value.slice B n d).ownBlock) w6) xs objs)
  (hR:RowIn b 2 28 3 1 [.slice A N c,.slice B n d,y'] w6 (.slice C m e) m (ints rs) w) (hS:rSch S w5 [.slice A N c] s) (hSb:∀ k,S k→k<b∧k≠r2) (hr2:r2<b) (hb:b<w5.heap.size)
  (hW:∀ k,k≠r2→k<w.heap.size→W.heap[k]?=w.heap[k]?) (hsz:w.heap.size≤W.heap.size) (hn:objs.length=n) (hm:rs.length=m) (hwf:∀ r∈rs,(Lit.int .i64 r).wf=true):
  rGr (All W) W [.slice A N c,.slice B n d,.slice C m e] (s,objs,rs):=by
 have s5:=hO.bel.size
 have s6:=hR.bel.size
 refine rGr_mk (rSch_stays.to (fun k hk=>?_) hS) ?_ ?_
 ·obtain⟨h1,h2⟩:=hSb k hk
  refine⟨by show k<_;omega,?_⟩
  rw[hW k h2 (by omega),hR.bel.block k h1,hO.bel.block k h1]
 ·have hlt:=hO.own.lt
  refine own_rSlice rOb_stays (own_keep hO.own fun k h1 h2=>?_) hn (hch.imp fun cs o hq=>rOb_stays.to (fun k hk=>⟨⟨by omega,hk.2.2⟩,?_⟩) hq)
  ·rw[hW k (by omega) (by omega),hR.kept k h2 (by omega)]
  ·rw[hW k (by omega) (by omega),hR.kept k hk.2.1 (by omega)]
 ·exact rIds_stays.to (fun k hk=>⟨by show k<_;omega,hW k (by omega) (by omega)⟩) (ids_own hR.own hm hwf)
end Go.Proofs.YtnljjnkindjeoaaGreatDoor
namespace Go.Proofs.YtnljjnkindjeoaaGreatDoor
open Go.RowKit Go.Maps
def refsT (fs:List Fld) (vs:List Vl) (i:Nat):List Int:=((fs.zip vs).take i).filterMap fun p=>if p.1.2.1=5 then some p.2.2.2 else none
theorem refsT_yes {fs:List Fld} {vs:List Vl} {i:Nat} {f:Fld} {v:Vl} (h1:fs[i]?=some f) (h2:vs[i]?=some v) (h5:f.2.1=5):refsT fs vs (i+1)=refsT fs vs i++[v.2.2]:=by
 have:(fs.zip vs)[i]?=some (f,v):=by rw[List.getElem?_zip_eq_some];exact⟨h1,h2⟩
 rw[refsT,take_at this,List.filterMap_append,← refsT]
 simp[h5]
theorem refsT_no {fs:List Fld} {vs:List Vl} {i:Nat} {f:Fld} (h1:fs[i]?=some f) (hl:fs.length=vs.length) (h5:f.2.1≠5):refsT fs vs (i+1)=refsT fs vs i:=by
 have hi:=(List.getElem?_eq_some_iff.1 h1).1
 have h2:vs[i]?=some (vs[i]'(by omega)):=zV (by omega)
 have:(fs.zip vs)[i]?=some (f,vs[i]'(by omega)):=by rw[List.getElem?_zip_eq_some];exact⟨h1,h2⟩
 rw[refsT,take_at this,List.filterMap_append,← refsT]
 simp[h5]
theorem refsT_all {s:Sch} {o:Ob}:refsT (fldsG s o.2.1) o.2.2 (fldsG s o.2.1).length=refsL s o:=by
 rw[refsT,List.take_of_length_le (by rw[List.length_zip];omega),refsL]
theorem refsT_len (fs:List Fld) (vs:List Vl) (i:Nat):(refsT fs vs i).length≤i:=by
 have:=List.length_filterMap_le (fun p:Fld × Vl=>if p.1.2.1=5 then some p.2.2.2 else none) ((fs.zip vs).take i)
 rw[refsT]
 rw[List.length_take] at this
 omega
theorem fields_few {g:Gr} (hm:mayG g=true) (t:Int):(fldsG g.1 t).length≤5:=by
 rw[fldsG,List.getD_eq_getElem?_getD]
 cases h:g.1[t.toNat]? with
 | none=>simp
 | some x=>exact ((mayT_iff _ _ _).1 (((mayS_iff _).1 (mayG_parts hm).1).2 _ x h)).2.2.1
theorem obj_place {g:Gr} (hmay:mayG g=true) {o:Ob} (ho:o∈g.2.1):∃ I:Nat,findG g.2.1 o.1=(I:Int)∧g.2.1[I]?=some o:=by
 obtain⟨i,p,e1,e2,e3,-⟩:=findG_at (findG_mem.2 ⟨o,ho,rfl⟩)
 have:=mayG_apart hmay (List.mem_of_getElem? e2) ho e3
 subst this
 exact⟨i,e1,e2⟩
theorem leads_any (A B C:Option Addr) (N c M d K e:Nat) (g:Gr) (o:Ob) (w:World) (hmay:mayG g=true) (ho:o∈g.2.1) (h:rGr (All w) w [.slice A N c,.slice B M d,.slice C K e] g):
  Calls Tryz.prog 98 #[.agg #[.slice A N c,.slice B M d,.slice C K e],.int .i64 o.1] w fun e w'=>∃ A1 c1,e=.returned (.slice A1 (refsL g.1 o).length c1)∧rIds (fun b=>w.heap.size≤b∧b<w'.heap.size) w' [.slice A1 (refsL g.1 o).length c1] (refsL g.1 o)∧Below w.heap.size w w':=by
 obtain⟨i0,hi,hz0,hz1,hz2⟩:=info_parts info_int
 have Hmo:=zZ (mayG_obj hmay ho)
 obtain⟨I,hI,hgi⟩:=obj_place hmay ho
 obtain⟨hM,hMd,hdm⟩:=slice_len (rGr_open h).2.1
 have hIM:I<M:=by have:=(List.getElem?_eq_some_iff.1 hgi).1;omega
 have hB0:Below w.heap.size w (w.alloc (.cells #[.slice A N c,.slice B M d,.slice C K e] 28)):=(zA _ w).alloc (zW _) _
 have p0:=Blk.new w 28 [.slice A N c,.slice B M d,.slice C K e]
 have h1:=gr_below hB0 h
 have HB0:=zZ hB0
 have hs1:w.heap.size<(w.alloc (.cells #[.slice A N c,.slice B M d,.slice C K e] 28)).heap.size:=by simp
 clear h hB0
 go_enter Tryz.func98,Tryz.ntmps98
 go_wp2
 generalize w.alloc (.cells #[.slice A N c,.slice B M d,.slice C K e] 28)=w1 at *
 obtain⟨b,off,A2,c2,rfl,hb,x0,x1,x2,hvs,-,-⟩:=ob_at (rGr_open h1).2.1 hgi
 have g0:=p0.cell (j:=0) rfl
 have g1:=p0.cell (j:=1) rfl
 have g2:=p0.cell (j:=2) rfl
 have hil:(I:Int)<(M:Int):=by omega
 have hi0:(0:Int)≤(I:Int):=by omega
 have T1:=zZ (fun W (hW:Below w1.heap.size w1 W)=>gfind_any A (some ⟨b,off,none⟩) C N c M d K e g o.1 W (gr_below hW h1))
 rw[hI] at T1
 have H1:=zZ h1
 have Hvs:=zZ hvs
 have P0:=zZ p0
 clear h1 hvs p0
 go_cut [6] (fun v7 wx=>∃ b7:Nat,v7=.pointer (some ⟨b7,0,none⟩)∧Blk wx b7 53 [.int .i64 o.1,.int .i64 o.2.1,.slice A2 o.2.2.length c2]∧w1.heap.size≤b7∧Below w1.heap.size w1 wx)
 case first=>
  have HS:=zZ (fun (W:World) (hW:Below w1.heap.size w1 W)=>And.intro ((hW.cell (p:=⟨w.heap.size,0,none⟩) hs1).trans g0) (And.intro ((hW.cell (p:=⟨w.heap.size,1,none⟩) hs1).trans g1) (And.intro ((hW.cell (p:=⟨w.heap.size,2,none⟩) hs1).trans g2)
   (And.intro ((hW.cell (p:=⟨b,off+I * 3,none⟩) hb).trans x0) (And.intro ((hW.cell (p:=⟨b,off+I * 3+1,none⟩) hb).trans x1) ((hW.cell (p:=⟨b,off+I * 3+2,none⟩) hb).trans x2))))))
  clear g0 g1 g2 x0 x1 x2
  refine fr_start (fun W=>W.cell? ⟨w.heap.size,0,none⟩=some (.slice A N c)∧W.cell? ⟨w.heap.size,1,none⟩=some (.slice (some ⟨b,off,none⟩) M d)∧W.cell? ⟨w.heap.size,2,none⟩=some (.slice C K e)∧W.cell? ⟨b,off+I * 3,none⟩=some (.int .i64 o.1)∧W.cell? ⟨b,off+I * 3+1,none⟩=some (.int .i64 o.2.1)∧W.cell? ⟨b,off+I * 3+2,none⟩=some (.slice A2 o.2.2.length c2)) 9 (by kernel_rfl) rfl (fun _ _ _ _ _ h=>h) (HS.out _ (zA _ w1).drew) (fun hH=>?_)
  have hD:=(zA w1.heap.size w1).drew
  have hDs:w1.heap.size≤w1.drew.heap.size:=hD.size
  generalize w1.drew=wd at *
  (refine fr_yes 0 (v:=?_) rfl (by kernel_rfl) rfl ?_ hH ?_;rotate_left;(focus ((rintro W ⟨hW1,hW2,hW3,hW4,hW5,hW6⟩;go_simp) <;> with_reducible rfl));simp only[Act.put,zY,zX,zQ]);(refine fr_yes 1 (v:=?_) rfl (by kernel_rfl) rfl ?_ hH ?_;rotate_left;(focus ((rintro W ⟨hW1,hW2,hW3,hW4,hW5,hW6⟩;go_simp) <;> with_reducible rfl));simp only[Act.put,zY,zX,zQ]);(refine fr_yes 2 (v:=?_) rfl (by kernel_rfl) rfl ?_ hH ?_;rotate_left;(focus ((rintro W ⟨hW1,hW2,hW3,hW4,hW5,hW6⟩;go_simp) <;> with_reducible rfl));simp only[Act.put,zY,zX,zQ]);(refine fr_yes 3 (v:=?_) rfl (by kernel_rfl) rfl ?_ hH ?_;rotate_left;(focus ((rintro W ⟨hW1,hW2,hW3,hW4,hW5,hW6⟩;go_simp) <;> with_reducible rfl));simp only[Act.put,zY,zX,zQ])
  refine fr_op [4,7] (by kernel_rfl) (by simp) ?_;intro jj hjj;simp only[List.mem_cons,List.not_mem_nil,or_false] at hjj;rcases hjj with rfl | rfl
  ·refine⟨_,rfl,rfl,fun K hK=>?_⟩
   go_wp2_with (go_at_call 46;refine (T1.out _ hD).mono ?_;rintro e wg ⟨rfl,hCg⟩)
   have hDg:=hD.trans (hCg.mono hD.size)
   refine hK.out _ _ (HS.out _ hDg) ?_
   clear hK hH hCg
   have hH:=HS.out _ hDg
   (refine fr_yes 5 (v:=?_) rfl (by kernel_rfl) rfl ?_ hH ?_;rotate_left;(focus ((rintro W ⟨hW1,hW2,hW3,hW4,hW5,hW6⟩;go_simp) <;> with_reducible rfl));simp only[Act.put,zY,zX,zQ]);(refine fr_yes 6 (v:=?_) rfl (by kernel_rfl) rfl ?_ hH ?_;rotate_left;(focus ((rintro W ⟨hW1,hW2,hW3,hW4,hW5,hW6⟩;go_simp) <;> with_reducible rfl));simp only[Act.put,zY,zX,zQ])
   refine fr_op [7] (by kernel_rfl) (by simp) ?_;intro jj hjj;simp only[List.mem_cons,List.not_mem_nil,or_false] at hjj;subst hjj;refine⟨_,rfl,rfl,fun K hK=>?_⟩
   go_wp2
   have hDz:=hDg.alloc hDg.size (.cells #[.int .i64 0,.int .i64 0,.slice none 0 0] 53)
   refine hK.out _ _ (HS.out _ hDz) ?_
   clear hK hH
   refine fr_op [8] (by kernel_rfl) (by simp) ?_;intro jj hjj;simp only[List.mem_cons,List.not_mem_nil,or_false] at hjj;subst hjj;refine⟨_,rfl,rfl,fun K hK=>?_⟩
   go_wp2
   have hDe:=hDg.alloc hDg.size (.cells #[.int .i64 o.1,.int .i64 o.2.1,.slice A2 o.2.2.length c2] 53)
   refine hK.out _ _ (HS.out _ hDe) ?_
   clear hK
   refine fr_done (by kernel_rfl) ?_
   go_wp2
   go_meet
   case rel=>exact⟨_,rfl,Blk.new _ _ [.int .i64 o.1,.int .i64 o.2.1,.slice A2 o.2.2.length c2],hDg.size,hDe⟩
  ·refine⟨_,rfl,rfl,fun K hK=>?_⟩
   go_wp2
   have hDz:=hD.alloc hD.size (.cells #[.int .i64 0,.int .i64 0,.slice none 0 0] 53)
   have vz:=Blk.new wd 53 [.int .i64 0,.int .i64 0,.slice none 0 0]
   refine hK.out _ _ (HS.out _ hDz) ?_
   clear hK hH
   have hH:=HS.out _ hDz
   generalize wd.alloc (.cells #[.int .i64 0,.int .i64 0,.slice none 0 0] 53)=wz at *
   refine fr_op [4] (by kernel_rfl) (by simp) ?_;intro jj hjj;simp only[List.mem_cons,List.not_mem_nil,or_false] at hjj;subst hjj;refine⟨_,rfl,rfl,fun K hK=>?_⟩
   go_wp2_with (go_at_call 46;refine (T1.out _ hDz).mono ?_;rintro e wg ⟨rfl,hCg⟩)
   have hDg:=hDz.trans (hCg.mono hDz.size)
   have vg:=vz.to hCg
   refine hK.out _ _ (HS.out _ hDg) ?_
   clear hK hH hCg hDz vz
   have hH:=HS.out _ hDg
   (refine fr_yes 5 (v:=?_) rfl (by kernel_rfl) rfl ?_ hH ?_;rotate_left;(focus ((rintro W ⟨hW1,hW2,hW3,hW4,hW5,hW6⟩;go_simp) <;> with_reducible rfl));simp only[Act.put,zY,zX,zQ]);(refine fr_yes 6 (v:=?_) rfl (by kernel_rfl) rfl ?_ hH ?_;rotate_left;(focus ((rintro W ⟨hW1,hW2,hW3,hW4,hW5,hW6⟩;go_simp) <;> with_reducible rfl));simp only[Act.put,zY,zX,zQ])
   have z0:=vg.cell (j:=0) rfl
   have z1:=vg.cell (j:=1) rfl
   have z2:=vg.cell (j:=2) rfl
   have f0:=vg.frozen 0
   have f1:=vg.frozen 1
   have f2:=vg.frozen 2
   refine fr_op [8] (by kernel_rfl) (by simp) ?_;intro jj hjj;simp only[List.mem_cons,List.not_mem_nil,or_false] at hjj;subst hjj;refine⟨_,rfl,rfl,fun K hK=>?_⟩
   go_wp2
   have hDe:=((hDg.setCell (p:=⟨wd.heap.size,0,none⟩) hDs (.int .i64 o.1)).setCell (p:=⟨wd.heap.size,1,none⟩) hDs (.int .i64 o.2.1)).setCell (p:=⟨wd.heap.size,2,none⟩) hDs (.slice A2 o.2.2.length c2)
   refine hK.out _ _ (HS.out _ hDe) ?_
   clear hK hH
   refine fr_done (by kernel_rfl) ?_
   go_wp2
   go_meet
   case rel=>exact⟨_,rfl,((vg.set 0 (.int .i64 o.1)).set 1 (.int .i64 o.2.1)).set 2 (.slice A2 o.2.2.length c2),hDs,hDe⟩
 case rest=>
  obtain⟨b7,rfl,p7,hb7,hBx⟩:=hcut
  clear T1 x0 x1 x2 g0 g1 g2 hI hil hi0
  have HBx:=zZ (HB0.out.trans (hBx.mono HB0.out.size))
  have hHx:=gr_below hBx H1.out
  have hvx:=vals_below hBx Hvs.out
  have p0x:=P0.out.below hs1 hBx
  clear hBx H1 Hvs P0 hb7 HB0
  obtain⟨t,ht⟩:∃ t:Nat,o.2.1=(t:Int):=⟨o.2.1.toNat,by have:=Hmo.out.t0;omega⟩
  obtain⟨hN,hNc,hcm⟩:=slice_len (rGr_open hHx).1
  have htN:t<N:=by have:=Hmo.out.t1;omega
  have hgt:g.1[t]?=some g.1[t]:=zV (by omega)
  obtain⟨bt,offt,st,AF,cF,rfl,hbt,-,y1,-,-,hfs⟩:=typ_at (rGr_open hHx).1 hgt
  have hFe:=fldsG_at ht hgt
  rw[← hFe] at y1 hfs
  obtain⟨hF,hFc,hFm⟩:=slice_len hfs
  have hlen:=Hmo.out.len
  rw[ht] at p7
  have k1:=p0x.cell (j:=0) rfl
  have k2:=p7.cell (j:=1) rfl
  have htl:(t:Int)<(N:Int):=by omega
  have ht0:(0:Int)≤(t:Int):=by omega
  simp only[maxLen] at hFm
  have h10:=fields_few hmay o.2.1
  clear hFe hgt Hmo
  have Hfs:=zZ hfs
  have Hvx:=zZ hvx
  have P7:=zZ p7
  have Hlen:=zZ hlen
  have Hall:Hid (refsT (fldsG g.1 o.2.1) o.2.2 (fldsG g.1 o.2.1).length=refsL g.1 o):=zZ refsT_all
  clear hfs hvx p7 hlen hF hHx p0x
  generalize hfs0:fldsG g.1 o.2.1=fs at *
  generalize hfl:fs.length=fl at *
  generalize hvl:o.2.2.length=vl at *
  have hlv:=Hlen.out
  go_wp2
  clear k1 k2 y1
  go_loopw [5,25] (fun v iv w'=>∃ i:Nat,i≤fl∧iv=.int .i64 (i:Int)∧Hid (w'.ownsRow wc.heap.size 3 1 v (refsT fs o.2.2 i).length (ints (refsT fs o.2.2 i)))∧Hid (∀ n∈refsT fs o.2.2 i,(Lit.int .i64 n).wf=true)∧Hid (Below wc.heap.size wc w')) (fun _ iv _=>fl - (intOf iv).toNat)
  case atStart=>exact⟨0,by omega,rfl,zZ (World.ownsRow_nil _ _ _ _),zZ (by simp[refsT]),zZ (zA _ _)⟩
  case round=>
   rename_i v iv wr
   obtain⟨i,hi',rfl,hown,hwf,hg⟩:=hrel
   have hgs:=hg.out.size
   by_cases hin:i<fl
   ·obtain⟨f,hfi⟩:∃ f,fs[i]?=some f:=⟨_,zV (by omega)⟩
    obtain⟨bf,offf,sx,tx,rfl,hbf,q0,q1,q2,-,-,-,-,-⟩:=fld_at (rFlds_stays.to (Keeps.below hg.out) Hfs.out) hfi
    have hil:(i:Int)<(fl:Int):=by omega
    have hi0:(0:Int)≤(i:Int):=by omega
    have HA:=zZ (hg.out.alloc hgs (.cells #[.string sx,.int .i64 f.2.1,.string tx] 97))
    by_cases h5:f.2.1=5
    ·have h5':(f.2.1 == 5)=true:=by simp[h5]
     obtain⟨v2,hvi⟩:∃ v,o.2.2[i]?=some v:=⟨_,zV (by omega)⟩
     obtain⟨bv,offv,sv,rfl,hbv,-,-,r2,-,-,-,hvb⟩:=val_at (vals_below HA.out Hvx.out) hvi
     have c7:=(P7.out.below P7.out.lt HA.out).cell (j:=2) rfl
     have Hst:=zZ (refsT_yes hfi hvi h5)
     have hilv:(i:Int)<(vl:Int):=by omega
     have Hrd:=zZ (lit_ints (wr.alloc (.cells #[.string sx,.int .i64 f.2.1,.string tx] 97)) [v2.2.2])
     have hT:=refsT_len fs o.2.2 i
     have Hvb:=zZ (WalkArith.wf_i64 hvb)
     clear hfi hvi h5 hvb
     generalize hrt:refsT fs o.2.2 i=rs at *
     generalize hkk:f.2.1=kk at *
     generalize hrr:v2.2.2=rr at *
     clear hkk
     go_wp2_with (first
      | (at_builtin;refine wpList_app rfl (.tmp 33) (.tmp 40) 26 rfl wc.heap.size 3 i0 (.int .i64 0) 8 Tryz.underlying26 hi hz0 hz1 hz2 rfl _ rs.length (ints rs) rfl ((hown.out.alloc _).alloc _) (some ⟨wr.heap.size+1,0,none⟩) 1 1 (ints [rr]) rfl rfl (by have:=Hrd.out;rwa [World.size_alloc] at this) (ints_one _) (by simp only[maxLen];omega) (by omega) (by simp;omega) ?_;intro v4 w4 hown4 hg4 _)
      | fail)
     go_roundw
     case rel=>
      refine⟨i+1,by omega,by go_num,zZ (by rw[Hst.out,List.length_append,ints_append];exact hown4),zZ ?_,zZ ?_⟩
      ·intro n hn
       rw[Hst.out] at hn
       rcases List.mem_append.1 hn with e | e
       ·exact hwf.out n e
       ·simp at e;subst e;exact Hvb.out
      ·exact (HA.out.alloc (by simp;omega) _).grown hg4 (by simp;omega) (fun k hk=>(hown.out.lt k hk).1)
     case measure=>simp[intOf];omega
    ·have h5':(f.2.1 == 5)=false:=by simp[h5]
     have Hp:=zZ (refsT_no (vs:=o.2.2) hfi (by omega) h5)
     clear hfi h5
     generalize f.2.1=kk at *
     go_wp2
     go_roundw
     case rel=>exact⟨i+1,by omega,by go_num,zZ (by rw[Hp.out];exact hown.out.alloc _),zZ (by rw[Hp.out];exact hwf.out),HA⟩
     case measure=>simp[intOf];omega
   ·obtain rfl:i=fl:=by omega
    rw[Hall.out] at hown hwf
    obtain⟨A9,c9,rfl,_⟩:=own_slice hown.out
    go_wp2
    go_ret
    exact⟨A9,c9,rfl,rIds_stays.to (Keeps.mono fun b hb=>⟨Nat.le_trans HBx.out.size hb.1,hb.2⟩) (ids_own hown.out rfl hwf.out),HBx.out.trans (hg.out.mono HBx.out.size)⟩
end Go.Proofs.YtnljjnkindjeoaaGreatDoor
namespace Go.Proofs.YtnljjnkindjeoaaGreatDoor
open Go.RowKit
theorem igrow_zero (w:World):
  Calls Tryz.prog 135 #[.slice none 0 0,.int .i64 0] w fun e w'=>∃ v,e=.returned v∧w'.ownsRow w.heap.size 3 1 v 0 []∧Below w.heap.size w w':=by
 go_enter Tryz.func135,Tryz.ntmps135
 go_wp2
 go_ret
 exact⟨_,rfl,World.ownsRow_nil _ _ _ _,zA _ w⟩
theorem igrow_more (n:Nat) (w:World) (h0:0<n) (hlen:n≤8796093022208):
  Calls Tryz.prog 135 #[.slice none 0 0,.int .i64 (n:Int)] w fun e w'=>∃ v,e=.returned v∧w'.ownsRow w.heap.size 3 1 v 0 []∧Below w.heap.size w w':=by
 obtain⟨i0,hi,hz0,hz1,hz2⟩:=info_parts info_int
 have happ:=Lib.run_append_nil_zeros (P:=Tryz.prog) w 26 3 26 3 i0 (.int .i64 0) .i64 .i64 Tryz.underlying26 Tryz.underlying3 hi hz0 n h0 (by omega) (by omega) (by rw[hz2];omega)
 have hown:∀ cells,cells.size=grownCap w n 0 3→(w.drew.alloc (.cells cells 3)).ownsRow w.heap.size 3 1 (.slice (some ⟨w.heap.size,0,none⟩) 0 (grownCap w n 0 3)) 0 []:=fun cells hc=>
  World.ownsRow_made w.drew cells (grownCap w n 0 3) (zW _) (grownCap_le_maxLen w n 0 3 (by simp only[maxLen];omega)) (by omega)
 have hown':=hown (Builtin.zeroCells (Value.int .i64 0).cells n++Builtin.zeroCells (Value.int .i64 0).cells (grownCap w n 0 3 - n)) (by have:=grownCap_ge w n 0 3;simp[size_zeroCells,Value.cells];omega)
 generalize hcap:grownCap w n 0 3=cap at *
 have hcapge:n≤cap:=by rw[← hcap];exact grownCap_ge w _ 0 3
 generalize hZ:(Builtin.zeroCells (Value.int .i64 0).cells n++Builtin.zeroCells (Value.int .i64 0).cells (cap - n))=Z at *
 clear hcap hZ hown
 have hn0:decide ((n:Int)<0)=false:=by rw[decide_eq_false_iff_not];omega
 have hn1:decide ((0:Int)<(n:Int))=true:=by rw[decide_eq_true_eq];omega
 have Hown:=zZ hown'
 have Happ:=zZ happ
 clear hown' happ
 go_enter Tryz.func135,Tryz.ntmps135
 go_wp2_with (at_builtin;refine Lib.wpList_append_run _ rfl _ _ _ _ rfl _ _ rfl rfl _ _ Happ.out ?_)
 go_ret
 exact⟨_,rfl,Hown.out,(zA _ w).drew.alloc (zW _) _⟩
theorem igrow_nil (n:Nat) (w:World) (hlen:n≤8796093022208):
  Calls Tryz.prog 135 #[.slice none 0 0,.int .i64 (n:Int)] w fun e w'=>∃ v,e=.returned v∧w'.ownsRow w.heap.size 3 1 v 0 []∧Below w.heap.size w w':=by
 by_cases h0:0<n
 ·exact igrow_more n w h0 hlen
 ·obtain rfl:n=0:=by omega
  exact igrow_zero w
theorem iconcat_own (g:Nat) (A B:Option Addr) (n c m d:Nat) (xs ys:List Int) (w:World) (hn:xs.length=n) (hm:ys.length=m) (hlen:n+m≤8796093022208)
  (hx:Rd w A (ints xs)) (hy:Rd w B (ints ys)) (hg:g<w.heap.size) (hgx:w.cell? ⟨g,0,none⟩=some (.slice A n c)) (hgy:w.cell? ⟨g,1,none⟩=some (.slice B m d)):
  Calls Tryz.prog 97 #[.slice (some ⟨g,0,none⟩) 2 2] w fun e w'=>∃ v,e=.returned v∧w'.ownsRow w.heap.size 3 1 v (xs++ys).length (ints (xs++ys))∧Below w.heap.size w w':=by
 obtain⟨i0,hi,hz0,hz1,hz2⟩:=info_parts info_int
 go_enter Tryz.func97,Tryz.ntmps97
 go_wp2
 go_loop [3,11] (fun s i=>∃ k sz:Nat,k≤2∧i=.int .i64 k∧s=.int .i64 sz∧sz=(if k=0 then 0 else if k=1 then n else n+m)) (fun _ i=>2 - (intOf i).toNat)
 case atStart=>exact⟨0,0,by omega,rfl,rfl,rfl⟩
 case round=>
  obtain⟨k,sz,hk,rfl,rfl,hsz⟩:=hrel
  have hk3:k=0∨k=1∨k=2:=by omega
  rcases hk3 with rfl | rfl | rfl
  ·simp only[if_pos] at hsz
   subst hsz
   go_wp2
   refine⟨⟨1,n,by omega,by go_num,by go_num,rfl⟩,?_⟩
   simp[intOf]
  ·simp only[Nat.one_ne_zero,if_false,if_true] at hsz
   subst hsz
   go_wp2
   refine⟨⟨2,sz+m,by omega,by go_num,by go_num,rfl⟩,?_⟩
   simp[intOf]
  ·obtain rfl:sz=n+m:=hsz
   have Hgr:=zZ (igrow_nil (n+m) w hlen)
   go_wp2_with fail
   refine Hgr.out.mono ?_
   rintro e w1 ⟨v,rfl,hown,hB⟩
   clear Hgr
   go_wp2
   go_loopw [6,27] (fun v i wr=>∃ (k:Nat) (pre:List Int),k≤2∧i=.int .i64 k∧pre=(if k=0 then [] else if k=1 then xs else xs++ys)∧wr.ownsRow w.heap.size 3 1 v pre.length (ints pre)∧Below w.heap.size w wr) (fun _ i _=>2 - (intOf i).toNat)
   case atStart=>exact⟨0,[],by omega,rfl,rfl,hown,hB⟩
   case round=>
    obtain⟨k,pre,hk,rfl,hpre,hownr,hBr⟩:=hrel
    have hsz:=hBr.size
    have hk3:k=0∨k=1∨k=2:=by omega
    rcases hk3 with rfl | rfl | rfl
    ·obtain rfl:pre=[]:=hpre
     have hxr:=hx.below hBr
     have hgx':=(hBr.cell (p:=⟨g,0,none⟩) hg).trans hgx
     go_wp2_with (at_builtin;refine wpList_app rfl (.tmp 31) (.tmp 32) 26 rfl w.heap.size 3 i0 (.int .i64 0) 8 Tryz.underlying26 hi hz0 hz1 hz2 rfl _ 0 [] rfl hownr A n c (ints xs) rfl (by rw[ints_length,hn]) hxr (ints_one _) (by simp only[maxLen];omega) (by omega) hsz ?_;intro v4 w4 hown4 hg4 _)
     refine⟨⟨1,xs,by omega,by go_num,rfl,?_,hBr.grown hg4 hsz (fun k hk=>(hownr.lt k hk).1)⟩,?_⟩
     ·rw[hn];simpa using hown4
     ·simp[intOf]
    ·obtain rfl:pre=xs:=hpre
     have hyr:=hy.below hBr
     have hgy':=(hBr.cell (p:=⟨g,1,none⟩) hg).trans hgy
     rw[hn] at hownr
     go_wp2_with (at_builtin;refine wpList_app rfl (.tmp 31) (.tmp 32) 26 rfl w.heap.size 3 i0 (.int .i64 0) 8 Tryz.underlying26 hi hz0 hz1 hz2 rfl _ n (ints pre) rfl hownr B m d (ints ys) rfl (by rw[ints_length,hm]) hyr (ints_one _) (by simp only[maxLen];omega) (by omega) hsz ?_;intro v4 w4 hown4 hg4 _)
     refine⟨⟨2,pre++ys,by omega,by go_num,rfl,?_,hBr.grown hg4 hsz (fun k hk=>(hownr.lt k hk).1)⟩,?_⟩
     ·rw[List.length_append,hn,hm,ints_append];exact hown4
     ·simp[intOf]
    ·obtain rfl:pre=xs++ys:=hpre
     go_wp2
     go_ret
     exact⟨_,rfl,hownr,hBr⟩
theorem iconcat_any (g:Nat) (A B:Option Addr) (n c m d:Nat) (xs ys:List Int) (w:World) (hlen:n+m≤8796093022208)
  (hx:rIds (All w) w [.slice A n c] xs) (hy:rIds (All w) w [.slice B m d] ys) (hg:g<w.heap.size) (hgx:w.cell? ⟨g,0,none⟩=some (.slice A n c)) (hgy:w.cell? ⟨g,1,none⟩=some (.slice B m d)):
  Calls Tryz.prog 97 #[.slice (some ⟨g,0,none⟩) 2 2] w fun e w'=>∃ A1 c1,e=.returned (.slice A1 (n+m) c1)∧rIds (fun b=>w.heap.size≤b∧b<w'.heap.size) w' [.slice A1 (n+m) c1] (xs++ys)∧Below w.heap.size w w':=by
 obtain⟨r1,f1⟩:=ids_rd hx
 obtain⟨r2,f2⟩:=ids_rd hy
 obtain⟨l1,-,-⟩:=slice_len hx
 obtain⟨l2,-,-⟩:=slice_len hy
 refine (iconcat_own g A B n c m d xs ys w l1 l2 hlen r1 r2 hg hgx hgy).mono ?_
 rintro e w' ⟨v,rfl,ho,hB⟩
 obtain⟨A1,c1,rfl,-⟩:=own_slice ho
 have hl:(xs++ys).length=n+m:=by rw[List.length_append];omega
 rw[hl] at ho ⊢
 refine⟨A1,c1,rfl,ids_own ho hl fun z hz=>?_,hB⟩
 rcases List.mem_append.1 hz with e | e
 ·exact f1 z e
 ·exact f2 z e
end Go.Proofs.YtnljjnkindjeoaaGreatDoor
namespace Go.Proofs.YtnljjnkindjeoaaGreatDoor
open Go.RowKit Go.Maps
theorem int_zero (w:World):(zeroValue 3).run Tryz.prog w=.ok (.int .i64 0) w:=by kernel_rfl
def PlM (w:World) (b:Nat) (L:List Int):Prop:=(-1:Int) ∉ L∧∃ D:DataW Unit,w.ownsMap Tryz.prog 3 (plainElem Tryz.prog 3) b (L.length+1) D ∧
 ∀ x,(Lit.int .i64 x).wf=true→Maps.has D (.int .i64 x)=decide (x = -1∨x∈L)∧((x = -1∨x∈L)→D.atKey (.int .i64 x) (.lit (.int .i64 0))=.lit (.int .i64 (atL L x)))
theorem PlM.kept {w w':World} {b:Nat} {L:List Int} {row:Option Nat} (h:PlM w b L) (hg:w.grownBy w' row) (hn:some b≠row):PlM w' b L:=by
 obtain⟨h0,D,h1,h2⟩:=h
 exact⟨h0,D,h1.kept hg hn,h2⟩
theorem PlM.below {w w':World} {b:Nat} {L:List Int} (h:PlM w b L) (hB:Below w.heap.size w w'):PlM w' b L:=h.kept (below_grown hB none) (by simp)
theorem PlM.start {w:World} {b:Nat} (h:w.ownsMap Tryz.prog 3 (plainElem (H:=Unit) Tryz.prog 3) b 1 ((DataW.map []).put (.int .i64 (-1)) (.lit (.int .i64 (-1))))):PlM w b []:=by
 refine⟨by simp,_,h,fun x _=>?_⟩
 by_cases e:x = -1
 ·subst e
  exact⟨by rw[has_put_same isMap_empty (by trivial)];simp,fun _=>by rw[atKey_put_same isMap_empty (by trivial)];rfl⟩
 ·refine⟨by rw[has_put_other (by simpa using e)];simp[e,Maps.has],fun h=>?_⟩
  simp[e] at h
theorem PlM.add {D:DataW Unit} {w:World} {b:Nat} {L:List Int} {x:Int} (h:w.ownsMap Tryz.prog 3 (plainElem Tryz.prog 3) b (L.length+1+1) (D.put (.int .i64 x) (.lit (.int .i64 (L.length:Int))))) (hm:IsMap D) (h0:(-1:Int) ∉ L) (hx:¬ (x = -1∨x∈L))
  (hh:∀ y,(Lit.int .i64 y).wf=true→Maps.has D (.int .i64 y)=decide (y = -1∨y∈L)∧((y = -1∨y∈L)→D.atKey (.int .i64 y) (.lit (.int .i64 0))=.lit (.int .i64 (atL L y)))):PlM w b (L++[x]):=by
 refine⟨by simp[h0];intro e;exact hx (.inl e.symm),_,by rw[List.length_append];exact h,fun y hy=>?_⟩
 by_cases e:y=x
 ·subst e
  refine⟨by rw[has_put_same hm (by trivial)];simp,fun _=>?_⟩
  rw[atKey_put_same hm (by trivial),atL_last fun e=>hx (.inr e)]
 ·obtain⟨h1,h2⟩:=hh y hy
  refine⟨by rw[has_put_other (by simpa using e),h1];simp[e],fun h=>?_⟩
  rw[atKey_put_other (by simpa using e),atL_more (.inr e)]
  refine h2 ?_
  simpa [e] using h
theorem PlM.look {w:World} {b:Nat} {L:List Int} (h:PlM w b L) {x:Int} (hx:x = -1∨x∈L) (hw:(Lit.int .i64 x).wf=true):(Instr.lookup 58 (.map (some b)) (.int .i64 x) false).run Tryz.prog w=.ok (.int .i64 (atL L x)) w:=by
 obtain⟨-,D,h1,h2⟩:=h
 obtain⟨c,e1,e2,-⟩:=h1.lookup_int (t:=58) (e:=3) (q:=.i64) come_law Tryz.underlying58 Tryz.underlying3 (int_zero w) (keyOf_int_mk Tryz.underlying3 hw)
 rw[(h2 x hw).2 hx] at e2
 have e3:atL L x=c:=(Lit.int.inj (DataW.lit.inj e2)).2
 rw[e1,e3]
theorem atL_wf {L:List Int} (h:L.length≤8) (x:Int):-1≤atL L x∧atL L x≤8:=by
 by_cases hx:x∈L
 ·obtain⟨i,e1,e2⟩:=atL_mem hx
  have:=(List.getElem?_eq_some_iff.1 e2).1
  rw[e1]
  omega
 ·rw[atL_none.2 hx]
  omega
theorem run_tail {P:Program} {t e:TypeId} {i:TypeInfo} (ht:P.underlying t=some (.slice e)) (hi:P.info? e=some i) (hs:i.size=1) (A:Option Addr) (n c l:Nat) (hlh:l+1≤n) (W:World):
  (Instr.slice t (.slice A n c) (some (.int .i64 ((l:Int)+1))) none none).run P W=.ok (.slice (slA A c (l+1)) (n - (l+1)) (c - (l+1))) W:=by
 have h2:(0:Int)≤(l:Int)+1∧(l:Int)+1≤(n:Int):=by omega
 have h3:((l:Int)+1).toNat=l+1:=by omega
 simp[Instr.slice,Instr.sliceBounds,Instr.sliceBound,asIntOf,run_underlying ht,sizeOf,typeInfo,hi,hs,h2,h3,slA]
theorem RdIn.cut {S:Nat→Prop} {w:World} {A:Option Addr} {xs:List Value} {c:Nat} (h:RdIn S w A xs) (hc:xs.length≤c) (l:Nat):RdIn S w (slA A c l) (xs.drop l):=by
 unfold slA
 by_cases e:c=l
 ·exact .inl (List.drop_eq_nil_of_le (by omega))
 ·rw[if_neg e]
  rcases h with rfl | ⟨b,off,rfl,hb,hcl⟩
  ·exact .inl (by simp)
  ·rw[Option.map_some,addr_add]
   refine .inr ⟨b,off+l,rfl,hb,fun j u hu=>?_⟩
   rw[List.getElem?_drop] at hu
   rw[Nat.add_assoc]
   exact hcl _ u hu
theorem rIds_cut {S:Nat→Prop} {w:World} {A:Option Addr} {n c:Nat} {q:List Int} (h:rIds S w [.slice A n c] q) (k:Nat):rIds S w [.slice (slA A c k) (n - k) (c - k)] (q.drop k):=by
 obtain⟨A1,c1,xs,h1,h2,h3,h4,h5⟩:=h
 simp only[List.cons.injEq,Value.slice.injEq,and_true] at h1
 obtain⟨rfl,rfl,rfl⟩:=h1
 have hl:xs.length=q.length:=by rw[h5.1,Nat.mul_one]
 refine⟨slA A c k,c - k,xs.drop k,by rw[List.length_drop],by rw[List.length_drop];omega,by omega,h4.cut (by omega) k,?_⟩
 have:=h5.drop k
 rwa [Nat.mul_one] at this
structure MeetW (g:Gr) (w1:World) (v4:Value) (l q:List Int) (A6:Option Addr) (n6 c6:Nat) (w:World):Prop where
 bel:Below w1.heap.size w1 w
 own:w.ownsRow (w1.heap.size+1) 3 1 v4 l.length (ints l)
 pl:PlM w w1.heap.size l
 led:rIds (fun b=>b<w.heap.size∧b≠w1.heap.size∧some b≠v4.ownBlock) w [.slice A6 n6 c6] q
 mt:Meets g l q
 few:q.length≤3+5 * l.length
section
variable {g : Gr} {w w1 w2 w3 wz : World} {v4 v5 : Value} {l q : List Int} {x : Int} {A6 A7 : Option Addr} {n6 c6 n7 c7 : Nat} {o : Obj}
theorem MeetW.take (h:MeetW g w1 v4 l q A6 n6 c6 w) (hg1:w.grownBy w2 (some w1.heap.size)) (hpl:PlM w2 w1.heap.size (l++[x])) (hg2:(w2.alloc o).grownBy w3 v4.ownBlock)
  (hown:w3.ownsRow (w1.heap.size+1) 3 1 v5 (l.length+1) (ints l++ints [x])) (hv:v5.ownBlock=v4.ownBlock∨v5.ownBlock=some (w2.alloc o).heap.size):
  Below w1.heap.size w1 w3∧w3.ownsRow (w1.heap.size+1) 3 1 v5 (l++[x]).length (ints (l++[x]))∧PlM w3 w1.heap.size (l++[x])∧rIds (fun b=>b<w3.heap.size∧b≠w1.heap.size∧some b≠v5.ownBlock) w3 [.slice A6 n6 c6] q:=by
 have hs:=h.bel.size
 have hB2:Below w1.heap.size w1 w2:=h.bel.grown hg1 hs (fun k hk=>by cases hk;exact zW _)
 have hB3:=hB2.alloc hB2.size o
 have hlo:∀ k,v4.ownBlock=some k→w1.heap.size+1≤k∧k<w.heap.size:=fun k hk=>h.own.lt k hk
 refine⟨hB3.grown hg2 hB3.size (fun k hk=>by have:=(hlo k hk).1;omega),by rw[List.length_append,ints_append];exact hown,?_,?_⟩
 ·refine (hpl.below ((zA _ w2).alloc (zW _) o)).kept hg2 fun e=>?_
  have:=(hlo _ e.symm).1
  omega
 ·refine rIds_stays.to (fun b hb=>?_) h.led
  obtain⟨b1,b2,b3⟩:=hb
  have s1:=hg1.size
  have s2:=hg2.size
  have s3:(w2.alloc o).heap.size=w2.heap.size+1:=by simp
  refine⟨⟨by omega,b2,?_⟩,?_⟩
  ·rcases hv with e | e
   ·rw[e];exact b3
   ·rw[e];intro e2;injection e2 with e2;omega
  ·rw[hg2.block b (by omega) b3,Below.heap_alloc _ _ _ (by omega),hg1.block b b1 (by simpa using b2)]
end
theorem refs_len {g:Gr} (hm:mayG g=true) {o:Ob} (_:o∈g.2.1):(refsL g.1 o).length≤5:=by
 rw[← refsT_all]
 exact Nat.le_trans (refsT_len _ _ _) (fields_few hm _)
theorem meet_any (A B C:Option Addr) (N c M d K e:Nat) (g:Gr) (w:World) (hmay:mayG g=true) (h:rGr (All w) w [.slice A N c,.slice B M d,.slice C K e] g):
  Calls Tryz.prog 54 #[.agg #[.slice A N c,.slice B M d,.slice C K e]] w fun e w'=>∃ A1 c1 Mb,e=.returned (.tuple #[.slice A1 (ordG g).length c1,.map (some Mb)])∧w'.ownsRow w.heap.size 3 1 (.slice A1 (ordG g).length c1) (ordG g).length (ints (ordG g))∧PlM w' Mb (ordG g)∧w.heap.size≤Mb∧Below w.heap.size w w':=by
 obtain⟨i0,hi,hz0,hz1,hz2⟩:=info_parts info_int
 have hmm:=@run_makeMap Tryz.prog
 obtain⟨hK,hKe,hem⟩:=slice_len (rGr_open h).2.2
 have hB0:Below w.heap.size w (w.alloc (.cells #[.slice A N c,.slice B M d,.slice C K e] 28)):=(zA _ w).alloc (zW _) _
 have p0:=Blk.new w 28 [.slice A N c,.slice B M d,.slice C K e]
 have hs1:(w.alloc (.cells #[.slice A N c,.slice B M d,.slice C K e] 28)).heap.size=w.heap.size+1:=by simp
 have Hown:=zZ (World.ownsMap_made (H:=Unit) (w.alloc (.cells #[.slice A N c,.slice B M d,.slice C K e] 28)) Tryz.prog 3 (plainElem Tryz.prog 3))
 have hwf1:(Lit.int .i64 (-1)).wf=true:=by decide
 have hkey1:keyOf Tryz.prog 3 (.int .i64 (-1))=some (.int .i64 (-1)):=keyOf_int_mk Tryz.underlying3 hwf1
 rw[hs1] at Hown
 obtain⟨wm,hrun1,hown1,hgrow1⟩:=Hown.out.update come_law Tryz.underlying58 (by simp only[maxLen];omega) hkey1 (plainElem_int Tryz.underlying3 hwf1)
 have Hr:=zZ (rGr_open h).2.2
 have h1:=gr_below hB0 h
 have HB0:=zZ hB0
 have Hp0:=zZ p0
 have H1:=zZ h1
 have h3:=(mayG_parts hmay).2.2.2.1
 have HPl:=zZ (PlM.start hown1)
 have hB1:Below (w.alloc (.cells #[.slice A N c,.slice B M d,.slice C K e] 28)).heap.size (w.alloc (.cells #[.slice A N c,.slice B M d,.slice C K e] 28)) wm:=((zA _ _).alloc (zW _) _).grown hgrow1 (by simp) (fun k hk=>by cases hk;omega)
 have HB1:=zZ hB1
 have g2:=(Hp0.out.below (by simp) hB1).cell (j:=2) rfl
 clear Hown hown1 hgrow1 hB1 hkey1
 clear h hB0 h1 p0
 go_enter Tryz.func54,Tryz.ntmps54
 go_wp2
 go_step3
 go_wp2
 go_step3
 go_wp2
 generalize w.alloc (.cells #[.slice A N c,.slice B M d,.slice C K e] 28)=w1 at *
 clear hrun1 g2
 go_loopg [4,6] 9 (fun gk v4 v6 wr=>∃ (l q:List Int) (A6:Option Addr) (n6 c6:Nat),gk+l.length=9∧v6=.slice A6 n6 c6∧Hid (MeetW g w1 v4 l q A6 n6 c6 wr))
 case atStart=>exact⟨[],g.2.2,C,K,e,rfl,rfl,zZ ⟨HB1.out,World.ownsRow_nil _ _ _ _,by rw[hs1];exact HPl.out,rIds_stays.to (fun b hb=>⟨⟨by have:=HB1.out.size;have:b<w.heap.size:=hb;omega,by have:b<w.heap.size:=hb;omega,by simp[Value.ownBlock]⟩,by
  have hb:b<w.heap.size:=hb
  rw[HB1.out.block b (by omega),HB0.out.block b hb]⟩) Hr.out,Meets.start hmay,by simp;omega⟩⟩
 case round=>
  obtain⟨l,q,A6,n6,c6,hgk,rfl,hM⟩:=hrel
  clear HPl HB1 Hr hK hKe hem h3 hwf1
  obtain⟨hq,hqc,hcm⟩:=slice_len hM.out.led
  obtain⟨A4,c4,rfl,-⟩:=own_slice hM.out.own
  simp only[maxLen] at hcm
  have h8:=hM.out.mt.few hmay
  have hqf:=hM.out.few
  go_wp2
  go_loopg [4,6,17] n6 (fun g2 v4 v6 v17 wy=>∃ i:Nat,i+g2=n6∧v4=.slice A4 l.length c4∧v6=.slice A6 n6 c6∧v17=.int .i64 (i:Int)∧Hid (Meets g l (q.drop i))∧wr=wy)
  case atStart=>exact⟨0,by omega,rfl,rfl,rfl,zZ hM.out.mt,rfl⟩
  case round=>
   obtain⟨i,hig,rfl,rfl,rfl,hmt,rfl⟩:=hrel
   by_cases hin:i<n6
   ·obtain⟨x,hx⟩:∃ x,q[i]?=some x:=⟨_,zV (by omega)⟩
    have hdrop:q.drop i=x :: q.drop (i+1):=by
     rw[List.drop_eq_getElem_cons (by omega)]
     congr 1
     rw[zV (by omega)] at hx
     injection hx
    rw[hdrop] at hmt
    obtain⟨b,off,rfl,hb,hx1,hxb⟩:=id_at hM.out.led hx
    have hil:(i:Int)<(n6:Int):=by omega
    have hi0:(0:Int)≤(i:Int):=by omega
    have hkey:keyOf Tryz.prog 3 (.int .i64 x)=some (.int .i64 x):=keyOf_int_mk Tryz.underlying3 (WalkArith.wf_i64 hxb)
    have hpl:=hM.out.pl
    rw[hs1] at hpl
    obtain⟨hneg,D,hown,hhas⟩:=hpl
    have hh:=(hhas x (WalkArith.wf_i64 hxb)).1
    have Hhas:=zZ hhas
    clear hhas hx hdrop
    by_cases hxl:x = -1∨x∈l
    ·rw[zJ hxl] at hh
     have Hs:=zZ (hmt.out.skip hxl)
     clear hxl
     go_wp2_with (first
      | (at_lookup;refine wpList_lookup_own_ok_int _ rfl _ _ 58 rfl 3 3 .i64 come_law Tryz.underlying58 Tryz.underlying3 (int_zero _) (w.heap.size+1) (l.length+1) D rfl hown _ _ rfl hkey ?_;intro cc hat hwc;rw[hh])
      | fail)
     go_roundg (n6 - (i+1))
     case measure=>omega
     case rel=>exact⟨i+1,by omega,rfl,rfl,by go_num,Hs,rfl⟩
    ·rw[zK hxl] at hh
     obtain⟨⟨ob,hob,hobx⟩,hl8,hmet⟩:=hmt.out.met hmay hxl
     have hobj:objG g.2.1 x=ob:=by rw[← hobx];exact obj_of hmay hob
     rw[hobj] at hmet
     have Hmet:=zZ hmet
     have HpA:=zZ (fun (W:World) (h:W.ownsMap Tryz.prog 3 (plainElem Tryz.prog 3) (w.heap.size+1) (l.length+1+1) (D.put (.int .i64 x) (.lit (.int .i64 (l.length:Int)))))=>PlM.add h hown.isMap hneg hxl Hhas.out)
     have hlm:l.length+1<maxLen:=by simp only[maxLen];omega
     have hwl:(Lit.int .i64 (l.length:Int)).wf=true:=WalkArith.wf_i64 ⟨by omega,by omega⟩
     have Hko:=zZ (fun (W:World) (hg:wr.grownBy W (some (w.heap.size+1)))=>own_keep hM.out.own (fun b hb hlt=>hg.block b hlt (by rw[hs1] at hb;intro e;injection e with e;omega)))
     have hwr:=hM.out.bel.size
     clear hxl hobj hmt Hhas hneg hmet
     go_wp2_with (first
      | (at_lookup;refine wpList_lookup_own_ok_int _ rfl _ _ 58 rfl 3 3 .i64 come_law Tryz.underlying58 Tryz.underlying3 (int_zero _) (w.heap.size+1) (l.length+1) D rfl hown _ _ rfl hkey ?_;intro cc hat hwc;rw[hh])
      | (at_mapUpdate;refine wpList_mapUpdate_own _ rfl _ _ _ 58 rfl 3 3 come_law Tryz.underlying58 (plainElem (H:=Unit) Tryz.prog 3) (w.heap.size+1) (l.length+1) D rfl hown hlm _ _ _ rfl rfl hkey _ [] (plainElem_int Tryz.underlying3 hwl) ?_;intro w2 hown2 hgrow2)
      | (at_builtin;refine wpList_app rfl (.tmp 33) (.tmp 35) 26 rfl (w1.heap.size+1) 3 i0 (.int .i64 0) 8 Tryz.underlying26 hi hz0 hz1 hz2 rfl (.slice A4 l.length c4) l.length (ints l) rfl ((Hko.out _ hgrow2).alloc _) (some ⟨w2.heap.size,0,none⟩) 1 1 (ints [x]) rfl rfl (lit_ints _ [x]) (ints_one _) (by simp only[maxLen];omega) (by omega) (by have:=hgrow2.size;have:=hM.out.own;simp;omega) ?_;intro v5 w3 hown3 hg3 hv3)
      | fail)
     obtain⟨hB3,hown3',hpl3,hled3⟩:=hM.out.take (by rw[hs1];exact hgrow2) (by rw[hs1];exact HpA.out _ hown2) hg3 hown3 hv3
     have lg:w.heap.size<w1.heap.size:=by omega
     have pg:=Hp0.out.below lg hB3
     have lg3:=pg.lt
     have HS:=zZ (fun (W:World) (hW:Below w3.heap.size w3 W)=>And.intro ((hW.cell (p:=⟨w.heap.size,0,none⟩) lg3).trans (pg.cell (j:=0) rfl)) (And.intro ((hW.cell (p:=⟨w.heap.size,1,none⟩) lg3).trans (pg.cell (j:=1) rfl)) ((hW.cell (p:=⟨w.heap.size,2,none⟩) lg3).trans (pg.cell (j:=2) rfl))))
     have hcut:=fun W=>run_tail Tryz.underlying26 hi hz1 (some ⟨b,off,none⟩) n6 c6 i (by omega) W
     have hwrap:IntKind.i64.wrap ((i:Int)+1)=(i:Int)+1:=IntWalk.i64_in _ (by omega)
     have T1:=zZ (fun W (hW:Below w3.heap.size w3 W)=>leads_any A B C N c M d K e g ob W hmay hob (gr_below (hB3.trans (hW.mono hB3.size)) H1.out))
     rw[hobx] at T1
     have Hledc:=zZ (rIds_cut hled3 (i+1))
     have hrl:=refs_len hmay hob
     have Hrl:Hid (∀ k,v5.ownBlock=some k→k<w3.heap.size):=zZ fun k hk=>(hown3'.lt k hk).2
     have HB3:=zZ hB3
     have Hown3:=zZ hown3'
     have Hpl3:=zZ hpl3
     have hs3:=hB3.size
     clear hB3 hown3' hpl3 hled3 pg hown hown2 hgrow2 hown3 hg3 hv3 hh hat hwc hkey HpA Hko hx1 hb hM
     generalize slA (some ⟨b,off,none⟩) c6 (i+1)=A7 at *
     generalize hn7:n6 - (i+1)=n7 at *
     generalize c6 - (i+1)=c7 at *
     generalize hrr:refsL g.1 ob=rr at *
     refine sch_start [(0,true),(1,true),(2,true),(3,true),(4,true),(5,true),(6,false),(7,false),(8,false),(9,true)] (fun W=>Below w3.heap.size w3 W) (by kernel_rfl) rfl (by kernel_rfl) (fun _ _ _ _ _ h=>h) ((zA _ w3).drew) (fun hH=>?_)
     repeat (first | (refine sch_yes (v:=?_) rfl rfl ?_ hH ?_;rotate_left;(focus ((intro W hW;obtain⟨q0,q1,q2⟩:=HS.out W hW;go_simp) <;> with_reducible rfl));simp only[Act.put,zY,zX,zQ]) | (refine sch_no rfl rfl hH ?_;simp only[Act.put,zY,zX,zQ]))
     refine sch_call rfl rfl (fun K' hK=>?_)
     go_wp2_with (go_at_call 98;refine (T1.out _ (zA _ w3).drew).mono ?_;rintro e w5 ⟨A5,c5,rfl,hr5,hB5⟩)
     have hD5:=((zA w3.heap.size w3).drew).trans (hB5.mono ((zA w3.heap.size w3).drew).size)
     refine hK.out _ _ hD5 ?_
     clear hK hH
     have hH:=hD5
     refine sch_call rfl rfl (fun K' hK=>?_)
     go_wp2
     have hD6:=hD5.alloc hD5.size (.cells #[.slice A7 n7 c7,.slice A5 rr.length c5] 26)
     have p6:=Blk.new w5 26 [.slice A7 n7 c7,.slice A5 rr.length c5]
     have h56:Below w5.heap.size w5 (w5.alloc (.cells #[.slice A7 n7 c7,.slice A5 rr.length c5] 26)):=(zA _ w5).alloc (zW _) _
     refine hK.out _ _ hD6 ?_
     clear hK hH
     have hH:=hD6
     have l5:rIds (All (w5.alloc (.cells #[.slice A7 n7 c7,.slice A5 rr.length c5] 26))) (w5.alloc (.cells #[.slice A7 n7 c7,.slice A5 rr.length c5] 26)) [.slice A7 n7 c7] (q.drop (i+1)):=ids_below hD6 (rIds_stays.to (Keeps.mono fun _ hb=>hb.1) Hledc.out)
     have r5:=ids_below h56 (rIds_stays.to (Keeps.mono fun _ hb=>hb.2) hr5)
     have T2:=zZ (iconcat_any w5.heap.size A7 A5 n7 c7 rr.length c5 (q.drop (i+1)) rr _ (by omega) l5 r5 p6.lt (p6.cell (j:=0) rfl) (p6.cell (j:=1) rfl))
     have hs6:w3.heap.size<(w5.alloc (.cells #[.slice A7 n7 c7,.slice A5 rr.length c5] 26)).heap.size:=by have:=hD5.size;simp;omega
     clear l5 r5 p6 h56 hr5 T1 Hledc
     generalize w5.alloc (.cells #[.slice A7 n7 c7,.slice A5 rr.length c5] 26)=w6 at *
     refine sch_call rfl rfl (fun K' hK=>?_)
     go_wp2_with (go_at_call 97;refine T2.out.mono ?_;rintro e w8 ⟨A8,c8,rfl,hr8,hB8⟩)
     have hD8:=hD6.trans (hB8.mono hD6.size)
     refine hK.out _ _ hD8 ?_
     clear hK hH
     have hH:=hD8
     repeat (first | (refine sch_yes (v:=?_) rfl rfl ?_ hH ?_;rotate_left;(focus ((intro W hW;go_simp) <;> with_reducible rfl));simp only[Act.put,zY,zX,zQ]) | (refine sch_no rfl rfl hH ?_;simp only[Act.put,zY,zX,zQ]))
     refine sch_done ?_
     go_wp2
     go_roundg (8 - l.length)
     case measure=>omega
     case rel=>
      refine⟨l++[x],q.drop (i+1)++rr,A8,n7+rr.length,c8,by simp;omega,rfl,zZ ⟨HB3.out.trans (hD8.mono HB3.out.size),own_below Hown3.out hD8,Hpl3.out.below hD8,?_,Hmet.out,?_⟩⟩
      ·refine rIds_stays.to (Keeps.mono fun b hb=>⟨hb.2,by omega,fun e=>?_⟩) hr8
       have:=Hrl.out b e.symm
       omega
      ·rw[List.length_append,List.length_append,List.length_drop,List.length_singleton]
       omega
   ·have hnil:q.drop i=[]:=List.drop_eq_nil_of_le (by omega)
    rw[hnil] at hmt
    have Hord:=zZ hmt.out.done
    have hil:¬ ((i:Int)<(n6:Int)):=by omega
    clear hnil hmt
    go_wp2
    try rw[Exit.noGoto_ret]
    go_ret2
    refine⟨A4,c4,w.heap.size+1,by rw[Hord.out];rfl,?_,?_,by omega,HB0.out.trans (hM.out.bel.mono HB0.out.size)⟩
    ·rw[Hord.out];exact own_mono hM.out.own (by omega)
    ·rw[Hord.out];have:=hM.out.pl;rwa [hs1] at this
end Go.Proofs.YtnljjnkindjeoaaGreatDoor
namespace Go.Proofs.YtnljjnkindjeoaaGreatDoor
open Go.RowKit
theorem ordG_no {g:Gr} (h:mayG g=false):ordG g=[]:=by rw[ordG,if_neg (by rw[h];decide)]
theorem ordG_wf {g:Gr}:∀ x∈ordG g,(Lit.int .i64 x).wf=true:=fun x hx=>by
 by_cases hm:mayG g=true
 ·obtain⟨o,ho,rfl⟩:=ordG_ids hm x hx
  have:=(mayG_obj hm ho).id0
  have:=(mayG_obj hm ho).id1
  exact WalkArith.wf_i64 ⟨by omega,by omega⟩
 ·rw[ordG_no (by simpa using hm)] at hx
  cases hx
end Go.Proofs.YtnljjnkindjeoaaGreatDoor
namespace Go.Proofs.YtnljjnkindjeoaaGreatDoor
open Go.RowKit Go.Maps
theorem order_any (A B C:Option Addr) (N c M d K e:Nat) (g:Gr) (w:World) (h:rGr (All w) w [.slice A N c,.slice B M d,.slice C K e] g):
  Calls Tryz.prog 22 #[.agg #[.slice A N c,.slice B M d,.slice C K e]] w fun e w'=>∃ A1 c1,e=.returned (.slice A1 (ordG g).length c1)∧rIds (fun b=>w.heap.size≤b∧b<w'.heap.size) w' [.slice A1 (ordG g).length c1] (ordG g)∧Below w.heap.size w w':=by
 have hB0:Below w.heap.size w (w.alloc (.cells #[.slice A N c,.slice B M d,.slice C K e] 28)):=(zA _ w).alloc (zW _) _
 have p1:=Blk.new w 28 [.slice A N c,.slice B M d,.slice C K e]
 have T1:=zZ (gmay_any A B C N c M d K e g _ (gr_below hB0 h))
 have HB0:=zZ hB0
 clear hB0
 go_enter Tryz.func22,Tryz.ntmps22
 go_wp2_with fail
 refine T1.out.mono ?_
 rintro e w1 ⟨rfl,hB1⟩
 have H1:=zZ (HB0.out.trans (hB1.mono HB0.out.size))
 have s1:=H1.out.size
 replace p1:=p1.to hB1
 clear hB1 HB0 T1
 by_cases hm:mayG g=true
 ·rw[hm]
  have T2:=zZ (meet_any A B C N c M d K e g w1 hm (gr_below H1.out h))
  clear h
  have c0:=p1.cell (j:=0) rfl
  have c1:=p1.cell (j:=1) rfl
  have c2:=p1.cell (j:=2) rfl
  go_wp2_with fail
  refine T2.out.mono ?_
  rintro e w2 ⟨A3,c3,Mb,rfl,hown2,-,-,hB2⟩
  have hr:=zZ (rIds_stays.to (S':=fun b=>w.heap.size≤b∧b<w2.heap.size) (Keeps.mono fun b hb=>⟨by omega,hb.2⟩) (ids_own hown2 rfl ordG_wf))
  clear hown2
  go_wp2
  go_ret
  exact⟨A3,c3,rfl,hr.out,H1.out.trans (hB2.mono H1.out.size)⟩
 ·replace hm:mayG g=false:=by simpa using hm
  rw[hm]
  go_wp2
  go_ret
  rw[ordG_no hm]
  exact⟨none,0,rfl,⟨none,0,[],rfl,zW _,Nat.zero_le _,.inl rfl,Chunks.nil⟩,H1.out⟩
end Go.Proofs.YtnljjnkindjeoaaGreatDoor
namespace Go.Proofs.YtnljjnkindjeoaaGreatDoor
open Go.RowKit
theorem vclone_any (A:Option Addr) (N c:Nat) (l:List Vl) (w:World) (h:rVals (All w) w [.slice A N c] l) (hN:N≤4398046511104):
  Calls Tryz.prog 102 #[.slice A N c] w fun e w'=>∃ A1 c1 xs,e=.returned (.slice A1 N c1)∧w'.ownsRow w.heap.size 47 3 (.slice A1 N c1) N xs∧Chunks 3 (fun cs x=>∀ S W,rVal S W cs x) xs l∧Below w.heap.size w w':=by
 obtain⟨hl,_,_⟩:=slice_len h
 obtain⟨i0,hi,hz0,hz1,hz2⟩:=info_parts info_vals
 obtain⟨xs,hr,hxl,hch⟩:=slice_cells h
 have h1:=chunks_all1 val_one hch
 have Hch:Hid (Chunks 3 (fun cs x=>∀ S W,rVal S W cs x) xs l):=zZ (hch.imp fun _ _ hq _ _=>hq)
 clear h hch
 cases A with
 | none=>
  have h0:xs=[]:=by
   rcases hr with h | ⟨_,_,h,_⟩
   ·exact h
   ·cases h
  subst h0
  obtain rfl:N=0:=by simp at hxl;omega
  have hq:=fun W:World=>Lib.run_eql_slice_nil (P:=Tryz.prog) W 51 47 none 0 c 0 0 rfl
  go_enter Tryz.func102,Tryz.ntmps102
  go_wp2
  go_ret
  exact⟨none,0,[],rfl,World.ownsRow_nil _ _ _ _,Hch.out,zA _ _⟩
 | some a=>
  have hq:=fun W:World=>Lib.run_eql_slice_nil (P:=Tryz.prog) W 51 47 (some a) N c 0 0 rfl
  have hB0:Below w.heap.size w (w.alloc (.cells #[] 47)):=(zA _ w).alloc (zW _) _
  have hown:(w.alloc (.cells #[] 47)).ownsRow w.heap.size 47 3 (.slice (some ⟨w.heap.size,0,none⟩) 0 0) 0 []:=
   ⟨rfl,.inr ⟨w.heap.size,0,#[],rfl,zW _,heap_alloc_new w _,zW _,by simp[maxLen],rfl,rfl⟩⟩
  have hr0:=hr.below hB0
  have Hown:=zZ hown
  clear hown hr
  go_enter Tryz.func102,Tryz.ntmps102
  go_wp2_with (first | (at_builtin;refine wpList_apps rfl _ _ 51 rfl w.heap.size 47 i0 (.agg #[.int .i64 0,.string ⟨#[]⟩,.int .i64 0]) 3 32 rfl hi hz0 hz1 hz2 rfl (by omega) _ 0 [] rfl Hown.out (some a) N c xs rfl hxl hr0 h1 (by simp only[maxLen];omega) (by omega) (by simp) ?_;intro v1 w1 hown1 hg1 hv1) | fail)
  obtain⟨A1,c1,hv⟩:=own_slice3 hown1
  rw[Nat.zero_add] at hv hown1
  subst hv
  go_ret
  exact⟨A1,c1,xs,rfl,by simpa using hown1,Hch.out,hB0.grown hg1 (by simp) (fun k hk=>by injection hk with hk;exact Nat.le_of_eq hk)⟩
end Go.Proofs.YtnljjnkindjeoaaGreatDoor
namespace Go.Proofs.YtnljjnkindjeoaaGreatDoor
open Go.RowKit Go.Maps
def leadT (f:Int→Int) (fs:List Fld) (vs:List Vl) (i:Nat):List Vl:=(leadV f fs vs).take i++vs.drop i
section
variable {f : Int → Int} {fs : List Fld} {vs : List Vl} {i : Nat} {a : Fld} {v : Vl}
theorem leadT_all (hl:fs.length=vs.length):leadT f fs vs fs.length=leadV f fs vs:=by
 have:=leadV_len f fs vs hl
 rw[leadT,List.take_of_length_le (by omega),List.drop_eq_nil_of_le (by omega),List.append_nil]
theorem leadT_parts (hl:fs.length=vs.length) (hv:vs[i]?=some v):((leadV f fs vs).take i).length=i∧vs.drop i=v :: vs.drop (i+1):=by
 have:=leadV_len f fs vs hl
 obtain⟨h1,h2⟩:=List.getElem?_eq_some_iff.1 hv
 exact⟨by rw[List.length_take];omega,by rw[List.drop_eq_getElem_cons h1,h2]⟩
theorem leadT_at (hl:fs.length=vs.length) (hv:vs[i]?=some v):(leadT f fs vs i)[i]?=some v:=by
 obtain⟨h1,h2⟩:=leadT_parts (f:=f) hl hv
 rw[leadT,List.getElem?_append_right (by omega),h1,h2,Nat.sub_self]
 rfl
theorem leadT_yes (hl:fs.length=vs.length) (ha:fs[i]?=some a) (hv:vs[i]?=some v) (h5:a.2.1=5):leadT f fs vs (i+1)=(leadT f fs vs i).set i (v.1,v.2.1,f v.2.2):=by
 obtain⟨h1,h2⟩:=leadT_parts (f:=f) hl hv
 have h3:=leadV_at f ha hv
 rw[if_pos h5] at h3
 rw[leadT,leadT,take_at h3,List.set_append_right _ _ (by omega),h1,h2,Nat.sub_self,zX,List.append_assoc]
 rfl
theorem leadT_no (hl:fs.length=vs.length) (ha:fs[i]?=some a) (h5:a.2.1≠5):leadT f fs vs (i+1)=leadT f fs vs i:=by
 have hi:=(List.getElem?_eq_some_iff.1 ha).1
 have hv:vs[i]?=some (vs[i]'(by omega)):=zV (by omega)
 obtain⟨h1,h2⟩:=leadT_parts (f:=f) hl hv
 have h3:=leadV_at f ha hv
 rw[if_neg h5] at h3
 rw[leadT,leadT,take_at h3,h2,List.append_assoc]
 rfl
end
theorem set_here {α:Type} {xs:List α} {p:Nat} {a:α} (h:xs[p]?=some a):xs.set p a=xs:=by
 obtain⟨h1,h2⟩:=List.getElem?_eq_some_iff.1 h
 rw[← h2]
 exact List.set_getElem_self h1
theorem chunks_lead {xs:List Value} {l:List Vl} {i:Nat} {v:Vl} {r:Int} (h:Chunks 3 (fun cs x=>∀ S W,rVal S W cs x) xs l) (hv:l[i]?=some v) (hr:(Lit.int .i64 r).wf=true):Chunks 3 (fun cs x=>∀ S W,rVal S W cs x) (xs.set (i * 3+2) (.int .i64 r)) (l.set i (v.1,v.2.1,r)):=by
 obtain⟨x,y,z,h1,h2,h3,h4⟩:=chunks_at3 h hv
 obtain⟨s,e,e1,e2,e3,-⟩:=rVal_open (h4 (fun _=>True) default)
 simp only[List.cons.injEq,and_true] at e
 obtain⟨rfl,rfl,rfl⟩:=e
 have:=chunks_set3 (a:=.int .i64 v.1) (b:=.string s) (c:=.int .i64 r) (v:=(v.1,v.2.1,r)) (k:=i) h (List.getElem?_eq_some_iff.1 hv).1 (fun S W=>rVal_mk (v:=(v.1,v.2.1,r)) e1 e2 (WalkArith.wf_i64 e3) hr)
 rwa [set_here h1,set_here h2] at this
theorem renamed_any (A B C:Option Addr) (N c M d K e:Nat) (g:Gr) (o:Ob) (Mb:Nat) (L:List Int) (w:World) (hmay:mayG g=true) (ho:o∈g.2.1) (h:rGr (All w) w [.slice A N c,.slice B M d,.slice C K e] g) (hpl:PlM w Mb L) (hL8:L.length≤8) (hoL:o.1∈L) (hrefs:∀ r∈refsL g.1 o,r = -1∨r∈L):
  Calls Tryz.prog 56 #[.agg #[.slice A N c,.slice B M d,.slice C K e],.int .i64 o.1,.map (some Mb)] w fun e w'=>∃ A1 c1 xs,e=.returned (.agg #[.int .i64 (atL L o.1),.int .i64 o.2.1,.slice A1 o.2.2.length c1])∧w'.ownsRow w.heap.size 47 3 (.slice A1 o.2.2.length c1) o.2.2.length xs∧Chunks 3 (fun cs x=>∀ S W,rVal S W cs x) xs (leadV (atL L) (fldsG g.1 o.2.1) o.2.2)∧Below w.heap.size w w':=by
 have Hmo:=zZ (mayG_obj hmay ho)
 obtain⟨I,hI,hgi⟩:=obj_place hmay ho
 obtain⟨hM,hMd,hdm⟩:=slice_len (rGr_open h).2.1
 have hIM:I<M:=by have:=(List.getElem?_eq_some_iff.1 hgi).1;omega
 have hB0:Below w.heap.size w ((w.alloc (.cells #[.slice A N c,.slice B M d,.slice C K e] 28)).alloc (.cells #[.int .i64 0,.int .i64 0,.slice none 0 0] 53)):=((zA _ w).alloc (zW _) _).alloc (by simp) _
 obtain⟨p0,p6⟩:=blk_two w 28 53 [.slice A N c,.slice B M d,.slice C K e] [.int .i64 0,.int .i64 0,.slice none 0 0]
 have h1:=gr_below hB0 h
 have HB0:=zZ hB0
 have hs1:w.heap.size<((w.alloc (.cells #[.slice A N c,.slice B M d,.slice C K e] 28)).alloc (.cells #[.int .i64 0,.int .i64 0,.slice none 0 0] 53)).heap.size:=by simp;omega
 have hs2:w.heap.size+1<((w.alloc (.cells #[.slice A N c,.slice B M d,.slice C K e] 28)).alloc (.cells #[.int .i64 0,.int .i64 0,.slice none 0 0] 53)).heap.size:=by simp
 have Hpl:=zZ (hpl.kept (((World.grownBy_alloc w (.cells #[.slice A N c,.slice B M d,.slice C K e] 28) none)).trans (World.grownBy_alloc _ (.cells #[.int .i64 0,.int .i64 0,.slice none 0 0] 53) none)) (by simp))
 clear h hB0 hpl
 go_enter Tryz.func56,Tryz.ntmps56
 go_wp2
 generalize (w.alloc (.cells #[.slice A N c,.slice B M d,.slice C K e] 28)).alloc (.cells #[.int .i64 0,.int .i64 0,.slice none 0 0] 53)=w1 at *
 obtain⟨b,off,A2,c2,rfl,hb,x0,x1,x2,hvs,-,-⟩:=ob_at (rGr_open h1).2.1 hgi
 have g0:=p0.cell (j:=0) rfl
 have g1:=p0.cell (j:=1) rfl
 have g2:=p0.cell (j:=2) rfl
 have hil:(I:Int)<(M:Int):=by omega
 have hi0:(0:Int)≤(I:Int):=by omega
 have T1:=zZ (fun W (hW:Below w1.heap.size w1 W)=>gfind_any A (some ⟨b,off,none⟩) C N c M d K e g o.1 W (gr_below hW h1))
 rw[hI] at T1
 have H1:=zZ h1
 have Hvs:=zZ hvs
 have P0:=zZ p0
 have P6:=zZ p6
 clear h1 hvs p0 p6
 go_cut [7] (fun v7 wx=>∃ b7:Nat,v7=.pointer (some ⟨b7,0,none⟩)∧Blk wx b7 53 [.int .i64 o.1,.int .i64 o.2.1,.slice A2 o.2.2.length c2]∧w1.heap.size≤b7∧Below w1.heap.size w1 wx)
 case first=>
  have HS:=zZ (fun (W:World) (hW:Below w1.heap.size w1 W)=>And.intro ((hW.cell (p:=⟨w.heap.size,0,none⟩) hs1).trans g0) (And.intro ((hW.cell (p:=⟨w.heap.size,1,none⟩) hs1).trans g1) (And.intro ((hW.cell (p:=⟨w.heap.size,2,none⟩) hs1).trans g2)
   (And.intro ((hW.cell (p:=⟨b,off+I * 3,none⟩) hb).trans x0) (And.intro ((hW.cell (p:=⟨b,off+I * 3+1,none⟩) hb).trans x1) ((hW.cell (p:=⟨b,off+I * 3+2,none⟩) hb).trans x2))))))
  clear g0 g1 g2 x0 x1 x2
  refine fr_start (fun W=>W.cell? ⟨w.heap.size,0,none⟩=some (.slice A N c)∧W.cell? ⟨w.heap.size,1,none⟩=some (.slice (some ⟨b,off,none⟩) M d)∧W.cell? ⟨w.heap.size,2,none⟩=some (.slice C K e)∧W.cell? ⟨b,off+I * 3,none⟩=some (.int .i64 o.1)∧W.cell? ⟨b,off+I * 3+1,none⟩=some (.int .i64 o.2.1)∧W.cell? ⟨b,off+I * 3+2,none⟩=some (.slice A2 o.2.2.length c2)) 9 (by kernel_rfl) rfl (fun _ _ _ _ _ h=>h) (HS.out _ (zA _ w1).drew) (fun hH=>?_)
  have hD:=(zA w1.heap.size w1).drew
  have hDs:w1.heap.size≤w1.drew.heap.size:=hD.size
  generalize w1.drew=wd at *
  (refine fr_yes 0 (v:=?_) rfl (by kernel_rfl) rfl ?_ hH ?_;rotate_left;(focus ((rintro W ⟨hW1,hW2,hW3,hW4,hW5,hW6⟩;go_simp) <;> with_reducible rfl));simp only[Act.put,zY,zX,zQ]);(refine fr_yes 1 (v:=?_) rfl (by kernel_rfl) rfl ?_ hH ?_;rotate_left;(focus ((rintro W ⟨hW1,hW2,hW3,hW4,hW5,hW6⟩;go_simp) <;> with_reducible rfl));simp only[Act.put,zY,zX,zQ]);(refine fr_yes 2 (v:=?_) rfl (by kernel_rfl) rfl ?_ hH ?_;rotate_left;(focus ((rintro W ⟨hW1,hW2,hW3,hW4,hW5,hW6⟩;go_simp) <;> with_reducible rfl));simp only[Act.put,zY,zX,zQ]);(refine fr_yes 3 (v:=?_) rfl (by kernel_rfl) rfl ?_ hH ?_;rotate_left;(focus ((rintro W ⟨hW1,hW2,hW3,hW4,hW5,hW6⟩;go_simp) <;> with_reducible rfl));simp only[Act.put,zY,zX,zQ])
  refine fr_op [4,7] (by kernel_rfl) (by simp) ?_;intro jj hjj;simp only[List.mem_cons,List.not_mem_nil,or_false] at hjj;rcases hjj with rfl | rfl
  ·refine⟨_,rfl,rfl,fun K hK=>?_⟩
   go_wp2_with (go_at_call 46;refine (T1.out _ hD).mono ?_;rintro e wg ⟨rfl,hCg⟩)
   have hDg:=hD.trans (hCg.mono hD.size)
   refine hK.out _ _ (HS.out _ hDg) ?_
   clear hK hH hCg
   have hH:=HS.out _ hDg
   (refine fr_yes 5 (v:=?_) rfl (by kernel_rfl) rfl ?_ hH ?_;rotate_left;(focus ((rintro W ⟨hW1,hW2,hW3,hW4,hW5,hW6⟩;go_simp) <;> with_reducible rfl));simp only[Act.put,zY,zX,zQ]);(refine fr_yes 6 (v:=?_) rfl (by kernel_rfl) rfl ?_ hH ?_;rotate_left;(focus ((rintro W ⟨hW1,hW2,hW3,hW4,hW5,hW6⟩;go_simp) <;> with_reducible rfl));simp only[Act.put,zY,zX,zQ])
   refine fr_op [7] (by kernel_rfl) (by simp) ?_;intro jj hjj;simp only[List.mem_cons,List.not_mem_nil,or_false] at hjj;subst hjj;refine⟨_,rfl,rfl,fun K hK=>?_⟩
   go_wp2
   have hDz:=hDg.alloc hDg.size (.cells #[.int .i64 0,.int .i64 0,.slice none 0 0] 53)
   refine hK.out _ _ (HS.out _ hDz) ?_
   clear hK hH
   refine fr_op [8] (by kernel_rfl) (by simp) ?_;intro jj hjj;simp only[List.mem_cons,List.not_mem_nil,or_false] at hjj;subst hjj;refine⟨_,rfl,rfl,fun K hK=>?_⟩
   go_wp2
   have hDe:=hDg.alloc hDg.size (.cells #[.int .i64 o.1,.int .i64 o.2.1,.slice A2 o.2.2.length c2] 53)
   refine hK.out _ _ (HS.out _ hDe) ?_
   clear hK
   refine fr_done (by kernel_rfl) ?_
   go_wp2
   go_meet
   case rel=>exact⟨_,rfl,Blk.new _ _ [.int .i64 o.1,.int .i64 o.2.1,.slice A2 o.2.2.length c2],hDg.size,hDe⟩
  ·refine⟨_,rfl,rfl,fun K hK=>?_⟩
   go_wp2
   have hDz:=hD.alloc hD.size (.cells #[.int .i64 0,.int .i64 0,.slice none 0 0] 53)
   have vz:=Blk.new wd 53 [.int .i64 0,.int .i64 0,.slice none 0 0]
   refine hK.out _ _ (HS.out _ hDz) ?_
   clear hK hH
   have hH:=HS.out _ hDz
   generalize wd.alloc (.cells #[.int .i64 0,.int .i64 0,.slice none 0 0] 53)=wz at *
   refine fr_op [4] (by kernel_rfl) (by simp) ?_;intro jj hjj;simp only[List.mem_cons,List.not_mem_nil,or_false] at hjj;subst hjj;refine⟨_,rfl,rfl,fun K hK=>?_⟩
   go_wp2_with (go_at_call 46;refine (T1.out _ hDz).mono ?_;rintro e wg ⟨rfl,hCg⟩)
   have hDg:=hDz.trans (hCg.mono hDz.size)
   have vg:=vz.to hCg
   refine hK.out _ _ (HS.out _ hDg) ?_
   clear hK hH hCg hDz vz
   have hH:=HS.out _ hDg
   (refine fr_yes 5 (v:=?_) rfl (by kernel_rfl) rfl ?_ hH ?_;rotate_left;(focus ((rintro W ⟨hW1,hW2,hW3,hW4,hW5,hW6⟩;go_simp) <;> with_reducible rfl));simp only[Act.put,zY,zX,zQ]);(refine fr_yes 6 (v:=?_) rfl (by kernel_rfl) rfl ?_ hH ?_;rotate_left;(focus ((rintro W ⟨hW1,hW2,hW3,hW4,hW5,hW6⟩;go_simp) <;> with_reducible rfl));simp only[Act.put,zY,zX,zQ])
   have z0:=vg.cell (j:=0) rfl
   have z1:=vg.cell (j:=1) rfl
   have z2:=vg.cell (j:=2) rfl
   have f0:=vg.frozen 0
   have f1:=vg.frozen 1
   have f2:=vg.frozen 2
   refine fr_op [8] (by kernel_rfl) (by simp) ?_;intro jj hjj;simp only[List.mem_cons,List.not_mem_nil,or_false] at hjj;subst hjj;refine⟨_,rfl,rfl,fun K hK=>?_⟩
   go_wp2
   have hDe:=((hDg.setCell (p:=⟨wd.heap.size,0,none⟩) hDs (.int .i64 o.1)).setCell (p:=⟨wd.heap.size,1,none⟩) hDs (.int .i64 o.2.1)).setCell (p:=⟨wd.heap.size,2,none⟩) hDs (.slice A2 o.2.2.length c2)
   refine hK.out _ _ (HS.out _ hDe) ?_
   clear hK hH
   refine fr_done (by kernel_rfl) ?_
   go_wp2
   go_meet
   case rel=>exact⟨_,rfl,((vg.set 0 (.int .i64 o.1)).set 1 (.int .i64 o.2.1)).set 2 (.slice A2 o.2.2.length c2),hDs,hDe⟩
 case rest=>
  obtain⟨b7,rfl,p7,hb7,hBx⟩:=hcut
  clear T1 x0 x1 x2 g0 g1 g2 hI hil hi0
  have HBx:=zZ (HB0.out.trans (hBx.mono HB0.out.size))
  have hHx:=gr_below hBx H1.out
  have hvx:=vals_below hBx Hvs.out
  have p0x:=P0.out.below hs1 hBx
  have p6x:=P6.out.below hs2 hBx
  have hplx:=Hpl.out.below hBx
  have hsx:=hBx.size
  clear hBx H1 Hvs P0 P6 hb7 HB0 Hpl
  obtain⟨t,ht⟩:∃ t:Nat,o.2.1=(t:Int):=⟨o.2.1.toNat,by have:=Hmo.out.t0;omega⟩
  obtain⟨hN,hNc,hcm⟩:=slice_len (rGr_open hHx).1
  have htN:t<N:=by have:=Hmo.out.t1;omega
  have hgt:g.1[t]?=some g.1[t]:=zV (by omega)
  obtain⟨bt,offt,st,AF,cF,rfl,hbt,-,y1,-,-,hfs⟩:=typ_at (rGr_open hHx).1 hgt
  have hFe:=fldsG_at ht hgt
  rw[← hFe] at y1 hfs
  obtain⟨hF,hFc,hFm⟩:=slice_len hfs
  have hlen:=Hmo.out.len
  have h10:=fields_few hmay o.2.1
  have T3:=zZ (vclone_any A2 o.2.2.length c2 o.2.2 wc hvx (by omega))
  rw[ht] at p7
  have k3:=p7.cell (j:=2) rfl
  have htl:(t:Int)<(N:Int):=by omega
  have ht0:(0:Int)≤(t:Int):=by omega
  simp only[maxLen] at hFm
  have Hfs:=zZ hfs
  have P7:=zZ p7
  have Hlen:=zZ hlen
  have Hall:Hid (leadT (atL L) (fldsG g.1 o.2.1) o.2.2 (fldsG g.1 o.2.1).length=leadV (atL L) (fldsG g.1 o.2.1) o.2.2):=zZ (leadT_all hlen)
  have Hr5:Hid (∀ (i:Nat) f v,(fldsG g.1 o.2.1)[i]?=some f→o.2.2[i]?=some v→f.2.1=5→v.2.2 = -1∨v.2.2∈L):=zZ fun i f v hf hv h5=>hrefs _ (refsL_mem.2 ⟨i,f,v,hf,hv,h5,rfl⟩)
  have hid:(Lit.int .i64 o.1).wf=true:=WalkArith.wf_i64 ⟨by have:=Hmo.out.id0;omega,by have:=Hmo.out.id1;omega⟩
  have Hy1:=zZ y1
  have P0:=zZ p0x
  have P6:=zZ p6x
  have Hpl:=zZ hplx
  have HoL:=zZ hoL
  have h7lt:=p7.lt
  clear hfs p7 hlen hF hHx p0x p6x hplx hFe hgt Hmo hrefs hvx hoL
  generalize hfs0:fldsG g.1 o.2.1=fs at *
  generalize hfl:fs.length=fl at *
  generalize hvl:o.2.2.length=vl at *
  have hlv:=Hlen.out
  go_wp2_with fail
  refine T3.out.mono ?_
  rintro e w9 ⟨A9,c9,xs0,rfl,hown9,hch9,hB9⟩
  have k1:=(P0.out.below P0.out.lt hB9).cell (j:=0) rfl
  have k2:=(P7.out.below P7.out.lt hB9).cell (j:=1) rfl
  have y1':=(hB9.cell (p:=_) hbt).trans Hy1.out
  clear T3 k3 y1
  have Hc0:Hid (Chunks 3 (fun cs x=>∀ S W,rVal S W cs x) xs0 (leadT (atL L) fs o.2.2 0)):=zZ (by rw[leadT];simpa using hch9)
  have Ho9:=zZ hown9
  have H9:=zZ hB9
  clear hch9 hown9 hB9
  go_wp2
  clear k1 k2 y1'
  go_loopw [30] (fun iv w'=>∃ (i:Nat) (xs:List Value),i≤fl∧iv=.int .i64 (i:Int)∧Hid (w'.ownsRow wc.heap.size 47 3 (.slice A9 vl c9) vl xs)∧Hid (Chunks 3 (fun cs x=>∀ S W,rVal S W cs x) xs (leadT (atL L) fs o.2.2 i))∧Hid (Below wc.heap.size wc w')) (fun iv _=>fl - (intOf iv).toNat)
  case atStart=>exact⟨0,xs0,by omega,rfl,Ho9,Hc0,H9⟩
  case round=>
   rename_i iv wr
   clear Ho9 Hc0
   obtain⟨i,xs,hi',rfl,hown,hch,hg⟩:=hrel
   have hgs:=hg.out.size
   by_cases hin:i<fl
   ·obtain⟨f,hfi⟩:∃ f,fs[i]?=some f:=⟨_,zV (by omega)⟩
    obtain⟨bf,offf,sx,tx,rfl,hbf,q0,q1,q2,-,-,-,-,-⟩:=fld_at (rFlds_stays.to (Keeps.below hg.out) Hfs.out) hfi
    have hil:(i:Int)<(fl:Int):=by omega
    have hi0:(0:Int)≤(i:Int):=by omega
    have HA:=zZ (hg.out.alloc hgs (.cells #[.string sx,.int .i64 f.2.1,.string tx] 97))
    by_cases h5:f.2.1=5
    ·have h5':(f.2.1 == 5)=true:=by simp[h5]
     obtain⟨v2,hvi⟩:∃ v,o.2.2[i]?=some v:=⟨_,zV (by omega)⟩
     have hTi:=leadT_at (f:=atL L) (fs:=fs) (i:=i) (by omega) hvi
     have hownA:=hown.out.alloc (.cells #[.string sx,.int .i64 f.2.1,.string tx] 97)
     obtain⟨gb,y,rfl,hgb,hgl,hy1,hy2,hy3,hy4⟩:=own_set hownA (p:=i * 3+2) (by omega)
     obtain⟨_,_,z,-,-,hz3,hz4⟩:=chunks_at3 hch.out hTi
     obtain⟨s,ez,-,-,-,hvb⟩:=rVal_open (hz4 (fun _=>True) default)
     simp only[List.cons.injEq,and_true] at ez
     rw[hz3,ez.2.2] at hy1
     injection hy1 with hy1
     subst hy1
     have hlk:=(Hpl.out.below HA.out).look (Hr5.out i f v2 hfi hvi h5) (WalkArith.wf_i64 hvb)
     have hb8:=atL_wf hL8 v2.2.2
     have Hst:=zZ (leadT_yes (f:=atL L) (by omega) hfi hvi h5)
     have Hcl:=zZ (chunks_lead (r:=atL L v2.2.2) hch.out hTi (WalkArith.wf_i64 ⟨by omega,by omega⟩))
     have Hown:=zZ (hy4 (.int .i64 (atL L v2.2.2)))
     have hilv:(i:Int)<(vl:Int):=by omega
     clear hfi hvi h5 hvb hTi hy4 hownA ez hz3 hz4 hb8
     generalize hkk:f.2.1=kk at *
     generalize hrr:v2.2.2=rr at *
     clear hkk
     go_wp2
     go_roundw
     case rel=>
      refine⟨i+1,xs.set (i * 3+2) (.int .i64 (atL L rr)),by omega,by go_num,Hown,zZ ?_,zZ ?_⟩
      ·rw[Hst.out];exact Hcl.out
      ·exact HA.out.setCell (p:=⟨gb,i * 3+2,none⟩) hgb _
     case measure=>simp[intOf];omega
    ·have h5':(f.2.1 == 5)=false:=by simp[h5]
     have Hp:=zZ (leadT_no (f:=atL L) (vs:=o.2.2) (by omega) hfi h5)
     clear hfi h5
     generalize f.2.1=kk at *
     go_wp2
     go_roundw
     case rel=>exact⟨i+1,xs,by omega,by go_num,zZ (hown.out.alloc _),zZ (by rw[Hp.out];exact hch.out),HA⟩
     case measure=>simp[intOf];omega
   ·obtain rfl:i=fl:=by omega
    rw[Hall.out] at hch
    have hlk:=(Hpl.out.below hg.out).look (.inr HoL.out) hid
    have r7:=P7.out.below P7.out.lt hg.out
    have r6:=P6.out.below P6.out.lt hg.out
    have k2:=r7.cell (j:=1) rfl
    have y0:=r6.cell (j:=0) rfl
    have y1:=r6.cell (j:=1) rfl
    have y2:=r6.cell (j:=2) rfl
    have f0:=r6.frozen 0
    have f1:=r6.frozen 1
    have f2:=r6.frozen 2
    have h6lt:=P6.out.lt
    go_wp2
    have P9:=((r6.set 0 (.int .i64 (atL L o.1))).set 1 (.int .i64 (t:Int))).set 2 (.slice A9 vl c9)
    refine ret_cell0 (d:=.struct _) (cs:=[.int .i64 (atL L o.1),.int .i64 (t:Int),.slice A9 vl c9]) rfl P9 rfl rfl rfl rfl rfl ?_
    rw[hfs0,hvl]
    refine⟨A9,c9,xs,by rw[ht],?_,hch.out,?_⟩
    ·refine own_mono (own_keep hown.out fun b h1 h2=>?_) HBx.out.size
     rw[Below.heap_setCell _ _ _ _ (by show b≠w.heap.size+1;omega),Below.heap_setCell _ _ _ _ (by show b≠w.heap.size+1;omega),Below.heap_setCell _ _ _ _ (by show b≠w.heap.size+1;omega)]
    ·have hz9:=HBx.out.trans (hg.out.mono HBx.out.size)
     exact ((hz9.setCell (p:=⟨w.heap.size+1,0,none⟩) (by simp) (.int .i64 (atL L o.1))).setCell (p:=⟨w.heap.size+1,1,none⟩) (by simp) (.int .i64 (t:Int))).setCell (p:=⟨w.heap.size+1,2,none⟩) (by simp) (.slice A9 vl c9)
theorem sweep_ord {g:Gr} (hm:mayG g=true):sweepG g=(g.1,g.2.1.filter (fun o=>decide (o.1∈ordG g)),g.2.2):=sweepG_set hm fun _=>ordG_mem hm
theorem sweep_obj {g:Gr} (hm:mayG g=true) {i:Nat} {x:Int} (h:(ordG g)[i]?=some x):∃ o,o∈(sweepG g).2.1∧o.1=x∧(∀ r∈refsL (sweepG g).1 o,r = -1∨r∈ordG g) ∧
  (canonG g).2.1[i]?=some (atL (ordG g) o.1,o.2.1,leadV (atL (ordG g)) (fldsG (sweepG g).1 o.2.1) o.2.2):=by
 have hx:=List.mem_of_getElem? h
 obtain⟨o,ho,rfl,he⟩:=ord_obj hm hx
 rw[sweep_ord hm]
 refine⟨o,by simp[ho,hx],rfl,fun r hr=>?_,?_⟩
 ·rcases refs_led hm ho r hr with e | e
  ·exact .inl e
  ·exact .inr (ordG_shut hm o.1 hx r (by rw[obj_of hm ho];exact hr) (id_pos hm e))
 ·rw[canon_at hm h,canO,he,atL_at (ordG_nodup hm) h]
structure CanW (b6 base:Nat) (w5:World) (SV v:Value) (objs:List Ob) (xs:List Value) (w:World):Prop where
 bel:Below b6 w5 w
 bx:Blk w b6 28 [SV,v,.slice none 0 0]
 own:w.ownsRow base 53 3 v objs.length xs
 ch:Chunks 3 (rOb (fun b=>base≤b∧b<w.heap.size∧some b≠v.ownBlock) w) xs objs
section
variable {b6 base : Nat} {w5 w wq wa : World} {SV v v' : Value} {objs : List Ob} {xs ys : List Value} {o : Ob} {ob : Obj}
theorem CanW.step (h:CanW b6 base w5 SV v objs xs w) (hb:b6<base) (hq:Below w.heap.size w wq) (ho:rOb (fun b=>w.heap.size≤b∧b<wq.heap.size) wq ys o) (hy:ys.length=3) (hbs:base≤w.heap.size)
  (hg:(wq.alloc ob).grownBy wa v.ownBlock) (hown:wa.ownsRow base 53 3 v' (objs.length+1) (xs++ys)) (hv:v'.ownBlock=v.ownBlock∨v'.ownBlock=some (wq.alloc ob).heap.size):
  Blk wa b6 28 [SV,v,.slice none 0 0]∧CanW b6 base w5 SV v' (objs++[o]) (xs++ys) (wa.setCell ⟨b6,1,none⟩ v'):=by
 have hlo:∀ k,v.ownBlock=some k→base≤k∧k<w.heap.size:=fun k hk=>h.own.lt k hk
 have s1:=hq.size
 have s2:(wq.alloc ob).heap.size=wq.heap.size+1:=by simp
 have s3:=hg.size
 have hbl:=h.bx.lt
 have hB1:Below b6 w5 wq:=h.bel.trans (hq.mono (by omega))
 have hB2:=hB1.alloc (by omega) ob
 have hB3:Below b6 w5 wa:=hB2.grown hg (by omega) (fun k hk=>by have:=(hlo k hk).1;omega)
 have keep:∀ b,b<wq.heap.size→some b≠v.ownBlock→wa.heap[b]?=wq.heap[b]?:=fun b h1 h2=>by rw[hg.block b (by omega) h2,Below.heap_alloc _ _ _ h1]
 have nb6:some b6≠v.ownBlock:=fun e=>by have:=(hlo b6 e.symm).1;omega
 have bxa:Blk wa b6 28 [SV,v,.slice none 0 0]:=by
  show wa.heap[b6]?=_
  rw[keep b6 (by omega) nb6,hq.block b6 hbl]
  exact h.bx
 have nv:∀ b,b<wq.heap.size→some b≠v.ownBlock→some b≠v'.ownBlock:=fun b h1 h2=>by
  rcases hv with e | e
  ·rw[e];exact h2
  ·rw[e];intro e2;injection e2 with e2;omega
 have sz:(wa.setCell ⟨b6,1,none⟩ v').heap.size=wa.heap.size:=by simp
 have kset:∀ b,b≠b6→(wa.setCell ⟨b6,1,none⟩ v').heap[b]?=wa.heap[b]?:=fun b hb=>Below.heap_setCell _ _ _ _ hb
 refine⟨bxa,hB3.setCell (p:=⟨b6,1,none⟩) (zW _) _,bxa.set 1 v',?_,?_⟩
 ·rw[List.length_append]
  exact own_keep hown fun b h1 _=>kset b (by omega)
 ·refine Chunks.append (h.ch.imp fun cs a hr=>rOb_stays.to (fun b hb'=>?_) hr) (Chunks.one hy (rOb_stays.to (fun b hb'=>?_) ho))
  ·obtain⟨c1,c2,c3⟩:=hb'
   refine⟨⟨c1,by omega,nv b (by omega) c3⟩,?_⟩
   rw[kset b (by omega),keep b (by omega) c3,hq.block b c2]
  ·obtain⟨c1,c2⟩:=hb'
   have c3:some b≠v.ownBlock:=fun e=>by have:=(hlo b e.symm).2;omega
   refine⟨⟨by omega,by omega,nv b c2 c3⟩,?_⟩
   rw[kset b (by omega),keep b c2 c3]
end
structure RootW (b6:Nat) (SV vO:Value) (w6:World) (v:Value) (rs:List Int) (w:World):Prop where
 bel:Below b6 w6 w
 kept:∀ b,b<w6.heap.size→b≠b6→w.heap[b]?=w6.heap[b]?
 bx:Blk w b6 28 [SV,vO,v]
 own:w.ownsRow w6.heap.size 3 1 v rs.length (ints rs)
section
variable {b6 : Nat} {w6 w wa : World} {SV vO v v' : Value} {rs : List Int} {x : Int} {ob : Obj}
theorem RootW.step (h:RootW b6 SV vO w6 v rs w) (hb:b6<w6.heap.size) (hg:(w.alloc ob).grownBy wa v.ownBlock) (hown:wa.ownsRow w6.heap.size 3 1 v' (rs.length+1) (ints rs++ints [x])):
  Blk wa b6 28 [SV,vO,v]∧RootW b6 SV vO w6 v' (rs++[x]) (wa.setCell ⟨b6,2,none⟩ v'):=by
 have hlo:∀ k,v.ownBlock=some k→w6.heap.size≤k∧k<w.heap.size:=fun k hk=>h.own.lt k hk
 have s0:=h.bel.size
 have s2:(w.alloc ob).heap.size=w.heap.size+1:=by simp
 have s3:=hg.size
 have keep:∀ b,b<w6.heap.size→wa.heap[b]?=w.heap[b]?:=fun b hb1=>by rw[hg.block b (by omega) (fun e=>by have:=(hlo b e.symm).1;omega),Below.heap_alloc _ _ _ (by omega)]
 have bxa:Blk wa b6 28 [SV,vO,v]:=by
  show wa.heap[b6]?=_
  rw[keep b6 hb]
  exact h.bx
 have kset:∀ b,b≠b6→(wa.setCell ⟨b6,2,none⟩ v').heap[b]?=wa.heap[b]?:=fun b hb=>Below.heap_setCell _ _ _ _ hb
 refine⟨bxa,?_,fun b h1 h2=>by rw[kset b h2,keep b h1,h.kept b h1 h2],bxa.set 2 v',?_⟩
 ·exact ((h.bel.alloc (by omega) ob).grown hg (by omega) (fun k hk=>by have:=(hlo k hk).1;omega)).setCell (p:=⟨b6,2,none⟩) (zW _) _
 ·rw[List.length_append,ints_append]
  exact own_keep hown fun b h1 _=>kset b (by omega)
theorem RootW.all {lo base n nR nS c5 d e:Nat} {w5 W:World} {A5 B C:Option Addr} {s:Sch} {objs:List Ob} {xs:List Value} (hC:CanW b6 base w5 (.slice A5 nS c5) (.slice B n d) objs xs w6) (hb:b6<base)
  (h:RootW b6 (.slice A5 nS c5) (.slice B n d) w6 (.slice C nR e) rs w) (hS:rSch (fun b=>lo≤b∧b<b6) w5 [.slice A5 nS c5] s) (hn:objs.length=n) (hR:rs.length=nR) (hwf:∀ r∈rs,(Lit.int .i64 r).wf=true)
  (hlo:lo≤b6) (hW:∀ b,lo≤b→b<w.heap.size→W.heap[b]?=w.heap[b]?) (hsz:w.heap.size≤W.heap.size):
  rGr (All W) W [.slice A5 nS c5,.slice B n d,.slice C nR e] (s,objs,rs):=by
 have h6:=hC.bx.lt
 have s0:=h.bel.size
 have s5:=hC.bel.size
 have ho:=hC.own
 rw[hn] at ho
 have hr:=h.own
 rw[hR] at hr
 refine rGr_mk (rSch_stays.to (fun b hb=>⟨by show b<_;omega,?_⟩) hS) ?_ ?_
 ·rw[hW b hb.1 (by omega),h.bel.block b hb.2,hC.bel.block b hb.2]
 ·have hlt:=ho.lt
  refine own_rSlice rOb_stays (own_keep ho fun b h1 h2=>?_) hn (hC.ch.imp fun cs o hq=>rOb_stays.to (fun b hb'=>⟨⟨by omega,hb'.2.2⟩,?_⟩) hq)
  ·rw[hW b (by omega) (by omega),h.kept b h2 (by omega)]
  ·rw[hW b (by omega) (by omega),h.kept b hb'.2.1 (by omega)]
 ·exact rIds_stays.to (fun b hb'=>⟨by show b<_;omega,hW b (by omega) (by omega)⟩) (ids_own hr hR hwf)
end
theorem info_obs:(Tryz.prog.info? 53).map (fun i=>(i.zero,i.size,i.bytes))=some (some (.agg #[.int .i64 0,.int .i64 0,.slice none 0 0]),3,40):=by kernel_rfl
theorem canonG_no {g:Gr} (h:mayG g=false):canonG g=([],[],[]):=by rw[canonG,if_neg (by rw[h];decide)]
theorem canonG_yes {g:Gr} (h:mayG g=true):canonG g=(g.1,(ordG g).mapIdx (canO g (ordG g)),g.2.2.map (atL (ordG g))):=if_pos h
theorem root_at {g:Gr} (hm:mayG g=true) {r:Int} (hr:r∈g.2.2):r = -1∨r∈ordG g:=by
 rcases roots_led hm r hr with e | e
 ·exact .inl e
 ·exact .inr (ordG_root hm hr (id_pos hm e))
theorem rGr_none (w:World):rGr (All w) w [.slice none 0 0,.slice none 0 0,.slice none 0 0] ([],[],[]):=rGr_mk ⟨none,0,[],rfl,zW _,Nat.zero_le _,.inl rfl,Chunks.nil⟩ ⟨none,0,[],rfl,zW _,Nat.zero_le _,.inl rfl,Chunks.nil⟩ ⟨none,0,[],rfl,zW _,Nat.zero_le _,.inl rfl,Chunks.nil⟩
theorem canon_any (A B C:Option Addr) (N c M d K e:Nat) (g:Gr) (w:World) (h:rGr (All w) w [.slice A N c,.slice B M d,.slice C K e] g):
  Calls Tryz.prog 20 #[.agg #[.slice A N c,.slice B M d,.slice C K e]] w fun e w'=>∃ A1 c1 B1 d1 C1 e1,e=.returned (.agg #[.slice A1 (canonG g).1.length c1,.slice B1 (canonG g).2.1.length d1,.slice C1 (canonG g).2.2.length e1]) ∧
   rGr (All w') w' [.slice A1 (canonG g).1.length c1,.slice B1 (canonG g).2.1.length d1,.slice C1 (canonG g).2.2.length e1] (canonG g)∧Below w.heap.size w w':=by
 obtain⟨i0,hi,hz0,hz1,hz2⟩:=info_parts info_obs
 obtain⟨j0,hj,hy0,hy1,hy2⟩:=info_parts info_int
 have hB0:Below w.heap.size w ((w.alloc (.cells #[.slice A N c,.slice B M d,.slice C K e] 28)).alloc (.cells #[.slice none 0 0,.slice none 0 0,.slice none 0 0] 28)):=((zA _ w).alloc (zW _) _).alloc (by simp) _
 obtain⟨p1,p2⟩:=blk_two w 28 28 [.slice A N c,.slice B M d,.slice C K e] [.slice none 0 0,.slice none 0 0,.slice none 0 0]
 have T1:=zZ (gmay_any A B C N c M d K e g _ (gr_below hB0 h))
 have HB0:=zZ hB0
 have s0:w.heap.size+2=((w.alloc (.cells #[.slice A N c,.slice B M d,.slice C K e] 28)).alloc (.cells #[.slice none 0 0,.slice none 0 0,.slice none 0 0] 28)).heap.size:=by simp
 clear hB0
 go_enter Tryz.func20,Tryz.ntmps20
 go_wp2_with fail
 refine T1.out.mono ?_
 rintro e w1 ⟨rfl,hB1⟩
 have H1:=zZ (HB0.out.trans (hB1.mono HB0.out.size))
 have s1:w.heap.size+2≤w1.heap.size:=by rw[s0];exact hB1.size
 replace p1:=p1.to hB1
 replace p2:=p2.to hB1
 clear hB1 HB0 T1 s0
 by_cases hm:mayG g=true
 ·rw[hm]
  have T2:=zZ (meet_any A B C N c M d K e g w1 hm (gr_below H1.out h))
  have T3:=zZ (fun W (hW:Below w.heap.size w W)=>gsweep_in A B C N c M d K e g W (gr_below hW h))
  clear h
  have c0:=p1.cell (j:=0) rfl
  have c1:=p1.cell (j:=1) rfl
  have c2:=p1.cell (j:=2) rfl
  go_wp2_with fail
  refine T2.out.mono ?_
  rintro e w2 ⟨A3,c3,Mb,rfl,hown2,hpl2,hMb,hB2⟩
  have H2:=zZ (H1.out.trans (hB2.mono H1.out.size))
  have s2:=hB2.size
  replace p1:=p1.to hB2
  replace p2:=p2.to hB2
  clear c0 c1 c2 hB2 H1 T2
  have c0:=p1.cell (j:=0) rfl
  have c1:=p1.cell (j:=1) rfl
  have c2:=p1.cell (j:=2) rfl
  go_wp2_with fail
  refine (T3.out _ H2.out).mono ?_
  rintro e w3 ⟨A5,c5,B5,d5,C5,e5,rfl,h5,hB3⟩
  have H3:=zZ (H2.out.trans (hB3.mono H2.out.size))
  have s3:=hB3.size
  replace p1:=p1.to hB3
  replace p2:=p2.to hB3
  have hown3:=own_below hown2 hB3
  have hpl3:=hpl2.below hB3
  clear c0 c1 c2 hB3 H2 T3 hown2 hpl2 p1
  go_wp2
  obtain⟨q5,q6⟩:=blk_two w3 28 28 [.slice A5 (sweepG g).1.length c5,.slice B5 (sweepG g).2.1.length d5,.slice C5 (sweepG g).2.2.length e5] [.slice A5 (sweepG g).1.length c5,.slice none 0 0,.slice none 0 0]
  have hB5:Below w3.heap.size w3 ((w3.alloc (.cells #[.slice A5 (sweepG g).1.length c5,.slice B5 (sweepG g).2.1.length d5,.slice C5 (sweepG g).2.2.length e5] 28)).alloc (.cells #[.slice A5 (sweepG g).1.length c5,.slice none 0 0,.slice none 0 0] 28)):=((zA _ w3).alloc (zW _) _).alloc (by simp) _
  have s5:((w3.alloc (.cells #[.slice A5 (sweepG g).1.length c5,.slice B5 (sweepG g).2.1.length d5,.slice C5 (sweepG g).2.2.length e5] 28)).alloc (.cells #[.slice A5 (sweepG g).1.length c5,.slice none 0 0,.slice none 0 0] 28)).heap.size=w3.heap.size+2:=by simp
  generalize (w3.alloc (.cells #[.slice A5 (sweepG g).1.length c5,.slice B5 (sweepG g).2.1.length d5,.slice C5 (sweepG g).2.2.length e5] 28)).alloc (.cells #[.slice A5 (sweepG g).1.length c5,.slice none 0 0,.slice none 0 0] 28)=w5 at *
  have hwfo:∀ x∈ordG g,(Lit.int .i64 x).wf=true:=fun x hx=>by
   obtain⟨o,ho,rfl⟩:=ordG_ids hm x hx
   have:=(mayG_obj hm ho).id0
   have:=(mayG_obj hm ho).id1
   exact WalkArith.wf_i64 ⟨by omega,by omega⟩
  have Hids:Hid (rIds (All w3) w3 [.slice A3 (ordG g).length c3] (ordG g)):=zZ (rIds_stays.to (Keeps.mono fun b hb=>hb.2) (ids_own hown3 rfl hwfo))
  have HswS:=zZ (rGr_open h5).1
  have Hsw:Hid (rGr (All w3) w3 [.slice A5 (sweepG g).1.length c5,.slice B5 (sweepG g).2.1.length d5,.slice C5 (sweepG g).2.2.length e5] (sweepG g)):=zZ (rGr_stays.to (Keeps.mono fun b hb=>hb.2) h5)
  have Hse:Hid (canonG g=((sweepG g).1,(canonG g).2.1,g.2.2.map (atL (ordG g)))):=zZ (by rw[sweep_ord hm,canonG_yes hm])
  have Hrt:Hid (rIds (All w3) w3 [.slice C5 (sweepG g).2.2.length e5] g.2.2):=zZ (by have:=(rGr_open Hsw.out).2.2;rw[sweep_ord hm] at this ⊢;exact this)
  have Hpl:=zZ hpl3
  have h8:=ordG_few hm
  have HB5:=zZ hB5
  have Q5:=zZ q5
  have Q6:=zZ q6
  have P2:=zZ p2
  have Hcl:Hid ((canonG g).2.1.length=(ordG g).length):=zZ (canon_len hm)
  have Hso:=zZ (fun i x=>sweep_obj (i:=i) (x:=x) hm)
  have T4:=zZ (fun o W (hW:Below w3.heap.size w3 W) h1 h2 h3=>renamed_any A5 B5 C5 (sweepG g).1.length c5 (sweepG g).2.1.length d5 (sweepG g).2.2.length e5 (sweepG g) o Mb (ordG g) W (sweepG_may hm) h1 (gr_below hW Hsw.out) (Hpl.out.below hW) h8 h2 h3)
  have hl:=canon_len hm
  clear hown3 h5 hpl3 hwfo hB5 q5 q6 p2
  generalize hS:(sweepG g).1.length=nS at *
  generalize hO:(sweepG g).2.1.length=nO at *
  generalize hR:(sweepG g).2.2.length=nR at *
  generalize hn:(ordG g).length=n at *
  go_loopw [27] (fun iv w'=>∃ (i:Nat) (v:Value) (xs:List Value),i≤n∧iv=.int .i64 (i:Int)∧Hid (CanW (w3.heap.size+1) (w3.heap.size+2) w5 (.slice A5 nS c5) v ((canonG g).2.1.take i) xs w')) (fun iv _=>n - (intOf iv).toNat)
  case atStart=>exact⟨0,.slice none 0 0,[],by omega,rfl,zZ ⟨zA _ _,Q6.out,World.ownsRow_nil _ _ _ _,Chunks.nil⟩⟩
  case round=>
   rename_i iv wr
   obtain⟨i,v,xs,hi',rfl,hC⟩:=hrel
   have hBr:Below w3.heap.size w3 wr:=HB5.out.trans (hC.out.bel.mono (by omega))
   by_cases hin:i<n
   ·obtain⟨x,hx⟩:∃ x,(ordG g)[i]?=some x:=⟨_,zV (by omega)⟩
    obtain⟨b,off,rfl,hb,hx1,hxb⟩:=id_at (ids_below hBr Hids.out) hx
    obtain⟨o,hos,hox,hrefs,hcan⟩:=Hso.out i x hx
    have hxm:o.1∈ordG g:=by rw[hox];exact List.mem_of_getElem? hx
    have hil:(i:Int)<(n:Int):=by omega
    have hi0:(0:Int)≤(i:Int):=by omega
    have T5:=zZ (fun W (hW:Below w3.heap.size w3 W)=>T4.out o W hW hos hxm hrefs)
    rw[hox] at T5
    have hlen:((canonG g).2.1.take i).length=i:=by rw[List.length_take];omega
    have Htk:=zZ (take_at hcan)
    rw[hox] at Htk
    have hat:=atL_wf (L:=ordG g) (by omega) x
    have hot:(Lit.int .i64 o.2.1).wf=true:=by
     have:=mayG_obj (sweepG_may hm) hos
     have h1:=this.t0
     have h2:=this.t1
     have h3:=(slice_len (rGr_open Hsw.out).1).2
     simp only[maxLen] at h3
     exact WalkArith.wf_i64 ⟨by omega,by omega⟩
    have hfl:=leadV_len (atL (ordG g)) (fldsG (sweepG g).1 o.2.1) o.2.2 (mayG_obj (sweepG_may hm) hos).len
    generalize (canonG g).2.1.take i=os at *
    generalize atL (ordG g) x=ax at *
    generalize leadV (atL (ordG g)) (fldsG (sweepG g).1 o.2.1) o.2.2=lv at *
    generalize o.2.1=ot at *
    generalize o.2.2.length=ol at *
    obtain⟨Av,cv,rfl⟩:=own_slice3 hC.out.own
    have HoI:Hid (wr.ownsRow (w3.heap.size+2) 53 3 (.slice Av i cv) i xs):=zZ (by have:=hC.out.own;rwa [hlen] at this)
    have e6:=hC.out.bx.cell (j:=1) rfl
    have Q5r:=Q5.out.below (by omega) hC.out.bel
    have S0:=And.intro e6 (And.intro (Q5r.cell (j:=0) rfl) (And.intro (Q5r.cell (j:=1) rfl) (Q5r.cell (j:=2) rfl)))
    have l6:=hC.out.bx.lt
    have HSt:=zZ (fun (W:World) (hW:Below wr.heap.size wr W)=>And.intro ((hW.cell (p:=⟨w3.heap.size+1,1,none⟩) l6).trans S0.1) (And.intro ((hW.cell (p:=⟨w3.heap.size,0,none⟩) Q5r.lt).trans S0.2.1) (And.intro ((hW.cell (p:=⟨w3.heap.size,1,none⟩) Q5r.lt).trans S0.2.2.1) ((hW.cell (p:=⟨w3.heap.size,2,none⟩) Q5r.lt).trans S0.2.2.2))))
    have HBr:=zZ hBr
    clear hx hcan hrefs hos hxm e6 Q5r hBr T4
    go_wp2
    refine scl_start 9 [(0,true),(1,true),(2,true),(3,true),(4,true),(5,false),(6,false),(7,false),(8,true),(9,false)]
     (fun W=>W.cell? ⟨w3.heap.size+1,1,none⟩=some (.slice Av os.length cv)∧W.cell? ⟨w3.heap.size,0,none⟩=some (.slice A5 nS c5)∧W.cell? ⟨w3.heap.size,1,none⟩=some (.slice B5 nO d5)∧W.cell? ⟨w3.heap.size,2,none⟩=some (.slice C5 nR e5)) (by kernel_rfl) rfl (by kernel_rfl) (fun _ _ _ _ _ h=>h) (HSt.out _ (zA _ wr).drew) (fun hH=>?_)
    repeat (first | (refine scl_yes (v:=?_) rfl rfl ?_ hH ?_;rotate_left;(focus ((rintro W ⟨hW1,hW2,hW3,hW4⟩;go_simp) <;> with_reducible rfl));simp only[Act.put,zY,zX,zQ]) | (refine scl_no rfl rfl hH ?_;simp only[Act.put,zY,zX,zQ]))
    refine scl_call rfl rfl (fun K hK=>?_)
    go_wp2_with (go_at_call 56;refine (T5.out _ (HBr.out.trans ((zA _ wr).drew.mono HBr.out.size))).mono ?_;rintro e wq ⟨Aq,cq,zs,rfl,hownq,hchq,hBq⟩)
    have hQ:Below wr.heap.size wr wq:=((zA wr.heap.size wr).drew).trans (hBq.mono (zW _))
    refine hK.out _ _ (fun _=>HSt.out _ hQ) ?_
    clear hK hH
    refine scl_call rfl rfl (fun K hK=>?_)
    go_wp2
    have hQ2:=hQ.alloc hQ.size (.cells #[.int .i64 ax,.int .i64 ot,.slice Aq ol cq] 53)
    refine hK.out _ _ (fun _=>HSt.out _ hQ2) ?_
    clear hK
    have hH:=HSt.out _ hQ2
    have hval:rOb (fun b=>wr.heap.size≤b∧b<wq.heap.size) wq [.int .i64 ax,.int .i64 ot,.slice Aq ol cq] (ax,ot,lv):=
     rOb_mk (o:=(ax,ot,lv)) (WalkArith.wf_i64 ⟨by show -9223372036854775808≤ax;omega,by show ax≤9223372036854775807;omega⟩) hot (rVals_stays.to (S':=fun b=>wr.heap.size≤b∧b<wq.heap.size) (Keeps.mono fun b hb=>hownq.lt b hb) (own_vals hownq hfl hchq))
    have rdq:=(Blk.new wq 53 [.int .i64 ax,.int .i64 ot,.slice Aq ol cq]).rd
    have sq:=hQ2.size
    have hbs:w3.heap.size+2≤wr.heap.size:=by have:=hC.out.bx.lt;omega
    refine scl_call rfl rfl (fun K hK=>?_)
    refine wp_apps (.tmp 32) (.tmp 37) 25 rfl (w3.heap.size+2) 53 i0 (.agg #[.int .i64 0,.int .i64 0,.slice none 0 0]) 3 40 Tryz.underlying25 hi hz0 hz1 hz2 rfl (by omega) (.slice Av i cv) i xs rfl ((own_below HoI.out hQ).alloc _) (some ⟨wq.heap.size,0,none⟩) 1 1 [.int .i64 ax,.int .i64 ot,.slice Aq ol cq] rfl rfl rdq (by simp[Value.oneCell']) (by simp only[maxLen];omega) (by omega) (by omega) ?_
    intro v4 w4 hown4 hg4 hv4
    obtain⟨bx4,hC4⟩:=hC.out.step (by omega) hQ hval rfl hbs (by rw[hlen];exact hg4) (by rw[hlen];exact hown4) (by rw[hlen];exact hv4)
    obtain⟨A4,c4,rfl⟩:=own_slice3 hown4
    have e4:=bx4.cell (j:=1) rfl
    have f4:=bx4.frozen 1
    have HC4:=zZ hC4
    have S4:=And.intro e4 (And.intro ((hg4.cell (row:=_) (hH.2.1) (fun e=>by have:=(HoI.out.lt w3.heap.size e.symm).1;omega))) (And.intro (hg4.cell hH.2.2.1 (fun e=>by have:=(HoI.out.lt w3.heap.size e.symm).1;omega)) (hg4.cell hH.2.2.2 (fun e=>by have:=(HoI.out.lt w3.heap.size e.symm).1;omega))))
    clear hC4 hown4 hg4 hv4 bx4 hval rdq hownq hchq hC
    refine hK.out _ _ (fun _=>S4) ?_
    clear hK hH
    have hH:=S4
    repeat (first | (refine scl_yes (v:=?_) rfl rfl ?_ hH ?_;rotate_left;(focus ((rintro W ⟨hW1,hW2,hW3,hW4⟩;go_simp) <;> with_reducible rfl));simp only[Act.put,zY,zX,zQ]) | (refine scl_no rfl rfl hH ?_;simp only[Act.put,zY,zX,zQ]))
    refine scl_call rfl rfl (fun K hK=>?_)
    go_wp2
    refine hK.out _ _ (fun h=>absurd rfl h) ?_
    clear hK hH
    refine scl_done ?_
    go_wp2
    go_roundw
    case rel=>exact⟨i+1,_,_,by omega,by go_num,zZ (by rw[Htk.out];exact HC4.out)⟩
    case measure=>simp[intOf];omega
   ·have hin':i=n:=by omega
    rw[List.take_of_length_le (by omega)] at hC
    obtain⟨Av,cv,rfl⟩:=own_slice3 hC.out.own
    have q2:=(Q5.out.below (by omega) hC.out.bel).cell (j:=2) rfl
    have s6:=hC.out.bel.size
    have l6:=hC.out.bx.lt
    rw[hl] at hC
    have HBr:=zZ hBr
    have hlR:(g.2.2.map (atL (ordG g))).length=nR:=by rw[List.length_map];exact (slice_len Hrt.out).1
    have hr3:nR≤3:=by rw[← (slice_len Hrt.out).1];exact (mayG_parts hm).2.2.2.1
    clear hBr Hso T4 hin'
    generalize hos:(canonG g).2.1=os at *
    generalize hrs:g.2.2.map (atL (ordG g))=rs at *
    go_wp2
    go_loopw [44] (fun jv w'=>∃ (j:Nat) (v:Value),j≤nR∧jv=.int .i64 (j:Int)∧Hid (RootW (w3.heap.size+1) (.slice A5 nS c5) (.slice Av n cv) wr v (rs.take j) w')) (fun jv _=>nR - (intOf jv).toNat)
    case atStart=>exact⟨0,.slice none 0 0,by omega,rfl,zZ ⟨zA _ _,fun _ _ _=>rfl,by rw[hl] at *;exact hC.out.bx,World.ownsRow_nil _ _ _ _⟩⟩
    case round=>
     rename World=>wq
     obtain⟨j,v2,hj',rfl,hR⟩:=hrel
     have hBq:Below w3.heap.size w3 wq:=HBr.out.trans (hR.out.bel.mono (by omega))
     by_cases hjn:j<nR
     ·obtain⟨x,hx⟩:∃ x,g.2.2[j]?=some x:=⟨_,zV (by have:=(slice_len Hrt.out).1;omega)⟩
      have hax:rs[j]?=some (atL (ordG g) x):=by rw[← hrs,List.getElem?_map,hx];rfl
      obtain⟨b,off,rfl,hb,hx1,hxb⟩:=id_at (ids_below hBq Hrt.out) hx
      have hlk:=(Hpl.out.below hBq).look (root_at hm (List.mem_of_getElem? hx)) (WalkArith.wf_i64 hxb)
      have hlen:(rs.take j).length=j:=by rw[List.length_take];omega
      have Htk:=zZ (take_at hax)
      obtain⟨A2,c2,rfl⟩:=own_slice3 hR.out.own
      have HoI:Hid (wq.ownsRow wr.heap.size 3 1 (.slice A2 j c2) j (ints (rs.take j))):=zZ (by have:=hR.out.own;rwa [hlen] at this)
      have e6:=hR.out.bx.cell (j:=2) rfl
      rw[hlen] at e6
      have sq:=hR.out.bel.size
      have hjl:(j:Int)<(nR:Int):=by omega
      have hj0:(0:Int)≤(j:Int):=by omega
      clear hx hax hBq
      generalize rs.take j=ra at *
      generalize atL (ordG g) x=ax at *
      go_wp2_with (first
       | (at_builtin;refine wpList_app rfl (.tmp 49) (.tmp 53) 26 rfl wr.heap.size 3 j0 (.int .i64 0) 8 Tryz.underlying26 hj hy0 hy1 hy2 rfl (.slice A2 j c2) j (ints ra) rfl (HoI.out.alloc _) (some ⟨wq.heap.size,0,none⟩) 1 1 (ints [ax]) rfl rfl (lit_ints _ [ax]) (ints_one _) (by simp only[maxLen];omega) (by omega) (by simp;omega) ?_;intro v4 w4 hown4 hg4 hv4;obtain⟨bx4,hR4⟩:=hR.out.step (by omega) (by rw[hlen];exact hg4) (by rw[hlen];exact hown4);obtain⟨A4,c4,rfl⟩:=own_slice3 hown4;have e4:=bx4.cell (j:=2) rfl;have f4:=bx4.frozen 2;have HR4:=zZ hR4;clear hR4 hown4 hg4 hv4 bx4 hlk)
       | fail)
      go_roundw
      case rel=>exact⟨j+1,_,by omega,by go_num,zZ (by rw[Htk.out];exact HR4.out)⟩
      case measure=>simp[intOf];omega
     ·have hjn':j=nR:=by omega
      rw[List.take_of_length_le (by omega)] at hR
      have sq:=hR.out.bel.size
      obtain⟨A2,c2,rfl⟩:=own_slice3 hR.out.own
      have HoI:Hid (RootW (w3.heap.size+1) (.slice A5 nS c5) (.slice Av n cv) wr (.slice A2 nR c2) rs wq):=zZ (by have:=hR.out;rwa [hlR] at this)
      have e0:=HoI.out.bx.cell (j:=0) rfl
      have e1:=HoI.out.bx.cell (j:=1) rfl
      have e2:=HoI.out.bx.cell (j:=2) rfl
      have r2:=P2.out.below P2.out.lt hBq
      have y0:=r2.cell (j:=0) rfl
      have y1:=r2.cell (j:=1) rfl
      have y2:=r2.cell (j:=2) rfl
      have g0:=r2.frozen 0
      have g1:=r2.frozen 1
      have g2:=r2.frozen 2
      have hH9:=zZ (H3.out.trans (hBq.mono H3.out.size))
      clear hBq
      go_wp2
      have P9:=((r2.set 0 (.slice A5 nS c5)).set 1 (.slice Av n cv)).set 2 (.slice A2 nR c2)
      refine ret_cell0 (d:=.struct _) (cs:=[.slice A5 nS c5,.slice Av n cv,.slice A2 nR c2]) rfl P9 rfl rfl rfl rfl rfl ?_
      rw[Hse.out]
      have hwf:∀ r∈rs,(Lit.int .i64 r).wf=true:=fun r hr=>by
       rw[← hrs] at hr
       obtain⟨y,-,rfl⟩:=List.mem_map.1 hr
       have:=atL_wf (L:=ordG g) (by omega) y
       exact WalkArith.wf_i64 ⟨by omega,by omega⟩
      refine⟨A5,c5,Av,cv,A2,c2,?_,?_,?_⟩
      ·show _=Ending.returned (Value.agg #[.slice A5 (sweepG g).1.length c5,.slice Av os.length cv,.slice A2 rs.length c2])
       rw[hS,hl,hlR]
      ·show rGr _ _ [.slice A5 (sweepG g).1.length c5,.slice Av os.length cv,.slice A2 rs.length c2] _
       rw[hS,hl,hlR]
       refine RootW.all (lo:=w2.heap.size) hC.out (by omega) HoI.out (rSch_stays.to (S:=fun b=>w2.heap.size≤b∧b<w3.heap.size) (fun b hb=>⟨⟨hb.1,by omega⟩,?_⟩) HswS.out) hl hlR hwf (by omega) (fun b h1 h2=>?_) (by simp)
       ·exact HB5.out.block b hb.2
       ·rw[Below.heap_setCell _ _ _ _ (by show b≠w.heap.size+1;omega),Below.heap_setCell _ _ _ _ (by show b≠w.heap.size+1;omega),Below.heap_setCell _ _ _ _ (by show b≠w.heap.size+1;omega)]
      ·exact ((hH9.out.setCell (p:=⟨w.heap.size+1,0,none⟩) (by simp) (.slice A5 nS c5)).setCell (p:=⟨w.heap.size+1,1,none⟩) (by simp) (.slice Av n cv)).setCell (p:=⟨w.heap.size+1,2,none⟩) (by simp) (.slice A2 nR c2)
 ·replace hm:mayG g=false:=by simpa using hm
  rw[hm]
  have y0:=p2.cell (j:=0) rfl
  have y1:=p2.cell (j:=1) rfl
  have y2:=p2.cell (j:=2) rfl
  have g0:=p2.frozen 0
  have g1:=p2.frozen 1
  have g2:=p2.frozen 2
  go_wp2
  have P9:=((p2.set 0 (.slice none 0 0)).set 1 (.slice none 0 0)).set 2 (.slice none 0 0)
  refine ret_cell0 (d:=.struct _) (cs:=[.slice none 0 0,.slice none 0 0,.slice none 0 0]) rfl P9 rfl rfl rfl rfl rfl ?_
  rw[canonG_no hm]
  refine⟨none,0,none,0,none,0,rfl,rGr_none _,?_⟩
  exact ((H1.out.setCell (p:=⟨w.heap.size+1,0,none⟩) (by simp) (.slice none 0 0)).setCell (p:=⟨w.heap.size+1,1,none⟩) (by simp) (.slice none 0 0)).setCell (p:=⟨w.heap.size+1,2,none⟩) (by simp) (.slice none 0 0)
end Go.Proofs.YtnljjnkindjeoaaGreatDoor
namespace Go.Proofs.YtnljjnkindjeoaaGreatDoor
open Go.RowKit
theorem sfld_stood:Tryz.prog.stoodInHeld 97=false:=by kernel_rfl
theorem sfld_guard:Tryz.prog.eqGuardType Tryz.prog.depth 97=false:=by kernel_rfl
theorem fld_neq (x1 y1 x2 y2:ByteArray) (k1 k2:Int) (w:World):(binOp .neq 97 (.agg #[.string x1,.int .i64 k1,.string y1]) (.agg #[.string x2,.int .i64 k2,.string y2])).run Tryz.prog w
  = .ok (.bool (!((x1.toList == x2.toList) && (k1 == k2) && (y1.toList == y2.toList)))) w:=by
 have h1:=sfld_stood
 cases e1:(x1.toList == x2.toList) <;> cases e2:(k1 == k2) <;> cases e3:(y1.toList == y2.toList)
 all_goals go_simp
theorem fld_is {x1 y1 x2 y2:ByteArray} {f g:Fld} (h1:byt x1=f.1) (h2:byt y1=f.2.2) (h3:byt x2=g.1) (h4:byt y2=g.2.2):((x1.toList == x2.toList) && (f.2.1 == g.2.1) && (y1.toList == y2.toList))=decide (f=g):=by
 rw[str_beq,str_beq,h1,h2,h3,h4]
 obtain⟨a,k,b⟩:=f
 obtain⟨a',k',b'⟩:=g
 simp only[Prod.mk.injEq]
 by_cases e1:a=a' <;> by_cases e2:k=k' <;> by_cases e3:b=b' <;> simp[e1,e2,e3]
theorem equalF_any (A B:Option Addr) (n c m d:Nat) (l1 l2:List Fld) (w:World) (h1:rFlds (All w) w [.slice A n c] l1) (h2:rFlds (All w) w [.slice B m d] l2):
  Calls Tryz.prog 147 #[.slice A n c,.slice B m d] w fun e w'=>e=.returned (.bool (decide (l1=l2)))∧Below w.heap.size w w':=by
 obtain⟨hn,hnc,hcm⟩:=flds_len h1
 obtain⟨hm,hmd,hdm⟩:=flds_len h2
 simp only[maxLen] at hcm hdm
 by_cases hnm:n=m
 ·subst hnm
  have hnn:((n:Int) != (n:Int))=false:=by simp
  go_enter Tryz.func147,Tryz.ntmps147
  go_wp2
  go_loopw [13] (fun iv w'=>∃ i:Nat,i≤n∧iv=.int .i64 (i:Int)∧Below w.heap.size w w'∧(∀ j,j<i→l1[j]?=l2[j]?)) (fun iv _=>n - (intOf iv).toNat)
  case atStart=>exact⟨0,by omega,rfl,zA _ _,fun j hj=>by omega⟩
  case round=>
   rename_i iv wr
   obtain⟨i,hi,rfl,hB,hsame⟩:=hrel
   by_cases hin:i<n
   ·have hl1:l1[i]?=some l1[i]:=zV (by omega)
    have hl2:l2[i]?=some l2[i]:=zV (by omega)
    obtain⟨b1,off1,x1,y1,rfl,hb1,p1,p2,p3,e1,e2,_,_,_⟩:=fld_at (flds_below hB h1) hl1
    obtain⟨b2,off2,x2,y2,rfl,hb2,q1,q2,q3,f1,f2,_,_,_⟩:=fld_at (flds_below hB h2) hl2
    have hil:(i:Int)<(n:Int):=by omega
    have hi0:(0:Int)≤(i:Int):=by omega
    have hq:∀ W,(binOp .neq 97 (.agg #[.string x1,.int .i64 l1[i].2.1,.string y1]) (.agg #[.string x2,.int .i64 l2[i].2.1,.string y2])).run Tryz.prog W=.ok (.bool (!decide (l1[i]=l2[i]))) W:=fun W=>by rw[fld_neq,fld_is e1 e2 f1 f2]
    have heg:=sfld_guard
    have hne:l1[i]≠l2[i]→decide (l1=l2)=false:=fun he=>zK fun e=>he (by subst e;rfl)
    have heq:l1[i]=l2[i]→∀ j,j<i+1→l1[j]?=l2[j]?:=fun he j hj=>by
     by_cases hji:j<i
     ·exact hsame j hji
     ·obtain rfl:j=i:=by omega
      rw[hl1,hl2,he]
    have Hne:=zZ hne
    have Heq:=zZ heq
    have HB:=zZ hB
    clear hne heq hl1 hl2 hsame e1 e2 f1 f2 hB h1 h2
    generalize l1[i]=F1 at *
    generalize l2[i]=F2 at *
    by_cases he:F1=F2
    ·rw[zJ he] at hq
     have Hq:=zZ (Heq.out he)
     clear Heq Hne he
     generalize F1.2.1=k1 at *
     generalize F2.2.1=k2 at *
     go_wp2
     go_quiet (fail)
     go_wp2
     go_roundw
     case rel=>exact⟨i+1,by omega,by go_num,below_drewN HB.out _,Hq.out⟩
     case measure=>simp[intOf];omega
    ·rw[zK he] at hq
     have Hq:=zZ (Hne.out he)
     clear Heq Hne he
     generalize F1.2.1=k1 at *
     generalize F2.2.1=k2 at *
     go_wp2
     go_quiet (fail)
     go_wp2
     go_ret
     exact⟨by rw[Hq.out];rfl,below_drewN HB.out _⟩
   ·obtain rfl:i=n:=by omega
    have heq:l1=l2:=List.ext_getElem? fun j=>by
     by_cases hj:j<i
     ·exact hsame j hj
     ·rw[List.getElem?_eq_none (by omega),List.getElem?_eq_none (by omega)]
    have hd:decide (l1=l2)=true:=zJ heq
    have Hd:=zZ hd
    clear hd hsame heq
    go_wp2
    go_ret
    exact⟨by rw[Hd.out];rfl,hB⟩
 ·have hd:decide (l1=l2)=false:=zK fun e=>hnm (by subst e;omega)
  have hne:((n:Int) != (m:Int))=true:=by rw[bne_iff_ne];omega
  rw[hd]
  go_enter Tryz.func147,Tryz.ntmps147
  go_wp2
  go_ret
  exact⟨rfl,zA _ _⟩
theorem sameType_any (s t:ByteArray) (A B:Option Addr) (n c m d:Nat) (x y:Typ) (w:World) (hs:byt s=x.1) (ht:byt t=y.1) (h1:rFlds (All w) w [.slice A n c] x.2) (h2:rFlds (All w) w [.slice B m d] y.2):
  Calls Tryz.prog 116 #[.agg #[.string s,.slice A n c],.agg #[.string t,.slice B m d]] w fun e w'=>e=.returned (.bool (decide (x=y)))∧Below w.heap.size w w':=by
 have hB:∀ u v,Below w.heap.size w ((w.alloc (.cells u 82)).alloc (.cells v 82)):=fun u v=>((zA _ w).alloc (zW _) _).alloc (by simp) _
 have T1:=zZ (fun u v=>equalF_any A B n c m d x.2 y.2 ((w.alloc (.cells u 82)).alloc (.cells v 82)) (flds_below (hB _ _) h1) (flds_below (hB _ _) h2))
 have hb:=str_beq s t
 rw[hs,ht] at hb
 have hd:decide (x=y)=(decide (x.1=y.1) && decide (x.2=y.2)):=by
  obtain⟨a,b⟩:=x
  obtain⟨a',b'⟩:=y
  simp only[Prod.mk.injEq]
  by_cases e1:a=a' <;> by_cases e2:b=b' <;> simp[e1,e2]
 have Hd:=zZ hd
 clear hd hs ht h1 h2
 by_cases e1:x.1=y.1
 ·rw[zJ e1] at Hd hb
  clear e1
  go_enter Tryz.func116,Tryz.ntmps116
  go_wp2_with (first | (go_at_call 147;refine (T1.out _ _).mono ?_;rintro e w1 ⟨rfl,hB1⟩) | fail)
  go_ret
  exact⟨by rw[Hd.out];rfl,(hB _ _).trans (hB1.mono (hB _ _).size)⟩
 ·rw[zK e1] at Hd hb
  clear e1
  go_enter Tryz.func116,Tryz.ntmps116
  go_wp2
  go_ret
  exact⟨by rw[Hd.out];rfl,hB _ _⟩
theorem equalT_any (A B:Option Addr) (n c m d:Nat) (l1 l2:Sch) (w:World) (h1:rSch (All w) w [.slice A n c] l1) (h2:rSch (All w) w [.slice B m d] l2):
  Calls Tryz.prog 115 #[.slice A n c,.slice B m d,.func (.func 116) #[] #[]] w fun e w'=>e=.returned (.bool (decide (l1=l2)))∧Below w.heap.size w w':=by
 obtain⟨hn,hnc,hcm⟩:=sch_len h1
 obtain⟨hm,hmd,hdm⟩:=sch_len h2
 simp only[maxLen] at hcm hdm
 by_cases hnm:n=m
 ·subst hnm
  have hnn:((n:Int) != (n:Int))=false:=by simp
  go_enter Tryz.func115,Tryz.ntmps115
  go_wp2
  go_loopw [17] (fun iv w'=>∃ i:Nat,i≤n∧iv=.int .i64 (i:Int)∧Below w.heap.size w w'∧(∀ j,j<i→l1[j]?=l2[j]?)) (fun iv _=>n - (intOf iv).toNat)
  case atStart=>exact⟨0,by omega,rfl,zA _ _,fun j hj=>by omega⟩
  case round=>
   rename_i iv wr
   obtain⟨i,hi,rfl,hB,hsame⟩:=hrel
   by_cases hin:i<n
   ·have hl1:l1[i]?=some l1[i]:=zV (by omega)
    have hl2:l2[i]?=some l2[i]:=zV (by omega)
    obtain⟨b1,off1,x1,A1,c1,rfl,hb1,p1,p2,e1,_,r1⟩:=typ_at (sch_below hB h1) hl1
    obtain⟨b2,off2,x2,A2,c2,rfl,hb2,q1,q2,f1,_,r2⟩:=typ_at (sch_below hB h2) hl2
    have hil:(i:Int)<(n:Int):=by omega
    have hi0:(0:Int)≤(i:Int):=by omega
    have hne:l1[i]≠l2[i]→decide (l1=l2)=false:=fun he=>zK fun e=>he (by subst e;rfl)
    have heq:l1[i]=l2[i]→∀ j,j<i+1→l1[j]?=l2[j]?:=fun he j hj=>by
     by_cases hji:j<i
     ·exact hsame j hji
     ·obtain rfl:j=i:=by omega
      rw[hl1,hl2,he]
    have Hne:=zZ hne
    have Heq:=zZ heq
    have HB:=zZ hB
    clear hne heq hl1 hl2 hsame h1 h2 hB
    generalize l1[i]=F1 at *
    generalize l2[i]=F2 at *
    have hB1:∀ u v,Below wr.heap.size wr ((wr.alloc (.cells u 82)).alloc (.cells v 82)):=fun u v=>((zA _ wr).alloc (zW _) _).alloc (by simp) _
    have S1:=zZ (fun u v=>sameType_any x1 x2 A1 A2 F1.2.length c1 F2.2.length c2 F1 F2 ((wr.alloc (.cells u 82)).alloc (.cells v 82)) e1 f1 (flds_below (hB1 _ _) r1) (flds_below (hB1 _ _) r2))
    have q1':∀ u,(wr.alloc (.cells u 82)).cell? ⟨b2,off2+i * 2,none⟩=some (.string x2):=fun u=>(((zA _ wr).alloc (zW _) (.cells u 82)).cell (p:=⟨b2,off2+i * 2,none⟩) hb2).trans q1
    have q2':∀ u,(wr.alloc (.cells u 82)).cell? ⟨b2,off2+i * 2+1,none⟩=some (.slice A2 F2.2.length c2):=fun u=>(((zA _ wr).alloc (zW _) (.cells u 82)).cell (p:=⟨b2,off2+i * 2+1,none⟩) hb2).trans q2
    clear r1 r2 e1 f1
    by_cases he:F1=F2
    ·rw[zJ he] at S1
     have Hq:=zZ (Heq.out he)
     clear Heq Hne he
     generalize F1.2.length=k1 at *
     generalize F2.2.length=k2 at *
     go_wp2_with (first | (go_at_call 116;refine (S1.out _ _).mono ?_;rintro e w1 ⟨rfl,hB2⟩) | fail)
     go_roundw
     case rel=>exact⟨i+1,by omega,by go_num,HB.out.trans (((hB1 _ _).trans (hB2.mono (hB1 _ _).size)).mono HB.out.size),Hq.out⟩
     case measure=>simp[intOf];omega
    ·rw[zK he] at S1
     have Hq:=zZ (Hne.out he)
     clear Heq Hne he
     generalize F1.2.length=k1 at *
     generalize F2.2.length=k2 at *
     go_wp2_with (first | (go_at_call 116;refine (S1.out _ _).mono ?_;rintro e w1 ⟨rfl,hB2⟩) | fail)
     go_ret
     exact⟨by rw[Hq.out];rfl,HB.out.trans (((hB1 _ _).trans (hB2.mono (hB1 _ _).size)).mono HB.out.size)⟩
   ·obtain rfl:i=n:=by omega
    have heq:l1=l2:=List.ext_getElem? fun j=>by
     by_cases hj:j<i
     ·exact hsame j hj
     ·rw[List.getElem?_eq_none (by omega),List.getElem?_eq_none (by omega)]
    have hd:decide (l1=l2)=true:=zJ heq
    have Hd:=zZ hd
    clear hd hsame heq
    go_wp2
    go_ret
    exact⟨by rw[Hd.out];rfl,hB⟩
 ·have hd:decide (l1=l2)=false:=zK fun e=>hnm (by subst e;omega)
  have hne:((n:Int) != (m:Int))=true:=by rw[bne_iff_ne];omega
  rw[hd]
  go_enter Tryz.func115,Tryz.ntmps115
  go_wp2
  go_ret
  exact⟨rfl,zA _ _⟩
theorem same_any (A B:Option Addr) (n c m d:Nat) (x y:Sch) (w:World) (h1:rSch (All w) w [.slice A n c] x) (h2:rSch (All w) w [.slice B m d] y):
  Calls Tryz.prog 70 #[.agg #[.slice A n c],.agg #[.slice B m d]] w fun e w'=>e=.returned (.bool (decide (x=y)))∧Below w.heap.size w w':=by
 have hB:∀ u v,Below w.heap.size w ((w.alloc (.cells u 24)).alloc (.cells v 24)):=fun u v=>((zA _ w).alloc (zW _) _).alloc (by simp) _
 have T1:=zZ (fun u v=>equalT_any A B n c m d x y ((w.alloc (.cells u 24)).alloc (.cells v 24)) (sch_below (hB _ _) h1) (sch_below (hB _ _) h2))
 clear h1 h2
 generalize decide (x=y)=r at *
 go_enter Tryz.func70,Tryz.ntmps70
 go_wp2_with (first | (go_at_call 115;refine (T1.out _ _).mono ?_;rintro e w1 ⟨rfl,hB1⟩) | fail)
 go_ret
 exact⟨rfl,(hB _ _).trans (hB1.mono (hB _ _).size)⟩
theorem equalV_any (A B:Option Addr) (n c m d:Nat) (l1 l2:List Vl) (w:World) (h1:rVals (All w) w [.slice A n c] l1) (h2:rVals (All w) w [.slice B m d] l2):
  Calls Tryz.prog 117 #[.slice A n c,.slice B m d] w fun e w'=>e=.returned (.bool (decide (l1=l2)))∧Below w.heap.size w w':=by
 obtain⟨hn,hnc,hcm⟩:=slice_len h1
 obtain⟨hm,hmd,hdm⟩:=slice_len h2
 simp only[maxLen] at hcm hdm
 by_cases hnm:n=m
 ·subst hnm
  have hnn:((n:Int) != (n:Int))=false:=by simp
  go_enter Tryz.func117,Tryz.ntmps117
  go_wp2
  go_loopw [13] (fun iv w'=>∃ i:Nat,i≤n∧iv=.int .i64 (i:Int)∧Below w.heap.size w w'∧(∀ j,j<i→l1[j]?=l2[j]?)) (fun iv _=>n - (intOf iv).toNat)
  case atStart=>exact⟨0,by omega,rfl,zA _ _,fun j hj=>by omega⟩
  case round=>
   rename_i iv wr
   obtain⟨i,hi,rfl,hB,hsame⟩:=hrel
   by_cases hin:i<n
   ·have hl1:l1[i]?=some l1[i]:=zV (by omega)
    have hl2:l2[i]?=some l2[i]:=zV (by omega)
    obtain⟨b1,off1,x1,rfl,hb1,p1,p2,p3,e1,_,_,_⟩:=val_at (vals_below hB h1) hl1
    obtain⟨b2,off2,x2,rfl,hb2,q1,q2,q3,f1,_,_,_⟩:=val_at (vals_below hB h2) hl2
    have hil:(i:Int)<(n:Int):=by omega
    have hi0:(0:Int)≤(i:Int):=by omega
    have hq:∀ W,(binOp .neq 47 (.agg #[.int .i64 l1[i].1,.string x1,.int .i64 l1[i].2.2]) (.agg #[.int .i64 l2[i].1,.string x2,.int .i64 l2[i].2.2])).run Tryz.prog W=.ok (.bool (!decide (l1[i]=l2[i]))) W:=fun W=>by rw[vl_neq,vl_is,e1,f1]
    have heg:=sval_guard
    have hne:l1[i]≠l2[i]→decide (l1=l2)=false:=fun he=>zK fun e=>he (by subst e;rfl)
    have heq:l1[i]=l2[i]→∀ j,j<i+1→l1[j]?=l2[j]?:=fun he j hj=>by
     by_cases hji:j<i
     ·exact hsame j hji
     ·obtain rfl:j=i:=by omega
      rw[hl1,hl2,he]
    have Hne:=zZ hne
    have Heq:=zZ heq
    have HB:=zZ hB
    clear hne heq hl1 hl2 hsame e1 f1 hB h1 h2
    generalize l1[i]=F1 at *
    generalize l2[i]=F2 at *
    by_cases he:F1=F2
    ·rw[zJ he] at hq
     have Hq:=zZ (Heq.out he)
     clear Heq Hne he
     generalize F1.1=k1 at *
     generalize F1.2.2=k3 at *
     generalize F2.1=k2 at *
     generalize F2.2.2=k4 at *
     go_wp2
     go_quiet (fail)
     go_wp2
     go_roundw
     case rel=>exact⟨i+1,by omega,by go_num,below_drewN HB.out _,Hq.out⟩
     case measure=>simp[intOf];omega
    ·rw[zK he] at hq
     have Hq:=zZ (Hne.out he)
     clear Heq Hne he
     generalize F1.1=k1 at *
     generalize F1.2.2=k3 at *
     generalize F2.1=k2 at *
     generalize F2.2.2=k4 at *
     go_wp2
     go_quiet (fail)
     go_wp2
     go_ret
     exact⟨by rw[Hq.out];rfl,below_drewN HB.out _⟩
   ·obtain rfl:i=n:=by omega
    have heq:l1=l2:=List.ext_getElem? fun j=>by
     by_cases hj:j<i
     ·exact hsame j hj
     ·rw[List.getElem?_eq_none (by omega),List.getElem?_eq_none (by omega)]
    have hd:decide (l1=l2)=true:=zJ heq
    have Hd:=zZ hd
    clear hd hsame heq
    go_wp2
    go_ret
    exact⟨by rw[Hd.out];rfl,hB⟩
 ·have hd:decide (l1=l2)=false:=zK fun e=>hnm (by subst e;omega)
  have hne:((n:Int) != (m:Int))=true:=by rw[bne_iff_ne];omega
  rw[hd]
  go_enter Tryz.func117,Tryz.ntmps117
  go_wp2
  go_ret
  exact⟨rfl,zA _ _⟩
theorem equalI_any (A B:Option Addr) (n c m d:Nat) (l1 l2:List Int) (w:World) (h1:rIds (All w) w [.slice A n c] l1) (h2:rIds (All w) w [.slice B m d] l2):
  Calls Tryz.prog 39 #[.slice A n c,.slice B m d] w fun e w'=>e=.returned (.bool (decide (l1=l2)))∧Below w.heap.size w w':=by
 obtain⟨hn,hnc,hcm⟩:=slice_len h1
 obtain⟨hm,hmd,hdm⟩:=slice_len h2
 simp only[maxLen] at hcm hdm
 by_cases hnm:n=m
 ·subst hnm
  have hnn:((n:Int) != (n:Int))=false:=by simp
  go_enter Tryz.func39,Tryz.ntmps39
  go_wp2
  go_loopw [13] (fun iv w'=>∃ i:Nat,i≤n∧iv=.int .i64 (i:Int)∧Below w.heap.size w w'∧(∀ j,j<i→l1[j]?=l2[j]?)) (fun iv _=>n - (intOf iv).toNat)
  case atStart=>exact⟨0,by omega,rfl,zA _ _,fun j hj=>by omega⟩
  case round=>
   rename_i iv wr
   obtain⟨i,hi,rfl,hB,hsame⟩:=hrel
   by_cases hin:i<n
   ·have hl1:l1[i]?=some l1[i]:=zV (by omega)
    have hl2:l2[i]?=some l2[i]:=zV (by omega)
    obtain⟨b1,off1,rfl,hb1,p1,_⟩:=id_at (ids_below hB h1) hl1
    obtain⟨b2,off2,rfl,hb2,q1,_⟩:=id_at (ids_below hB h2) hl2
    have hil:(i:Int)<(n:Int):=by omega
    have hi0:(0:Int)≤(i:Int):=by omega
    have hne:l1[i]≠l2[i]→decide (l1=l2)=false:=fun he=>zK fun e=>he (by subst e;rfl)
    have heq:l1[i]=l2[i]→∀ j,j<i+1→l1[j]?=l2[j]?:=fun he j hj=>by
     by_cases hji:j<i
     ·exact hsame j hji
     ·obtain rfl:j=i:=by omega
      rw[hl1,hl2,he]
    have Hne:=zZ hne
    have Heq:=zZ heq
    have HB:=zZ hB
    clear hne heq hl1 hl2 hsame hB h1 h2
    generalize l1[i]=F1 at *
    generalize l2[i]=F2 at *
    by_cases he:F1=F2
    ·have hq:(F1 != F2)=false:=by simp[he]
     have Hq:=zZ (Heq.out he)
     clear Heq Hne he
     go_wp2
     go_quiet (fail)
     go_wp2
     go_roundw
     case rel=>exact⟨i+1,by omega,by go_num,below_drewN HB.out _,Hq.out⟩
     case measure=>simp[intOf];omega
    ·have hq:(F1 != F2)=true:=by simp[he]
     have Hq:=zZ (Hne.out he)
     clear Heq Hne he
     go_wp2
     go_quiet (fail)
     go_wp2
     go_ret
     exact⟨by rw[Hq.out];rfl,below_drewN HB.out _⟩
   ·obtain rfl:i=n:=by omega
    have heq:l1=l2:=List.ext_getElem? fun j=>by
     by_cases hj:j<i
     ·exact hsame j hj
     ·rw[List.getElem?_eq_none (by omega),List.getElem?_eq_none (by omega)]
    have hd:decide (l1=l2)=true:=zJ heq
    have Hd:=zZ hd
    clear hd hsame heq
    go_wp2
    go_ret
    exact⟨by rw[Hd.out];rfl,hB⟩
 ·have hd:decide (l1=l2)=false:=zK fun e=>hnm (by subst e;omega)
  have hne:((n:Int) != (m:Int))=true:=by rw[bne_iff_ne];omega
  rw[hd]
  go_enter Tryz.func39,Tryz.ntmps39
  go_wp2
  go_ret
  exact⟨rfl,zA _ _⟩
theorem sameObj_any (A B:Option Addr) (c d:Nat) (x y:Ob) (w:World) (h1:rVals (All w) w [.slice A x.2.2.length c] x.2.2) (h2:rVals (All w) w [.slice B y.2.2.length d] y.2.2):
  Calls Tryz.prog 72 #[.agg #[.int .i64 x.1,.int .i64 x.2.1,.slice A x.2.2.length c],.agg #[.int .i64 y.1,.int .i64 y.2.1,.slice B y.2.2.length d]] w fun e w'=>e=.returned (.bool (decide (x=y)))∧Below w.heap.size w w':=by
 have hB:∀ u v,Below w.heap.size w ((w.alloc (.cells u 53)).alloc (.cells v 53)):=fun u v=>((zA _ w).alloc (zW _) _).alloc (by simp) _
 have T1:=zZ (fun u v=>equalV_any A B x.2.2.length c y.2.2.length d x.2.2 y.2.2 ((w.alloc (.cells u 53)).alloc (.cells v 53)) (vals_below (hB _ _) h1) (vals_below (hB _ _) h2))
 have hd:decide (x=y)=((x.1 == y.1) && (x.2.1 == y.2.1) && decide (x.2.2=y.2.2)):=by
  obtain⟨a,b,c⟩:=x
  obtain⟨a',b',c'⟩:=y
  simp only[Prod.mk.injEq]
  by_cases e1:a=a' <;> by_cases e2:b=b' <;> by_cases e3:c=c' <;> simp[e1,e2,e3]
 have Hd:=zZ hd
 clear hd h1 h2
 generalize decide (x=y)=r at *
 generalize decide (x.2.2=y.2.2)=m3 at *
 generalize x.2.2.length=xl at *
 generalize y.2.2.length=yl at *
 generalize x.1=x1 at *
 generalize y.1=y1 at *
 generalize x.2.1=x2 at *
 generalize y.2.1=y2 at *
 cases e1:(x1 == y1)
 ·rw[e1] at Hd
  go_enter Tryz.func72,Tryz.ntmps72
  go_wp2
  go_ret
  exact⟨by rw[Hd.out];rfl,hB _ _⟩
 ·cases e2:(x2 == y2)
  ·rw[e1,e2] at Hd
   go_enter Tryz.func72,Tryz.ntmps72
   go_wp2
   go_ret
   exact⟨by rw[Hd.out];rfl,hB _ _⟩
  ·rw[e1,e2] at Hd
   go_enter Tryz.func72,Tryz.ntmps72
   go_wp2_with (first | (go_at_call 117;refine (T1.out _ _).mono ?_;rintro e w1 ⟨rfl,hB1⟩) | fail)
   go_ret
   exact⟨by rw[Hd.out];rfl,(hB _ _).trans (hB1.mono (hB _ _).size)⟩
theorem equalO_any (A B:Option Addr) (n c m d:Nat) (l1 l2:List Ob) (w:World) (h1:rObs (All w) w [.slice A n c] l1) (h2:rObs (All w) w [.slice B m d] l2):
  Calls Tryz.prog 71 #[.slice A n c,.slice B m d,.func (.func 72) #[] #[]] w fun e w'=>e=.returned (.bool (decide (l1=l2)))∧Below w.heap.size w w':=by
 obtain⟨hn,hnc,hcm⟩:=slice_len h1
 obtain⟨hm,hmd,hdm⟩:=slice_len h2
 simp only[maxLen] at hcm hdm
 by_cases hnm:n=m
 ·subst hnm
  have hnn:((n:Int) != (n:Int))=false:=by simp
  go_enter Tryz.func71,Tryz.ntmps71
  go_wp2
  go_loopw [17] (fun iv w'=>∃ i:Nat,i≤n∧iv=.int .i64 (i:Int)∧Below w.heap.size w w'∧(∀ j,j<i→l1[j]?=l2[j]?)) (fun iv _=>n - (intOf iv).toNat)
  case atStart=>exact⟨0,by omega,rfl,zA _ _,fun j hj=>by omega⟩
  case round=>
   rename_i iv wr
   obtain⟨i,hi,rfl,hB,hsame⟩:=hrel
   by_cases hin:i<n
   ·have hl1:l1[i]?=some l1[i]:=zV (by omega)
    have hl2:l2[i]?=some l2[i]:=zV (by omega)
    obtain⟨b1,off1,A1,c1,rfl,hb1,p1,p2,p3,r1,_,_⟩:=ob_at (obs_below hB h1) hl1
    obtain⟨b2,off2,A2,c2,rfl,hb2,q1,q2,q3,r2,_,_⟩:=ob_at (obs_below hB h2) hl2
    have hil:(i:Int)<(n:Int):=by omega
    have hi0:(0:Int)≤(i:Int):=by omega
    have hne:l1[i]≠l2[i]→decide (l1=l2)=false:=fun he=>zK fun e=>he (by subst e;rfl)
    have heq:l1[i]=l2[i]→∀ j,j<i+1→l1[j]?=l2[j]?:=fun he j hj=>by
     by_cases hji:j<i
     ·exact hsame j hji
     ·obtain rfl:j=i:=by omega
      rw[hl1,hl2,he]
    have Hne:=zZ hne
    have Heq:=zZ heq
    have HB:=zZ hB
    clear hne heq hl1 hl2 hsame h1 h2 hB
    generalize l1[i]=F1 at *
    generalize l2[i]=F2 at *
    have hB1:∀ u v,Below wr.heap.size wr ((wr.alloc (.cells u 53)).alloc (.cells v 53)):=fun u v=>((zA _ wr).alloc (zW _) _).alloc (by simp) _
    have S1:=zZ (fun u v=>sameObj_any A1 A2 c1 c2 F1 F2 ((wr.alloc (.cells u 53)).alloc (.cells v 53)) (vals_below (hB1 _ _) r1) (vals_below (hB1 _ _) r2))
    have q1':∀ u,(wr.alloc (.cells u 53)).cell? ⟨b2,off2+i * 3,none⟩=some (.int .i64 F2.1):=fun u=>(((zA _ wr).alloc (zW _) (.cells u 53)).cell (p:=⟨b2,off2+i * 3,none⟩) hb2).trans q1
    have q2':∀ u,(wr.alloc (.cells u 53)).cell? ⟨b2,off2+i * 3+1,none⟩=some (.int .i64 F2.2.1):=fun u=>(((zA _ wr).alloc (zW _) (.cells u 53)).cell (p:=⟨b2,off2+i * 3+1,none⟩) hb2).trans q2
    have q3':∀ u,(wr.alloc (.cells u 53)).cell? ⟨b2,off2+i * 3+2,none⟩=some (.slice A2 F2.2.2.length c2):=fun u=>(((zA _ wr).alloc (zW _) (.cells u 53)).cell (p:=⟨b2,off2+i * 3+2,none⟩) hb2).trans q3
    clear r1 r2 q1 q2 q3
    by_cases he:F1=F2
    ·rw[zJ he] at S1
     have Hq:=zZ (Heq.out he)
     clear Heq Hne he
     generalize F1.2.2.length=k1 at *
     generalize F1.1=k3 at *
     generalize F1.2.1=k5 at *
     generalize F2.2.2.length=k2 at *
     generalize F2.1=k4 at *
     generalize F2.2.1=k6 at *
     go_wp2_with (first | (go_at_call 72;refine (S1.out _ _).mono ?_;rintro e w1 ⟨rfl,hB2⟩) | fail)
     go_roundw
     case rel=>exact⟨i+1,by omega,by go_num,HB.out.trans (((hB1 _ _).trans (hB2.mono (hB1 _ _).size)).mono HB.out.size),Hq.out⟩
     case measure=>simp[intOf];omega
    ·rw[zK he] at S1
     have Hq:=zZ (Hne.out he)
     clear Heq Hne he
     generalize F1.2.2.length=k1 at *
     generalize F1.1=k3 at *
     generalize F1.2.1=k5 at *
     generalize F2.2.2.length=k2 at *
     generalize F2.1=k4 at *
     generalize F2.2.1=k6 at *
     go_wp2_with (first | (go_at_call 72;refine (S1.out _ _).mono ?_;rintro e w1 ⟨rfl,hB2⟩) | fail)
     go_ret
     exact⟨by rw[Hq.out];rfl,HB.out.trans (((hB1 _ _).trans (hB2.mono (hB1 _ _).size)).mono HB.out.size)⟩
   ·obtain rfl:i=n:=by omega
    have heq:l1=l2:=List.ext_getElem? fun j=>by
     by_cases hj:j<i
     ·exact hsame j hj
     ·rw[List.getElem?_eq_none (by omega),List.getElem?_eq_none (by omega)]
    have hd:decide (l1=l2)=true:=zJ heq
    have Hd:=zZ hd
    clear hd hsame heq
    go_wp2
    go_ret
    exact⟨by rw[Hd.out];rfl,hB⟩
 ·have hd:decide (l1=l2)=false:=zK fun e=>hnm (by subst e;omega)
  have hne:((n:Int) != (m:Int))=true:=by rw[bne_iff_ne];omega
  rw[hd]
  go_enter Tryz.func71,Tryz.ntmps71
  go_wp2
  go_ret
  exact⟨rfl,zA _ _⟩
theorem gsame_any (A B C:Option Addr) (N c M d K e:Nat) (A1 B1 C1:Option Addr) (N1 c1 M1 d1 K1 e1:Nat) (g h:Gr) (w:World) (hg:rGr (All w) w [.slice A N c,.slice B M d,.slice C K e] g) (hh:rGr (All w) w [.slice A1 N1 c1,.slice B1 M1 d1,.slice C1 K1 e1] h):
  Calls Tryz.prog 33 #[.agg #[.slice A N c,.slice B M d,.slice C K e],.agg #[.slice A1 N1 c1,.slice B1 M1 d1,.slice C1 K1 e1]] w fun e w'=>e=.returned (.bool (decide (g=h)))∧Below w.heap.size w w':=by
 have hB0:Below w.heap.size w ((w.alloc (.cells #[.slice A N c,.slice B M d,.slice C K e] 28)).alloc (.cells #[.slice A1 N1 c1,.slice B1 M1 d1,.slice C1 K1 e1] 28)):=((zA _ w).alloc (zW _) _).alloc (by simp) _
 obtain⟨p1,p2⟩:=blk_two w 28 28 [.slice A N c,.slice B M d,.slice C K e] [.slice A1 N1 c1,.slice B1 M1 d1,.slice C1 K1 e1]
 have T1:=zZ (fun W (hW:Below w.heap.size w W)=>same_any A A1 N c N1 c1 g.1 h.1 W (sch_below hW (rGr_open hg).1) (sch_below hW (rGr_open hh).1))
 have T2:=zZ (fun W (hW:Below w.heap.size w W)=>equalO_any B B1 M d M1 d1 g.2.1 h.2.1 W (obs_below hW (rGr_open hg).2.1) (obs_below hW (rGr_open hh).2.1))
 have T3:=zZ (fun W (hW:Below w.heap.size w W)=>equalI_any C C1 K e K1 e1 g.2.2 h.2.2 W (ids_below hW (rGr_open hg).2.2) (ids_below hW (rGr_open hh).2.2))
 have Hd:Hid (decide (g=h)=(decide (g.1=h.1) && decide (g.2.1=h.2.1) && decide (g.2.2=h.2.2))):=zZ (by
  obtain⟨a,b,c⟩:=g
  obtain⟨a',b',c'⟩:=h
  simp only[Prod.mk.injEq]
  by_cases e1:a=a' <;> by_cases e2:b=b' <;> by_cases e3:c=c' <;> simp[e1,e2,e3])
 have HB0:=zZ hB0
 clear hB0 hg hh
 generalize decide (g=h)=r at *
 generalize decide (g.1=h.1)=m1 at *
 generalize decide (g.2.1=h.2.1)=m2 at *
 generalize decide (g.2.2=h.2.2)=m3 at *
 go_enter Tryz.func33,Tryz.ntmps33
 go_wp2_with fail
 refine (T1.out _ HB0.out).mono ?_
 rintro e w1 ⟨rfl,hB1⟩
 have H1:=zZ (HB0.out.trans (hB1.mono HB0.out.size))
 replace p1:=p1.to hB1
 replace p2:=p2.to hB1
 clear hB1 HB0
 cases m1
 ·go_wp2
  go_ret
  exact⟨by rw[Hd.out];rfl,H1.out⟩
 have d1:=p1.cell (j:=1) rfl
 have d2:=p2.cell (j:=1) rfl
 go_wp2_with fail
 refine (T2.out _ H1.out).mono ?_
 rintro e w2 ⟨rfl,hB2⟩
 have H2:=zZ (H1.out.trans (hB2.mono H1.out.size))
 replace p1:=p1.to hB2
 replace p2:=p2.to hB2
 clear hB2 H1 d1 d2
 cases m2
 ·go_wp2
  go_ret
  exact⟨by rw[Hd.out];rfl,H2.out⟩
 have d1:=p1.cell (j:=2) rfl
 have d2:=p2.cell (j:=2) rfl
 go_wp2_with fail
 refine (T3.out _ H2.out).mono ?_
 rintro e w3 ⟨rfl,hB3⟩
 have H3:=zZ (H2.out.trans (hB3.mono H2.out.size))
 go_wp2
 go_ret
 exact⟨by rw[Hd.out];rfl,H3.out⟩
end Go.Proofs.YtnljjnkindjeoaaGreatDoor
namespace Go.Proofs.YtnljjnkindjeoaaGreatDoor
open Go.RowKit Go.Maps
end Go.Proofs.YtnljjnkindjeoaaGreatDoor
namespace Go.Proofs.YtnljjnkindjeoaaGreatDoor
open Go.RowKit
theorem info_sch0:(Tryz.prog.info? 24).map (fun i=>(i.zero,i.size))=some (some (.agg #[.slice none 0 0]),1):=by kernel_rfl
def oneS:Sch:=[([97],[([110],2,[]),([111],5,[97])])]
def oneF:List Value:=[.string ⟨#[110]⟩,.int .i64 2,.string ⟨#[]⟩,.string ⟨#[111]⟩,.int .i64 5,.string ⟨#[97]⟩]
theorem sone_any (w:World):Calls Tryz.prog 42 #[] w fun e w'=>∃ A c,e=.returned (.agg #[.slice A 1 c])∧rSch (All w') w' [.slice A 1 c] oneS∧Below w.heap.size w w':=by
 obtain⟨hz,hsz⟩:=zero_of_info info_sch0
 go_enter Tryz.func42,Tryz.ntmps42
 go_wp2
 have b0:=((Blk.new w 24 [.slice (some ⟨w.heap.size+1+1,0,none⟩) 1 1]).alloc (.cells oneF.toArray 97)).alloc (.cells #[.string ⟨#[97]⟩,.slice (some ⟨w.heap.size+1,0,none⟩) 2 2] 82)
 have b1:=(Blk.new (w.alloc (.cells #[.slice (some ⟨w.heap.size+1+1,0,none⟩) 1 1] 24)) 97 oneF).alloc (.cells #[.string ⟨#[97]⟩,.slice (some ⟨w.heap.size+1,0,none⟩) 2 2] 82)
 have b2:=Blk.new ((w.alloc (.cells #[.slice (some ⟨w.heap.size+1+1,0,none⟩) 1 1] 24)).alloc (.cells oneF.toArray 97)) 82 [.string ⟨#[97]⟩,.slice (some ⟨w.heap.size+1,0,none⟩) 2 2]
 have hB:Below w.heap.size w (((w.alloc (.cells #[.slice (some ⟨w.heap.size+1+1,0,none⟩) 1 1] 24)).alloc (.cells oneF.toArray 97)).alloc (.cells #[.string ⟨#[97]⟩,.slice (some ⟨w.heap.size+1,0,none⟩) 2 2] 82)):=(((zA _ w).alloc (zW _) _).alloc (by simp) _).alloc (by simp;omega) _
 simp only[World.size_alloc] at b1 b2
 refine ret_cell0 rfl b0 Tryz.underlying24 rfl hsz rfl rfl ?_
 refine⟨_,_,rfl,?_,hB⟩
 refine⟨_,_,[.string ⟨#[97]⟩,.slice (some ⟨w.heap.size+1,0,none⟩) 2 2],rfl,zW _,by decide,b2.rd,?_⟩
 refine Chunks.one rfl (rTyp_mk (t:=([97],[([110],2,[]),([111],5,[97])])) rfl (by decide) ?_)
 refine⟨_,_,oneF,rfl,zW _,by decide,b1.rd,?_⟩
 exact (Chunks.one (size:=3) (cs:=[.string ⟨#[110]⟩,.int .i64 2,.string ⟨#[]⟩]) (a:=([110],2,[])) rfl (rFld_mk rfl rfl (by decide) (by decide) (by decide))).append
  (Chunks.one (size:=3) (cs:=[.string ⟨#[111]⟩,.int .i64 5,.string ⟨#[97]⟩]) (a:=([111],5,[97])) rfl (rFld_mk rfl rfl (by decide) (by decide) (by decide)))
def fewS (s:Sch) (m:Nat):Bool:=s.all (fun t=>decide (t.2.length≤m)) && decide (s.length≤m)
theorem sfew_any (A:Option Addr) (N c:Nat) (l:Sch) (m:Nat) (w:World) (h:rSch (All w) w [.slice A N c] l):
  Calls Tryz.prog 16 #[.agg #[.slice A N c],.int .i64 (m:Int)] w fun e w'=>e=.returned (.bool (fewS l m))∧Below w.heap.size w w':=by
 obtain⟨hN,hNc,hcm⟩:=sch_len h
 simp only[maxLen] at hcm
 have hB0:Below w.heap.size w (w.alloc (.cells #[.slice A N c] 24)):=(zA _ w).alloc (zW _) _
 have h0:=sch_below hB0 h
 have c0:=(Blk.new w 24 [.slice A N c]).cell (j:=0) rfl
 have hf:fewS l m=(l.all (fun t=>decide (t.2.length≤m)) && decide (N≤m)):=by rw[fewS,hN]
 have Hf:=zZ hf
 clear hf h
 go_enter Tryz.func16,Tryz.ntmps16
 go_wp2
 generalize w.alloc (.cells #[.slice A N c] 24)=w1 at *
 go_loop [5] (fun iv=>∃ i:Nat,i≤N∧iv=.int .i64 (i:Int)∧∀ t∈l.take i,t.2.length≤m) (fun iv=>N - (intOf iv).toNat)
 case atStart=>exact⟨0,by omega,rfl,by simp⟩
 case round=>
  obtain⟨i,hi,rfl,hall⟩:=hrel
  by_cases hin:i<N
  ·have hli:l[i]?=some l[i]:=zV (by omega)
   obtain⟨b,off,s,A2,c2,rfl,hb,hx1,hx2,_,_,hfl⟩:=typ_at h0 hli
   have hlm:l[i].2.length≤9223372036854775807:=by
    have:=flds_len hfl
    simp only[maxLen] at this
    omega
   have hmem:l[i]∈l:=List.getElem_mem _
   have htk:l.take (i+1)=l.take i++[l[i]]:=by rw[List.take_add_one,hli];rfl
   have Hmem:=zZ hmem
   have Htk:=zZ htk
   have Hall:=zZ hall
   clear hmem htk hall hli hfl
   generalize l[i]=t at *
   have hil:(i:Int)<(N:Int):=by omega
   have hi0:(0:Int)≤(i:Int):=by omega
   by_cases hp:t.2.length≤m
   ·have hp':decide ((m:Int)<(t.2.length:Int))=false:=zK (by omega)
    have Hn:Hid (∀ t∈l.take (i+1),t.2.length≤m):=zZ (fun x hx=>by
     rw[Htk.out,List.mem_append,List.mem_singleton] at hx
     rcases hx with hx | rfl
     ·exact Hall.out x hx
     ·exact hp)
    clear Hall Htk Hmem
    generalize t.2.length=n at *
    go_wp2
    go_round
    case rel=>exact⟨i+1,by omega,by go_num,Hn.out⟩
    case measure=>simp[intOf];omega
   ·have hp':decide ((m:Int)<(t.2.length:Int))=true:=zJ (by omega)
    have Hn:Hid (fewS l m=false):=zZ (by
     rw[Hf.out,Bool.and_eq_false_iff,List.all_eq_false]
     exact .inl ⟨t,Hmem.out,by simpa using hp⟩)
    clear Hall Htk Hmem
    generalize t.2.length=n at *
    go_wp2
    go_ret
    exact⟨by rw[Hn.out];rfl,hB0⟩
  ·obtain rfl:i=N:=by omega
   have hr:fewS l m=decide (i≤m):=by
    rw[Hf.out]
    have:l.all (fun t=>decide (t.2.length≤m))=true:=List.all_eq_true.2 fun t ht=>zJ (hall t (by rw[List.take_of_length_le (by omega)];exact ht))
    rw[this,Bool.true_and]
   have Hr:=zZ hr
   clear hr hall Hf
   go_wp2
   go_ret
   exact⟨by rw[Hr.out];simp,hB0⟩
theorem one_may:mayS oneS=true:=by decide
theorem blk_in {S:Nat→Prop} {w:World} {g:Nat} {t:TypeId} {cs:List Value} (h:Blk w g t cs) (hS:S g):RdIn S w (some ⟨g,0,none⟩) cs:=.inr ⟨g,0,rfl,hS,fun j u hu=>by rw[Nat.zero_add];exact h.cell hu⟩
theorem sone_own (w:World):Calls Tryz.prog 42 #[] w fun e w'=>∃ A c,e=.returned (.agg #[.slice A 1 c])∧rSch (fun b=>w.heap.size≤b∧b<w'.heap.size) w' [.slice A 1 c] oneS∧Below w.heap.size w w':=by
 obtain⟨hz,hsz⟩:=zero_of_info info_sch0
 go_enter Tryz.func42,Tryz.ntmps42
 go_wp2
 have b0:=((Blk.new w 24 [.slice (some ⟨w.heap.size+1+1,0,none⟩) 1 1]).alloc (.cells oneF.toArray 97)).alloc (.cells #[.string ⟨#[97]⟩,.slice (some ⟨w.heap.size+1,0,none⟩) 2 2] 82)
 have b1:=(Blk.new (w.alloc (.cells #[.slice (some ⟨w.heap.size+1+1,0,none⟩) 1 1] 24)) 97 oneF).alloc (.cells #[.string ⟨#[97]⟩,.slice (some ⟨w.heap.size+1,0,none⟩) 2 2] 82)
 have b2:=Blk.new ((w.alloc (.cells #[.slice (some ⟨w.heap.size+1+1,0,none⟩) 1 1] 24)).alloc (.cells oneF.toArray 97)) 82 [.string ⟨#[97]⟩,.slice (some ⟨w.heap.size+1,0,none⟩) 2 2]
 have hB:Below w.heap.size w (((w.alloc (.cells #[.slice (some ⟨w.heap.size+1+1,0,none⟩) 1 1] 24)).alloc (.cells oneF.toArray 97)).alloc (.cells #[.string ⟨#[97]⟩,.slice (some ⟨w.heap.size+1,0,none⟩) 2 2] 82)):=(((zA _ w).alloc (zW _) _).alloc (by simp) _).alloc (by simp;omega) _
 simp only[World.size_alloc] at b1 b2
 refine ret_cell0 rfl b0 Tryz.underlying24 rfl hsz rfl rfl ?_
 refine⟨_,_,rfl,?_,hB⟩
 refine⟨_,_,[.string ⟨#[97]⟩,.slice (some ⟨w.heap.size+1,0,none⟩) 2 2],rfl,zW _,by decide,blk_in b2 ⟨by omega,b2.lt⟩,?_⟩
 refine Chunks.one rfl (rTyp_mk (t:=([97],[([110],2,[]),([111],5,[97])])) rfl (by decide) ?_)
 refine⟨_,_,oneF,rfl,zW _,by decide,blk_in b1 ⟨by omega,b1.lt⟩,?_⟩
 exact (Chunks.one (size:=3) (cs:=[.string ⟨#[110]⟩,.int .i64 2,.string ⟨#[]⟩]) (a:=([110],2,[])) rfl (rFld_mk rfl rfl (by decide) (by decide) (by decide))).append
  (Chunks.one (size:=3) (cs:=[.string ⟨#[111]⟩,.int .i64 5,.string ⟨#[97]⟩]) (a:=([111],5,[97])) rfl (rFld_mk rfl rfl (by decide) (by decide) (by decide)))
def fewG (g:Gr):Bool:=fewS g.1 10 && decide (g.2.1.length≤12) && decide (g.2.2.length≤10) && g.2.1.all fun o=>decide (o.2.2.length≤10)
theorem gfew_any (A B C:Option Addr) (N c M d K e:Nat) (g:Gr) (w:World) (h:rGr (All w) w [.slice A N c,.slice B M d,.slice C K e] g):Calls Tryz.prog 5 #[.agg #[.slice A N c,.slice B M d,.slice C K e]] w fun e w'=>e=.returned (.bool (fewG g))∧Below w.heap.size w w':=by
 obtain⟨hM,hMd,hdm⟩:=slice_len (rGr_open h).2.1
 obtain⟨hK,hKe,hem⟩:=slice_len (rGr_open h).2.2
 simp only[maxLen] at hdm hem
 have hB0:Below w.heap.size w (w.alloc (.cells #[.slice A N c,.slice B M d,.slice C K e] 28)):=(zA _ w).alloc (zW _) _
 have p1:=Blk.new w 28 [.slice A N c,.slice B M d,.slice C K e]
 have T1:=zZ (sfew_any A N c g.1 10 _ (sch_below hB0 (rGr_open h).1))
 have Hv:Hid (fewG g=(fewS g.1 10 && decide (g.2.1.length≤12) && decide (g.2.2.length≤10) && g.2.1.all fun o=>decide (o.2.2.length≤10))):=zZ rfl
 rw[hM,hK] at Hv
 have HB0:=zZ hB0
 have Hg:=zZ (fun W (hW:Below w.heap.size w W)=>(rGr_open (gr_below hW h)).2.1)
 clear hB0 h
 generalize fewG g=r at *
 generalize fewS g.1 10=m1 at *
 go_enter Tryz.func5,Tryz.ntmps5
 go_wp2_with fail
 refine T1.out.mono ?_
 rintro e w1 ⟨rfl,hB1⟩
 have H1:=zZ (HB0.out.trans (hB1.mono HB0.out.size))
 replace p1:=p1.to hB1
 clear hB1 HB0 T1
 cases m1
 ·go_wp2
  go_ret
  exact⟨by rw[Hv.out];rfl,H1.out⟩
 have c1:=p1.cell (j:=1) rfl
 have c2:=p1.cell (j:=2) rfl
 by_cases h12:M≤12
 ·have h12':decide ((12:Int)<(M:Int))=false:=by simp;omega
  by_cases h10:K≤10
  ·have h10':decide ((10:Int)<(K:Int))=false:=by simp;omega
   have Hv2:Hid (r=(g.2.1.drop 0).all fun o=>decide (o.2.2.length≤10)):=zZ (by rw[Hv.out,zJ h12,zJ h10,List.drop_zero];rfl)
   clear Hv
   go_wp2
   go_loopw [4] (fun iv w'=>∃ i:Nat,i≤M∧iv=.int .i64 (i:Int)∧w'=w1∧Hid (r=(g.2.1.drop i).all fun o=>decide (o.2.2.length≤10))) (fun iv _=>M - (intOf iv).toNat)
   case atStart=>exact⟨0,by omega,rfl,rfl,Hv2⟩
   case round=>
    rename_i iv wr
    obtain⟨i,hi,rfl,rfl,hr⟩:=hrel
    clear Hv2
    by_cases hin:i<M
    ·obtain⟨o,hoi⟩:∃ o,g.2.1[i]?=some o:=⟨_,zV (by omega)⟩
     obtain⟨b,off,A2,c2',rfl,hb,-,-,x2,-,-,-⟩:=ob_at (Hg.out _ H1.out) hoi
     have hil:(i:Int)<(M:Int):=by omega
     have hi0:(0:Int)≤(i:Int):=by omega
     have hr':=hr.out
     rw[all_at hoi] at hr'
     have Hr:=zZ hr'
     clear hr hr' hoi
     generalize o.2.2.length=vl at *
     by_cases hv:vl≤10
     ·have hv':decide ((10:Int)<(vl:Int))=false:=by simp;omega
      rw[zJ hv,Bool.true_and] at Hr
      clear hv
      go_wp2
      go_roundw
      case rel=>exact⟨i+1,by omega,by go_num,by trivial,Hr⟩
      case measure=>simp[intOf];omega
     ·have hv':decide ((10:Int)<(vl:Int))=true:=by simp;omega
      rw[zK hv,Bool.false_and] at Hr
      clear hv
      go_wp2
      go_ret
      exact⟨by rw[Hr.out];rfl,H1.out⟩
    ·obtain rfl:i=M:=by omega
     have hr':=hr.out
     rw[all_end (by omega)] at hr'
     clear hr
     go_wp2
     go_ret
     exact⟨by rw[hr'];rfl,H1.out⟩
  ·have h10':decide ((10:Int)<(K:Int))=true:=by simp;omega
   rw[zK h10,Bool.and_false,Bool.false_and] at Hv
   clear h10
   go_wp2
   go_ret
   exact⟨by rw[Hv.out];rfl,H1.out⟩
 ·have h12':decide ((12:Int)<(M:Int))=true:=by simp;omega
  rw[zK h12,Bool.and_false,Bool.false_and,Bool.false_and] at Hv
  clear h12
  go_wp2
  go_ret
  exact⟨by rw[Hv.out];rfl,H1.out⟩
theorem rhas_any (A:Option Addr) (n c:Nat) (l:List Int) (x:Int) (w:World) (h:rIds (All w) w [.slice A n c] l):
  Calls Tryz.prog 113 #[.slice A n c,.int .i64 x] w fun e w'=>e=.returned (.bool (decide (x∈l)))∧w'=w:=by
 obtain⟨hn,hnc,hcm⟩:=slice_len h
 simp only[maxLen] at hcm
 go_enter Tryz.func113,Tryz.ntmps113
 go_wp2
 go_loopw [5] (fun iv w'=>∃ i:Nat,i≤n∧iv=.int .i64 (i:Int)∧w'=w∧∀ j,j<i→l[j]?≠some x) (fun iv _=>n - (intOf iv).toNat)
 case atStart=>exact⟨0,by omega,rfl,rfl,fun j hj=>by omega⟩
 case round=>
  obtain⟨i,hi,rfl,rfl,hno⟩:=hrel
  by_cases hin:i<n
  ·obtain⟨y,hy⟩:∃ y,l[i]?=some y:=⟨_,zV (by omega)⟩
   obtain⟨b,off,rfl,hb,hc,-⟩:=id_at h hy
   have hil:(i:Int)<(n:Int):=by omega
   have hi0:(0:Int)≤(i:Int):=by omega
   by_cases he:y=x
   ·have he':(y == x)=true:=by simp[he]
    have Hr:Hid (decide (x∈l)=true):=zZ (zJ (by rw[← he];exact List.mem_of_getElem? hy))
    clear hno he hy
    go_wp2
    go_ret
    exact⟨by rw[Hr.out];rfl,rfl⟩
   ·have he':(y == x)=false:=by simp[he]
    have Hr:Hid (∀ j,j<i+1→l[j]?≠some x):=zZ fun j hj=>by
     by_cases hji:j<i
     ·exact hno j hji
     ·obtain rfl:j=i:=by omega
      rw[hy]
      simpa using he
    clear hno he hy
    go_wp2
    go_roundw
    case rel=>exact⟨i+1,by omega,by go_num,by trivial,Hr.out⟩
    case measure=>simp[intOf];omega
  ·obtain rfl:i=n:=by omega
   have Hr:Hid (decide (x∈l)=false):=zZ (zK fun hx=>by
    obtain⟨j,hj⟩:=List.getElem?_of_mem hx
    exact hno j (by have:=(List.getElem?_eq_some_iff.1 hj).1;omega) hj)
   clear hno
   go_wp2
   go_ret
   exact⟨by rw[Hr.out];rfl,rfl⟩
theorem rints_any (A B:Option Addr) (n c m d:Nat) (l1 l2:List Int) (w:World) (h1:rIds (All w) w [.slice A n c] l1) (h2:rIds (All w) w [.slice B m d] l2):
  Calls Tryz.prog 36 #[.slice A n c,.slice B m d] w fun e w'=>e=.returned (.bool (decide (l1=l2)))∧Below w.heap.size w w':=by
 obtain⟨hn,hnc,hcm⟩:=slice_len h1
 obtain⟨hm,hmd,hdm⟩:=slice_len h2
 simp only[maxLen] at hcm hdm
 by_cases hnm:n=m
 ·subst hnm
  have hnn:((n:Int) != (n:Int))=false:=by simp
  go_enter Tryz.func36,Tryz.ntmps36
  go_wp2
  go_loopw [5] (fun iv w'=>∃ i:Nat,i≤n∧iv=.int .i64 (i:Int)∧Below w.heap.size w w'∧(∀ j,j<i→l1[j]?=l2[j]?)) (fun iv _=>n - (intOf iv).toNat)
  case atStart=>exact⟨0,by omega,rfl,zA _ _,fun j hj=>by omega⟩
  case round=>
   rename_i iv wr
   obtain⟨i,hi,rfl,hB,hsame⟩:=hrel
   by_cases hin:i<n
   ·have hl1:l1[i]?=some l1[i]:=zV (by omega)
    have hl2:l2[i]?=some l2[i]:=zV (by omega)
    obtain⟨b1,off1,rfl,hb1,p1,_⟩:=id_at (ids_below hB h1) hl1
    obtain⟨b2,off2,rfl,hb2,q1,_⟩:=id_at (ids_below hB h2) hl2
    have hil:(i:Int)<(n:Int):=by omega
    have hi0:(0:Int)≤(i:Int):=by omega
    have hne:l1[i]≠l2[i]→decide (l1=l2)=false:=fun he=>zK fun e=>he (by subst e;rfl)
    have heq:l1[i]=l2[i]→∀ j,j<i+1→l1[j]?=l2[j]?:=fun he j hj=>by
     by_cases hji:j<i
     ·exact hsame j hji
     ·obtain rfl:j=i:=by omega
      rw[hl1,hl2,he]
    have Hne:=zZ hne
    have Heq:=zZ heq
    have HB:=zZ hB
    clear hne heq hl1 hl2 hsame hB h1 h2
    generalize l1[i]=F1 at *
    generalize l2[i]=F2 at *
    by_cases he:F1=F2
    ·have hq:(F1 != F2)=false:=by simp[he]
     have Hq:=zZ (Heq.out he)
     clear Heq Hne he
     go_wp2
     go_quiet (fail)
     go_wp2
     go_roundw
     case rel=>exact⟨i+1,by omega,by go_num,below_drewN HB.out _,Hq.out⟩
     case measure=>simp[intOf];omega
    ·have hq:(F1 != F2)=true:=by simp[he]
     have Hq:=zZ (Hne.out he)
     clear Heq Hne he
     go_wp2
     go_quiet (fail)
     go_wp2
     go_ret
     exact⟨by rw[Hq.out];rfl,below_drewN HB.out _⟩
   ·obtain rfl:i=n:=by omega
    have heq:l1=l2:=List.ext_getElem? fun j=>by
     by_cases hj:j<i
     ·exact hsame j hj
     ·rw[List.getElem?_eq_none (by omega),List.getElem?_eq_none (by omega)]
    have hd:decide (l1=l2)=true:=zJ heq
    have Hd:=zZ hd
    clear hd hsame heq
    go_wp2
    go_ret
    exact⟨by rw[Hd.out];rfl,hB⟩
 ·have hd:decide (l1=l2)=false:=zK fun e=>hnm (by subst e;omega)
  have hne:((n:Int) != (m:Int))=true:=by rw[bne_iff_ne];omega
  rw[hd]
  go_enter Tryz.func36,Tryz.ntmps36
  go_wp2
  go_ret
  exact⟨rfl,zA _ _⟩
theorem rgfind_any (A B C:Option Addr) (N c M d K e:Nat) (g:Gr) (n:Int) (w:World) (h:rGr (All w) w [.slice A N c,.slice B M d,.slice C K e] g):
  Calls Tryz.prog 31 #[.agg #[.slice A N c,.slice B M d,.slice C K e],.int .i64 n] w fun e w'=>e=.returned (.int .i64 (findG g.2.1 n))∧Below w.heap.size w w':=by
 obtain⟨hM,hMd,hdm⟩:=slice_len (rGr_open h).2.1
 simp only[maxLen] at hdm
 have hB0:Below w.heap.size w (w.alloc (.cells #[.slice A N c,.slice B M d,.slice C K e] 28)):=(zA _ w).alloc (zW _) _
 have c0:=(Blk.new w 28 [.slice A N c,.slice B M d,.slice C K e]).cell (j:=1) rfl
 have h0:=(rGr_open (gr_below hB0 h)).2.1
 clear h
 go_enter Tryz.func31,Tryz.ntmps31
 go_wp2
 generalize w.alloc (.cells #[.slice A N c,.slice B M d,.slice C K e] 28)=w1 at *
 go_loop [5] (fun iv=>∃ i:Nat,i≤M∧iv=.int .i64 (i:Int)∧∀ j o,j<i→g.2.1[j]?=some o→decide (o.1=n)=false) (fun iv=>M - (intOf iv).toNat)
 case atStart=>exact⟨0,by omega,rfl,fun j o hj=>by omega⟩
 case round=>
  obtain⟨i,hi,rfl,hno⟩:=hrel
  by_cases hin:i<M
  ·obtain⟨o,ho⟩:∃ o,g.2.1[i]?=some o:=⟨_,zV (by omega)⟩
   obtain⟨b,off,A2,c2,rfl,hb,x0,-,-,-,-,-⟩:=ob_at h0 ho
   have hil:(i:Int)<(M:Int):=by omega
   have hi0:(0:Int)≤(i:Int):=by omega
   by_cases he:o.1=n
   ·have he':(o.1 == n)=true:=by simp[he]
    have Hr:Hid (findG g.2.1 n=(i:Int)):=(idxP_iff _ g.2.1 i).2 ⟨⟨o,ho,zJ he⟩,fun j b hj hb=>hno j b hj hb⟩
    clear hno he ho
    generalize o.1=ov at *
    go_wp2
    go_ret
    exact⟨by rw[Hr.out];rfl,hB0⟩
   ·have he':(o.1 == n)=false:=by simp[he]
    have Hr:Hid (∀ j o,j<i+1→g.2.1[j]?=some o→decide (o.1=n)=false):=fun j p hj hp=>by
     by_cases hji:j<i
     ·exact hno j p hji hp
     ·obtain rfl:j=i:=by omega
      rw[ho] at hp
      injection hp with hp
      subst hp
      exact zK he
    clear hno he ho
    generalize o.1=ov at *
    go_wp2
    go_round
    case rel=>exact⟨i+1,by omega,by go_num,Hr.out⟩
    case measure=>simp[intOf];omega
  ·obtain rfl:i=M:=by omega
   have Hr:Hid (findG g.2.1 n = -1):=(idxP_none _ g.2.1).2 fun o ho=>by
    obtain⟨j,hj⟩:=List.getElem?_of_mem ho
    have:=(List.getElem?_eq_some_iff.1 hj).1
    exact hno j o (by omega) hj
   clear hno
   go_wp2
   go_ret
   exact⟨by rw[Hr.out];rfl,hB0⟩
end Go.Proofs.YtnljjnkindjeoaaGreatDoor
