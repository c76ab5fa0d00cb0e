/- What delta's Make stands on: rows of items that grow, ids that are not read out of a delta's box, what is set of an item. No condition. -/
import Derived.Test.YtnljjnkindjeoaaGreatDoorDeItem
import Derived.Test.YtnljjnkindjeoaaGreatDoorDeMap
import Derived.Test.YtnljjnkindjeoaaGreatDoorDeAvoid
import Derived.Test.YtnljjnkindjeoaaGreatDoorCoSum
import Derived.Test.YtnljjnkindjeoaaGreatDoorAl
namespace Go.Proofs.YtnljjnkindjeoaaGreatDoor
open Go.RowKit Go.Maps
section
variable {α : Type} {R : Reader α} {b j n n' size : Nat} {t e : TypeId} {cs xs ys zs : List Value} {w0 w wq wa : World} {v v' : Value} {ob : Obj} {es : List α} {o : α}
theorem RowIn.grown (h:RowIn b j t e size cs w0 v n xs w):w0.grownBy w (some b):=⟨h.bel.os,h.bel.tape,h.bel.output,h.bel.size,fun k h1 h2=>h.kept k h1 (by simpa using h2)⟩
theorem RowIn.els (hR:Stays R) (h:RowIn b j t e size cs w0 v n xs w) (hb:b<w0.heap.size) (hch:Chunks size (R (fun k=>w0.heap.size≤k∧k<w.heap.size∧some k≠v.ownBlock) w) xs es) (hq:Below w.heap.size w wq)
  (ho:R (fun k=>w.heap.size≤k∧k<wq.heap.size) wq zs o) (hz:zs.length=size) (hg:(wq.alloc ob).grownBy wa v.ownBlock) (hv:v'.ownBlock=v.ownBlock∨v'.ownBlock=some (wq.alloc ob).heap.size):
  Chunks size (R (fun k=>w0.heap.size≤k∧k<(wa.setCell ⟨b,j,none⟩ v').heap.size∧some k≠v'.ownBlock) (wa.setCell ⟨b,j,none⟩ v')) (xs++zs) (es++[o]):=by
 have hlo:∀ k,v.ownBlock=some k→w0.heap.size≤k∧k<w.heap.size:=fun k hk=>h.own.lt k hk
 have s0:=h.bel.size
 have s1:=hq.size
 have s2:(wq.alloc ob).heap.size=wq.heap.size+1:=by simp
 have s3:=hg.size
 have keep:∀ k,k<wq.heap.size→some k≠v.ownBlock→wa.heap[k]?=wq.heap[k]?:=fun k h1 h2=>by rw[hg.block k (by omega) h2,Below.heap_alloc _ _ _ h1]
 have nv:∀ k,k<wq.heap.size→some k≠v.ownBlock→some k≠v'.ownBlock:=fun k h1 h2=>by
  rcases hv with e | e
  ·rw[e];exact h2
  ·rw[e];intro e2;injection e2 with e2;omega
 have sz:(wa.setCell ⟨b,j,none⟩ v').heap.size=wa.heap.size:=by simp
 have kset:∀ k,k≠b→(wa.setCell ⟨b,j,none⟩ v').heap[k]?=wa.heap[k]?:=fun k hk=>Below.heap_setCell _ _ _ _ hk
 refine Chunks.append (hch.imp fun cs a hr=>hR.to (fun k hk=>?_) hr) (Chunks.one hz (hR.to (fun k hk=>?_) ho))
 ·obtain⟨c1,c2,c3⟩:=hk
  refine⟨⟨c1,by omega,nv k (by omega) c3⟩,?_⟩
  rw[kset k (by omega),keep k (by omega) c3,hq.block k c2]
 ·obtain⟨c1,c2⟩:=hk
  have c3:some k≠v.ownBlock:=fun e=>by have:=(hlo k e.symm).2;omega
  refine⟨⟨by omega,by omega,nv k c2 c3⟩,?_⟩
  rw[kset k (by omega),keep k c2 c3]
end
theorem ids_avoid {S:Nat→Prop} {w:World} {z:Nat} {t:TypeId} {cs:List Value} {l:List Int} (hz:Blk w z t [.int .u32 0,.slice none 0 0,.slice none 0 0]) (h:rIds S w cs l):rIds (fun b=>S b∧b≠z) w cs l:=by
 obtain⟨A,c,xs,hv,hc,hm,hr,hl,hch⟩:=h
 refine⟨A,c,xs,hv,hc,hm,?_,hl,hch⟩
 rcases hr with h | ⟨b,off,e,hb,hcell⟩
 ·exact .inl h
 ·cases l with
  | nil=>exact .inl (List.eq_nil_of_length_eq_zero (by simpa using hl))
  | cons f l=>
   refine .inr ⟨b,off,e,⟨hb,?_⟩,hcell⟩
   rintro rfl
   have h0:=(hch 0 f rfl).1
   have hx:xs[0]?=some (.int .i64 f):=by
    have:=congrArg (fun l:List Value=>l[0]?) h0
    simpa [List.getElem?_take,List.getElem?_drop] using this
   have:=hcell 0 _ hx
   rw[cell_of_row w b _ _ t (0,0) hz] at this
   match off with
   | 0=>simp at this
   | 1=>simp at this
   | 2=>simp at this
   | off+3=>simp at this
theorem codeS_wf {g:Gr} (hok:OkG g):(Lit.int .u32 (codeS g:Int)).wf=true:=by
 have hb:codeS g<4294967296:=by
  rw[codeS]
  split
  ·rename_i h
   have hm:=codeE_may h
   exact sumL_lt (lensB_byte (parts_byte (canon_may hm) (canon_ok hok)))
  ·omega
 exact WalkArith.wf_u32 ⟨by omega,by omega⟩
theorem dlt_none (w:World):rDlt (All w) w [.int .u32 0,.slice none 0 0,.slice none 0 0] (0,[],[]):=
 rDlt_mk (x:=(0,[],[])) (by decide) ⟨none,0,[],rfl,zW _,Nat.zero_le _,.inl rfl,Chunks.nil⟩ ⟨none,0,[],rfl,zW _,Nat.zero_le _,.inl rfl,Chunks.nil⟩
theorem info_itm:(Tryz.prog.info? 50).map (fun i=>(i.zero,i.size,i.bytes))=some (some (.agg #[.int .i64 0,.int .i64 0,.slice none 0 0]),3,40):=by kernel_rfl
theorem setD_item {a b:Gr} (hb:mayG b=true) {i:Nat} {x:Int} (hx:(ordG b)[i]?=some x):(atL (ordG a) x,(objG b.2.1 x).2.1,setD (atL (ordG a) x) (objG a.2.1 x).2.2 (objG b.2.1 x).2.2 (canO b (ordG b) i x).2.2)=itemD a b i x:=by
 obtain⟨p,hp,hpx,hpb⟩:=ord_obj hb (List.mem_of_getElem? hx)
 have hcl:(canO b (ordG b) i x).2.2.length=(objG b.2.1 x).2.2.length:=leadV_len _ _ _ (by rw[hpb];exact (mayG_obj hb hp).len)
 have h0:=idxP_low (fun y=>decide (y=x)) (ordG a)
 rw[itemD,setD]
 by_cases h1:atL (ordG a) x = -1
 ·rw[if_pos h1,zJ (by omega:atL (ordG a) x<0),setK_new hcl]
 ·rw[if_neg h1,zK (by unfold atL at *;omega:¬ atL (ordG a) x<0),setK_old hcl]
theorem makeE_may {a b:Gr} (h:(mayG a && mayG b)=false):makeE a b=1:=by rw[makeE,if_neg (by rw[h];decide)]
theorem makeE_kind {a b:Gr} (h:(mayG a && mayG b)=true) (hk:kindG a b=false):makeE a b=6:=by rw[makeE,if_pos h,if_neg (by rw[hk];decide)]
theorem makeE_code {a b:Gr} (h:(mayG a && mayG b)=true) (hk:kindG a b=true):makeE a b=codeE a:=by rw[makeE,if_pos h,if_pos hk]
theorem makeD_no {a b:Gr} (h:makeE a b≠0):makeD a b=(0,[],[]):=if_neg h
theorem makeD_yes {a b:Gr} (h:makeE a b=0):makeD a b=((codeS a:Int),(canonG b).2.2,(ordG b).mapIdx (itemD a b)):=if_pos h
theorem item_place {a b:Gr} (ha:mayG a=true) (hb:mayG b=true) (hk:kindG a b=true) {i:Nat} {x:Int} (hx:(ordG b)[i]?=some x) (h1:atL (ordG a) x≠-1):
  ∃ (I:Nat) (o:Ob) (J:Nat) (p:Ob),findG a.2.1 x=(I:Int)∧a.2.1[I]?=some o∧o.1=x∧findG b.2.1 x=(J:Int)∧b.2.1[J]?=some p∧p.1=x∧o.2.2.length=(canO b (ordG b) i x).2.2.length∧p.2.2.length=(canO b (ordG b) i x).2.2.length:=by
 have hxb:=List.mem_of_getElem? hx
 have h0:=idxP_low (fun y=>decide (y=x)) (ordG a)
 have hxa:x∈ordG a:=at_in (by unfold atL at *;omega)
 obtain⟨p,hp,hpx,hpb⟩:=ord_obj hb hxb
 obtain⟨o,ho,hox,hob⟩:=ord_obj ha hxa
 obtain⟨I,hI1,hI2⟩:=obj_place ha ho
 obtain⟨J,hJ1,hJ2⟩:=obj_place hb hp
 have lp:=(mayG_obj hb hp).len
 have lo:=(mayG_obj ha ho).len
 have hcl:(canO b (ordG b) i x).2.2.length=(objG b.2.1 x).2.2.length:=leadV_len _ _ _ (by rw[hpb];exact lp)
 have hty:=kind_typ ha hb hk hxa hxb
 have hsch:=kind_sch hk
 rw[hpb] at hcl
 rw[hob,hpb] at hty
 refine⟨I,o,J,p,by rw[← hox];exact hI1,hI2,hox,by rw[← hpx];exact hJ1,hJ2,hpx,?_,hcl.symm⟩
 rw[hcl,← lo,← lp,hty,hsch]
end Go.Proofs.YtnljjnkindjeoaaGreatDoor
