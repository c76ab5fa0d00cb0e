/- From the row's reading of a schema whose bulk is bounded to a schema whose names are as short. Over any program. No condition. -/
import Derived.Test.YtnljjnkindjeoaaGreatDoorGGen
import Derived.Test.YtnljjnkindjeoaaGreatDoorAl
namespace Go.Proofs.YtnljjnkindjeoaaGreatDoor
open Go.RowKit Go.ChangeShapes
theorem bulk_mem {H:Type}:∀ {l:List (DataW H)} {d:DataW H},d∈l→Rows.uptoBulk d≤Rows.uptoBulkAll l
 | [],d,h=>by simp at h
 | a :: l,d,h=>by
  rw[Rows.uptoBulkAll]
  rcases List.mem_cons.1 h with rfl | h
  ·omega
  ·have:=bulk_mem h;omega
structure OpensP {α:Type} (P:Program) (t:TypeId) (size:Nat) (R:Reader α) (B:Nat→α→Prop):Prop where
 cells:P.cellsOf t=size
 opens:∀ {H:Type} {enc:TypeId × Value→H} {w:World} {base:Nat} {spare:Nat→Bool} {held:Bool} {fuel:Nat} {cs:List Value} {x:DataW H × List MemPlace} (M:Nat),
  DataW.trod enc P w base spare held fuel t cs=some x→Rows.uptoBulk x.1≤M→∃ a,R (All w) w cs a∧B M a
section
variable {P : Program} {t : TypeId}
theorem opensP_int {k:IntKind} (ht:P.underlying t=some (.int k)) (hc:P.cellsOf t=1):OpensP P t 1 (rInt k) (fun _ _=>True):=
 ⟨hc,fun _ h _=>by obtain⟨n,h1,_,h2⟩:=DataW.trod_int ht h;exact⟨n,⟨h1,h2⟩,trivial⟩⟩
theorem opensP_nm (ht:P.underlying t=some .string) (hc:P.cellsOf t=1):OpensP P t 1 rNm (fun M n=>n.length≤M):=
 ⟨hc,fun M h hM=>by
  obtain⟨s,h1,h3,h2⟩:=DataW.trod_string ht h
  refine⟨byt s,⟨s,h1,rfl,h2⟩,?_⟩
  rw[h3] at hM
  simp only[Rows.uptoBulk] at hM
  show (s.data.toList.map UInt8.toNat).length≤M
  rw[List.length_map]
  omega⟩
theorem opensP_slice {α:Type} {e:TypeId} {size:Nat} {R:Reader α} {B:Nat→α→Prop} (ht:P.underlying t=some (.slice e)) (hc:P.cellsOf t=1) (h0:0<size) (hR:OpensP P e size R B):OpensP P t 1 (rSlice size R) (fun M l=>∀ a∈l,B M a):=by
 refine⟨hc,fun {H enc w base spare held fuel cs x} M h hM=>?_⟩
 rcases DataW.trod_slice ht h with⟨rfl,_⟩ | ⟨ad,len,cap,elems,rest,n,_,rfl,hxe,_,hl,hm,hel,he,_⟩
 ·exact⟨[],⟨none,0,[],rfl,zW _,Nat.zero_le _,.inl rfl,Chunks.nil⟩,by simp⟩
 ·rw[hR.cells] at he
  rw[hxe] at hM
  simp only[Rows.uptoBulk] at hM
  have each:∀ i,i<len→∃ (a:α) (ds:List Value),w.cells? base (ad.add (i * size)) size=some ds∧R (All w) w ds a∧B M a:=fun i hi=>by
   have h1:=he i hi
   rw[zV (by omega),Option.bind_eq_some_iff] at h1
   obtain⟨ds,h2,h3⟩:=h1
   have hb:=bulk_mem (l:=elems.map (·.1)) (d:=elems[i].1) (List.mem_map.2 ⟨_,List.getElem_mem _,rfl⟩)
   obtain⟨a,ha⟩:=hR.opens M h3 (by omega)
   exact⟨a,ds,h2,ha⟩
  by_cases hz:len=0
  ·subst hz
   exact⟨[],⟨some ad,cap,[],rfl,hl,hm,.inl rfl,Chunks.nil⟩,by simp⟩
  ·obtain⟨b,off,sp⟩:=ad
   have hsp:sp=none∧b<w.heap.size:=by
    obtain⟨_,ds,h2,_⟩:=each 0 (by omega)
    rw[Nat.zero_mul] at h2
    have h3:=World.cells?_block h2 h0
    obtain⟨_,h4,h5⟩:=World.cells?_some h2
    have h6:=h5 0 h0
    rw[zV (by omega)] at h6
    have h7:=World.cell?_spot h6
    exact⟨by simpa [Addr.add] using h7,by simpa [Addr.add] using h3⟩
   obtain⟨rfl,hb⟩:=hsp
   obtain⟨xs,l,hll,hx,hch⟩:=flat_of (R:=fun cs a=>R (All w) w cs a∧B M a) (w:=w) (b:=b) (off:=off) len fun i hi=>by
    obtain⟨a,ds,h2,h3⟩:=each i hi
    obtain⟨_,h4,h5⟩:=World.cells?_some h2
    refine⟨a,ds,h4,fun j u hu=>?_,h3⟩
    have:=h5 j (by have:=(List.getElem?_eq_some_iff.1 hu).1;omega)
    rw[addr_add,addr_add,hu] at this
    exact this
   refine⟨l,⟨some ⟨b,off,none⟩,cap,xs,by rw[hll],by omega,hm,.inr ⟨b,off,rfl,hb,hx⟩,hch.imp fun _ _ h=>h.1⟩,fun a ha=>?_⟩
   obtain⟨i,hi⟩:=List.getElem?_of_mem ha
   exact (hch.2 i a hi).2
theorem opensP_struct1 {α:Type} {f:Field} {s1:Nat} {R:Reader α} {B:Nat→α→Prop} (ht:P.underlying t=some (.struct #[f])) (hc:P.cellsOf t=s1) (hf:f.offset=0) (hR:OpensP P f.type s1 R B):OpensP P t s1 R B:=by
 refine⟨hc,fun M h hM=>?_⟩
 obtain⟨xs,n,_,hxe,hl,hx,he⟩:=DataW.trod_struct ht h
 have h1:=he 0 f rfl
 simp only[List.size_toArray,List.length_cons,List.length_nil] at hx
 rw[zV (by omega),hf,hR.cells,List.drop_zero,take_all (by omega)] at h1
 rw[hxe] at hM
 simp only[Rows.uptoBulk] at hM
 have hb:=bulk_mem (l:=xs.map (·.1)) (d:=xs[0].1) (List.mem_map.2 ⟨_,List.getElem_mem _,rfl⟩)
 exact hR.opens M h1 (by omega)
theorem opensP_struct2 {α β:Type} {f g:Field} {s1 s2:Nat} {R:Reader α} {S:Reader β} {B:Nat→α→Prop} {C:Nat→β→Prop} (ht:P.underlying t=some (.struct #[f,g])) (hc:P.cellsOf t=s1+s2) (hf:f.offset=0) (hg:g.offset=s1) (hR:OpensP P f.type s1 R B) (hS:OpensP P g.type s2 S C):
  OpensP P t (s1+s2) (rBoth s1 R S) (fun M x=>B M x.1∧C M x.2):=by
 refine⟨hc,fun M h hM=>?_⟩
 obtain⟨xs,n,_,hxe,hl,hx,he⟩:=DataW.trod_struct ht h
 have h1:=he 0 f rfl
 have h2:=he 1 g rfl
 simp only[List.size_toArray,List.length_cons,List.length_nil] at hx
 rw[zV (by omega),hf,hR.cells,List.drop_zero] at h1
 rw[zV (by omega),hg,hS.cells,take_all (by rw[List.length_drop];omega)] at h2
 rw[hxe] at hM
 simp only[Rows.uptoBulk] at hM
 have hb1:=bulk_mem (l:=xs.map (·.1)) (d:=xs[0].1) (List.mem_map.2 ⟨_,List.getElem_mem _,rfl⟩)
 have hb2:=bulk_mem (l:=xs.map (·.1)) (d:=xs[1].1) (List.mem_map.2 ⟨_,List.getElem_mem _,rfl⟩)
 obtain⟨a,ha,hba⟩:=hR.opens M h1 (by omega)
 obtain⟨b,hb,hbb⟩:=hS.opens M h2 (by omega)
 exact⟨(a,b),⟨by rw[List.length_take];omega,ha,hb⟩,hba,hbb⟩
theorem opensP_struct3 {α β γ:Type} {f g i:Field} {s1 s2 s3:Nat} {R:Reader α} {S:Reader β} {T:Reader γ} {B:Nat→α→Prop} {C:Nat→β→Prop} {D:Nat→γ→Prop} (ht:P.underlying t=some (.struct #[f,g,i])) (hc:P.cellsOf t=s1+(s2+s3)) (hf:f.offset=0) (hg:g.offset=s1) (hi:i.offset=s1+s2)
  (hR:OpensP P f.type s1 R B) (hS:OpensP P g.type s2 S C) (hT:OpensP P i.type s3 T D):OpensP P t (s1+(s2+s3)) (rBoth s1 R (rBoth s2 S T)) (fun M x=>B M x.1∧C M x.2.1∧D M x.2.2):=by
 refine⟨hc,fun M h hM=>?_⟩
 obtain⟨xs,n,_,hxe,hl,hx,he⟩:=DataW.trod_struct ht h
 have h1:=he 0 f rfl
 have h2:=he 1 g rfl
 have h3:=he 2 i rfl
 simp only[List.size_toArray,List.length_cons,List.length_nil] at hx
 rw[zV (by omega),hf,hR.cells,List.drop_zero] at h1
 rw[zV (by omega),hg,hS.cells] at h2
 rw[zV (by omega),hi,hT.cells,take_all (by rw[List.length_drop];omega),← List.drop_drop] at h3
 rw[hxe] at hM
 simp only[Rows.uptoBulk] at hM
 have hb1:=bulk_mem (l:=xs.map (·.1)) (d:=xs[0].1) (List.mem_map.2 ⟨_,List.getElem_mem _,rfl⟩)
 have hb2:=bulk_mem (l:=xs.map (·.1)) (d:=xs[1].1) (List.mem_map.2 ⟨_,List.getElem_mem _,rfl⟩)
 have hb3:=bulk_mem (l:=xs.map (·.1)) (d:=xs[2].1) (List.mem_map.2 ⟨_,List.getElem_mem _,rfl⟩)
 obtain⟨a,ha,hba⟩:=hR.opens M h1 (by omega)
 obtain⟨b,hb,hbb⟩:=hS.opens M h2 (by omega)
 obtain⟨d,hd,hbd⟩:=hT.opens M h3 (by omega)
 exact⟨(a,b,d),⟨by rw[List.length_take];omega,ha,by rw[List.length_take,List.length_drop];omega,hb,hd⟩,hba,hbb,hbd⟩
end
end Go.Proofs.YtnljjnkindjeoaaGreatDoor
