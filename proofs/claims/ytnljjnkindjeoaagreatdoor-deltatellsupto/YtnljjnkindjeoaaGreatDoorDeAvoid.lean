/- A graph is not read out of a block that holds nothing but slices. No condition. -/
import Derived.Test.YtnljjnkindjeoaaGreatDoorGGraph
import Derived.Test.YtnljjnkindjeoaaGreatDoorAl
namespace Go.Proofs.YtnljjnkindjeoaaGreatDoor
open Go.RowKit
def Shy (w:World) (z:Nat):Prop:=∀ j v,w.cell? ⟨z,j,none⟩=some v→∃ A n c,v=.slice A n c
theorem blk_shy {w:World} {z:Nat} {t:TypeId} (h:Blk w z t [.slice none 0 0,.slice none 0 0,.slice none 0 0]):Shy w z:=by
 intro j v e
 rw[cell_of_row w z j _ t (0,0) h] at e
 match j with
 | 0=>exact⟨none,0,0,by simpa using e.symm⟩
 | 1=>exact⟨none,0,0,by simpa using e.symm⟩
 | 2=>exact⟨none,0,0,by simpa using e.symm⟩
 | j+3=>simp at e
theorem avoid_slice {α:Type} {R:Reader α} {size:Nat} {S:Nat→Prop} {w:World} {z:Nat} {cs:List Value} {l:List α} (hz:Shy w z) (hs:0<size) (h1:∀ cs a,R S w cs a→∃ u,cs[0]?=some u∧∀ A n c,u≠.slice A n c)
  (h2:∀ cs a,R S w cs a→R (fun b=>S b∧b≠z) w cs a) (h:rSlice size R S w cs l):rSlice size R (fun b=>S b∧b≠z) w cs l:=by
 obtain⟨A,c,xs,hv,hc,hm,hr,hl,hch⟩:=h
 refine⟨A,c,xs,hv,hc,hm,?_,hl,fun i f hi=>h2 _ _ (hch i f hi)⟩
 rcases hr with h | ⟨b,off,e,hb,hcell⟩
 ·exact .inl h
 ·cases l with
  | nil=>exact .inl (List.eq_nil_of_length_eq_zero (by simpa using hl))
  | cons f l=>
   refine .inr ⟨b,off,e,⟨hb,?_⟩,hcell⟩
   rintro rfl
   obtain⟨u,hu,hn⟩:=h1 _ _ (hch 0 f rfl)
   rw[Nat.zero_mul,List.drop_zero,List.getElem?_take_of_lt hs] at hu
   obtain⟨A',n',c',e'⟩:=hz _ _ (hcell 0 u hu)
   exact hn _ _ _ e'
section
variable {S : Nat → Prop} {w : World} {z : Nat} {cs : List Value}
theorem first_int {k:IntKind} {x:Int} (h:rInt k S w (cs.take 1) x):∃ u,cs[0]?=some u∧∀ A n c,u≠.slice A n c:=by
 have:=congrArg (fun l:List Value=>l[0]?) h.1
 simp only[List.getElem?_take_of_lt Nat.zero_lt_one] at this
 exact⟨_,this,fun _ _ _ e=>by cases e⟩
theorem first_nm {x:List Nat} (h:rNm S w (cs.take 1) x):∃ u,cs[0]?=some u∧∀ A n c,u≠.slice A n c:=by
 obtain⟨s,h1,-⟩:=h
 have:=congrArg (fun l:List Value=>l[0]?) h1
 simp only[List.getElem?_take_of_lt Nat.zero_lt_one] at this
 exact⟨_,this,fun _ _ _ e=>by cases e⟩
theorem avoid_gr {g:Gr} (hz:Shy w z) (h:rGr S w cs g):rGr (fun b=>S b∧b≠z) w cs g:=by
 obtain⟨h0,h1,h2,h3,h4⟩:=h
 refine⟨h0,avoid_slice hz (by decide) (fun cs a hr=>first_nm hr.2.1) (fun cs a hr=>⟨hr.1,hr.2.1,avoid_slice hz (by decide) (fun cs a hr=>first_nm hr.2.1) (fun cs a hr=>hr) hr.2.2⟩) h1,h2,?_,?_⟩
 ·exact avoid_slice hz (by decide) (fun cs a hr=>first_int hr.2.1) (fun cs a hr=>⟨hr.1,hr.2.1,hr.2.2.1,hr.2.2.2.1,avoid_slice hz (by decide) (fun cs a hr=>first_int hr.2.1) (fun cs a hr=>hr) hr.2.2.2.2⟩) h3
 ·refine avoid_slice hz (by decide) (fun cs a hr=>⟨.int .i64 a,by rw[hr.1];rfl,fun _ _ _ e=>by cases e⟩) (fun cs a hr=>hr) h4
end
end Go.Proofs.YtnljjnkindjeoaaGreatDoor
