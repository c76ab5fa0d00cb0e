/- The map of places, and the contracts of delta's isPlace, placesOf, placeIn and placesNow. Conditions: what each lemma names. -/
import Derived.Test.YtnljjnkindjeoaaGreatDoorDeProg
import Derived.Test.YtnljjnkindjeoaaGreatDoorDeMem
import Derived.Test.YtnljjnkindjeoaaGreatDoorGCanon
import Derived.Test.YtnljjnkindjeoaaGreatDoorGGraph
import Derived.Test.YtnljjnkindjeoaaGreatDoorAl
set_option maxRecDepth 100000
set_option maxHeartbeats 4000000
namespace Go.Proofs.YtnljjnkindjeoaaGreatDoor
open Go.RowKit Go.Maps
def MpM (w:World) (b n:Nat) (f:Int→Option Int):Prop:=∃ D:DataW Unit,w.ownsMap Tryz.prog 3 (plainElem Tryz.prog 3) b n D ∧
 ∀ x,(Lit.int .i64 x).wf=true→Maps.has D (.int .i64 x)=(f x).isSome∧∀ y,f x=some y→D.atKey (.int .i64 x) (.lit (.int .i64 0))=.lit (.int .i64 y)
section
variable {w w' : World} {b n : Nat} {f g : Int → Option Int}
theorem MpM.kept {row:Option Nat} (h:MpM w b n f) (hg:w.grownBy w' row) (hn:some b≠row):MpM w' b n f:=by
 obtain⟨D,h1,h2⟩:=h
 exact⟨D,h1.kept hg hn,h2⟩
theorem MpM.below (h:MpM w b n f) (hB:Below w.heap.size w w'):MpM w' b n f:=h.kept (below_grown hB none) (by simp)
theorem MpM.nil (h:w.ownsMap Tryz.prog 3 (plainElem (H:=Unit) Tryz.prog 3) b 0 (.map [])):MpM w b 0 (fun _=>none):=
 ⟨_,h,fun x _=>⟨by simp[Maps.has],fun y hy=>by cases hy⟩⟩
theorem MpM.add {D:DataW Unit} {x y:Int} (h:w.ownsMap Tryz.prog 3 (plainElem Tryz.prog 3) b n (D.put (.int .i64 x) (.lit (.int .i64 y)))) (hm:IsMap D)
  (hh:∀ z,(Lit.int .i64 z).wf=true→Maps.has D (.int .i64 z)=(f z).isSome∧∀ y,f z=some y→D.atKey (.int .i64 z) (.lit (.int .i64 0))=.lit (.int .i64 y)):MpM w b n (fun z=>if z=x then some y else f z):=by
 refine⟨_,h,fun z hz=>?_⟩
 by_cases e:z=x
 ·subst e
  refine⟨by rw[has_put_same hm (by trivial)];simp,fun y' hy=>?_⟩
  replace hy:(if z=z then some y else f z)=some y':=hy
  rw[if_pos rfl] at hy
  injection hy with hy
  subst hy
  rw[atKey_put_same hm (by trivial)]
 ·obtain⟨h1,h2⟩:=hh z hz
  refine⟨by rw[has_put_other (by simpa using e),h1];simp[e],fun y' hy=>?_⟩
  replace hy:(if z=x then some y else f z)=some y':=hy
  rw[if_neg e] at hy
  rw[atKey_put_other (by simpa using e),h2 y' hy]
theorem MpM.more (h:MpM w b n f):MpM w b (n+1) f:=by
 obtain⟨D,h1,h2⟩:=h
 exact⟨D,h1.mono (Nat.le_succ _),h2⟩
theorem MpM.congr (h:MpM w b n f) (e:∀ x,(Lit.int .i64 x).wf=true→f x=g x):MpM w b n g:=by
 obtain⟨D,h1,h2⟩:=h
 exact⟨D,h1,fun x hx=>by rw[← e x hx];exact h2 x hx⟩
end
theorem isPlaceD_any (i n:Int) (w:World):Calls Tryz.prog 146 #[.int .i64 i,.int .i64 n] w fun e w'=>e=.returned (.bool (decide (0≤i) && decide (i<n)))∧w'=w:=by
 by_cases h:0≤i
 ·have h':decide (0≤i)=true:=zJ h
  rw[h',Bool.true_and]
  go_enter Tryz.func146,Tryz.ntmps146
  go_wp2
  go_ret
  exact⟨rfl,rfl⟩
 ·have h':decide (0≤i)=false:=zK h
  rw[h',Bool.false_and]
  go_enter Tryz.func146,Tryz.ntmps146
  go_wp2
  go_ret
  exact⟨rfl,rfl⟩
theorem placeIn_any (Mb n:Nat) (f:Int→Option Int) (x o:Int) (w:World) (h:MpM w Mb n f) (hx:(Lit.int .i64 x).wf=true):
  Calls Tryz.prog 24 #[.map (some Mb),.int .i64 x,.int .i64 o] w fun e w'=>e=.returned (.int .i64 ((f x).getD o))∧w'=w:=by
 obtain⟨D,hown,hhas⟩:=h
 obtain⟨hh,hv⟩:=hhas x hx
 have hkey:keyOf Tryz.prog 3 (.int .i64 x)=some (.int .i64 x):=keyOf_int_mk Tryz.underlying3 hx
 clear hhas
 cases hf:f x with
 | none=>
  rw[hf] at hh
  clear hv hf
  go_enter Tryz.func24,Tryz.ntmps24
  go_wp2_with (first
   | (at_lookup;refine wpList_lookup_own_ok_int _ rfl _ _ 58 rfl 3 3 .i64 come_law Tryz.underlying58 Tryz.underlying3 (int_zero _) Mb n D rfl hown _ _ rfl hkey ?_;intro cc hat hwc;rw[hh])
   | fail)
  go_ret
  exact⟨rfl,rfl⟩
 | some y=>
  have hy:=hv y hf
  rw[hf] at hh
  clear hv hf
  go_enter Tryz.func24,Tryz.ntmps24
  go_wp2_with (first
   | (at_lookup;refine wpList_lookup_own_ok_int _ rfl _ _ 58 rfl 3 3 .i64 come_law Tryz.underlying58 Tryz.underlying3 (int_zero _) Mb n D rfl hown _ _ rfl hkey ?_;intro cc hat hwc;rw[hh];obtain rfl:y=cc:=(Lit.int.inj (DataW.lit.inj (hy.symm.trans hat))).2;clear hat)
   | fail)
  go_ret
  exact⟨rfl,rfl⟩
def atF (L:List Int) (x:Int):Option Int:=if atL L x<0 then none else some (atL L x)
theorem atF_getD (L:List Int) (x:Int):(atF L x).getD (-1)=atL L x:=by
 have h:=idxP_low (fun y=>decide (y=x)) L
 rw[atF]
 split
 ·have:atL L x = -1:=by unfold atL at *;omega
  rw[this];rfl
 ·rfl
theorem atF_step {L:List Int} (hnd:L.Nodup) {i:Nat} {x:Int} (hx:L[i]?=some x):∀ z,atF (L.take (i+1)) z=if z=x then some (i:Int) else atF (L.take i) z:=by
 intro z
 have hxn:x ∉ L.take i:=fun h=>by
  obtain⟨j,hj⟩:=List.getElem?_of_mem h
  rw[List.getElem?_take] at hj
  split at hj
  ·rename_i hji
   have:=atL_at hnd hx
   have h2:=atL_at hnd hj
   omega
  ·cases hj
 have hl:(L.take i).length=i:=by have:=(List.getElem?_eq_some_iff.1 hx).1;rw[List.length_take];omega
 rw[take_at hx]
 by_cases e:z=x
 ·subst e
  rw[if_pos rfl,atF,atL_last hxn,hl,if_neg (by omega)]
 ·rw[if_neg e,atF,atF,atL_more (.inr e)]
theorem placesOf_any (A:Option Addr) (n c:Nat) (L:List Int) (w:World) (h:rIds (All w) w [.slice A n c] L) (hnd:L.Nodup) (hn8:n≤8):
  Calls Tryz.prog 21 #[.slice A n c] w fun e w'=>∃ Mb,e=.returned (.map (some Mb))∧MpM w' Mb n (atF L)∧w.heap.size≤Mb∧Below w.heap.size w w':=by
 have hmm:=@run_makeMap Tryz.prog
 obtain⟨hl,-,-⟩:=slice_len h
 have Hown:=zZ (MpM.nil (World.ownsMap_made (H:=Unit) w Tryz.prog 3 (plainElem Tryz.prog 3)))
 have HB0:Hid (Below w.heap.size w (w.alloc (.map #[] 0))):=zZ ((zA _ w).alloc (zW _) _)
 have Hnd:=zZ hnd
 have Hh:=zZ h
 have h0:atF (L.take 0)=fun _=>none:=by funext x;rfl
 clear hnd h
 go_enter Tryz.func21,Tryz.ntmps21
 go_wp2
 go_loopw [9] (fun iv w'=>∃ i:Nat,i≤n∧iv=.int .i64 (i:Int)∧Hid (MpM w' w.heap.size i (atF (L.take i)))∧Hid (Below w.heap.size w w')) (fun iv _=>n - (intOf iv).toNat)
 case atStart=>exact⟨0,by omega,rfl,zZ (by rw[h0];exact Hown.out),HB0⟩
 case round=>
  rename World=>wr
  obtain⟨i,hi,rfl,hM,hB⟩:=hrel
  clear h0
  by_cases hin:i<n
  ·obtain⟨x,hx⟩:∃ x,L[i]?=some x:=⟨_,zV (by omega)⟩
   obtain⟨b,off,rfl,hb,hx1,hxb⟩:=id_at (ids_below hB.out Hh.out) hx
   have Hst:=zZ (atF_step Hnd.out hx)
   have hkey:keyOf Tryz.prog 3 (.int .i64 x)=some (.int .i64 x):=keyOf_int_mk Tryz.underlying3 (WalkArith.wf_i64 hxb)
   obtain⟨D,hown,hhas⟩:=hM.out
   have hlm:i<maxLen:=by simp only[maxLen];omega
   have hwl:(Lit.int .i64 (i:Int)).wf=true:=WalkArith.wf_i64 ⟨by omega,by omega⟩
   have HpA:=zZ (fun (W:World) (h:W.ownsMap Tryz.prog 3 (plainElem Tryz.prog 3) w.heap.size (i+1) (D.put (.int .i64 x) (.lit (.int .i64 (i:Int)))))=>MpM.add h hown.isMap hhas)
   have hil:(i:Int)<(n:Int):=by omega
   have hi0:(0:Int)≤(i:Int):=by omega
   clear hx hhas hxb
   go_wp2_with (first
    | (at_mapUpdate;refine wpList_mapUpdate_own _ rfl _ _ _ 58 rfl 3 3 come_law Tryz.underlying58 (plainElem (H:=Unit) Tryz.prog 3) w.heap.size i D rfl hown hlm _ _ _ rfl rfl hkey _ [] (plainElem_int Tryz.underlying3 hwl) ?_;intro w2 hown2 hgrow2)
    | fail)
   go_roundw
   case rel=>exact⟨i+1,by omega,by go_num,zZ ((HpA.out _ hown2).congr fun z _=>(Hst.out z).symm),zZ (hB.out.grown hgrow2 hB.out.size (fun k hk=>by cases hk;exact zW _))⟩
   case measure=>simp[intOf];omega
  ·have hin':i=n:=by omega
   rw[List.take_of_length_le (by omega)] at hM
   rw[hin'] at hM
   clear hin'
   go_wp2
   go_ret
   exact⟨_,rfl,hM.out,zW _,hB.out⟩
def plT (l:List Itm) (i:Nat) (y:Int):Option Int:=plF (l.take i) y
def onceT (l:List Itm) (i:Nat):Prop:=∀ j x,j<i→l[j]?=some x→x.1 = -1∨fromD l x.1=(j:Int)
theorem onceT_all {l:List Itm}:onceT l l.length→onceD l=true:=fun h=>(allI_iff _ l 0).2 fun j x hx=>by
 rw[Nat.zero_add,Bool.or_eq_true,decide_eq_true_eq,decide_eq_true_eq]
 exact h j x (List.getElem?_eq_some_iff.1 hx).1 hx
theorem from_take {l:List Itm} {i:Nat} {y:Int} (h:0≤fromD (l.take i) y):fromD l y=fromD (l.take i) y∧fromD (l.take i) y<(i:Int):=by
 obtain⟨j,hj⟩:∃ j:Nat,fromD (l.take i) y=(j:Int):=⟨(fromD (l.take i) y).toNat,by omega⟩
 obtain⟨⟨a,ha,hp⟩,hq⟩:=(idxP_iff _ _ j).1 hj
 rw[List.getElem?_take] at ha
 split at ha
 ·rename_i hji
  rw[hj]
  refine⟨(idxP_iff _ l j).2 ⟨⟨a,ha,hp⟩,fun m b hm hb=>hq m b hm (by rw[List.getElem?_take,if_pos (by omega)];exact hb)⟩,by omega⟩
 ·cases ha
theorem from_first {l:List Itm} {i:Nat} {x:Itm} (hx:l[i]?=some x) (h:fromD (l.take i) x.1<0):fromD l x.1=(i:Int):=by
 refine (idxP_iff _ l i).2 ⟨⟨x,hx,zJ rfl⟩,fun m b hm hb=>?_⟩
 have h0:=idxP_low (fun z:Itm=>decide (z.1=x.1)) (l.take i)
 have h1:fromD (l.take i) x.1 = -1:=by unfold fromD at *;omega
 exact (idxP_none _ _).1 h1 b (List.mem_of_getElem? (by rw[List.getElem?_take,if_pos hm];exact hb))
theorem plT_twice {l:List Itm} {i:Nat} {x:Itm} (hx:l[i]?=some x) (h1:x.1≠-1) (h:(plT l i x.1).isSome=true):onceD l=false:=by
 cases hon:onceD l with
 | false=>rfl
 | true=>
  have:=(allI_iff _ l 0).1 hon i x hx
  rw[Nat.zero_add,Bool.or_eq_true,decide_eq_true_eq,decide_eq_true_eq] at this
  rw[plT,plF,if_neg h1] at h
  split at h
  ·cases h
  ·rename_i hn
   obtain⟨e1,e2⟩:=from_take (l:=l) (i:=i) (y:=x.1) (by omega)
   rcases this with e | e
   ·exact absurd e h1
   ·omega
theorem from_more {l:List Itm} {x:Itm} {y:Int} (h:y≠x.1):fromD (l++[x]) y=fromD l y:=by
 by_cases hn:0≤fromD l y
 ·obtain⟨j,hj⟩:∃ j:Nat,fromD l y=(j:Int):=⟨(fromD l y).toNat,by omega⟩
  obtain⟨⟨a,ha,hp⟩,hq⟩:=(idxP_iff _ _ j).1 hj
  have hjl:=(List.getElem?_eq_some_iff.1 ha).1
  rw[hj]
  refine (idxP_iff _ _ j).2 ⟨⟨a,by rw[List.getElem?_append_left hjl];exact ha,hp⟩,fun m b hm hb=>hq m b hm (by rw[List.getElem?_append_left (by omega)] at hb;exact hb)⟩
 ·have h0:=idxP_low (fun z:Itm=>decide (z.1=y)) l
  have h1:fromD l y = -1:=by unfold fromD at *;omega
  rw[h1]
  refine (idxP_none _ _).2 fun a ha=>?_
  rcases List.mem_append.1 ha with ha | ha
  ·exact (idxP_none _ _).1 h1 a ha
  ·obtain rfl:=List.mem_singleton.1 ha
   exact zK fun e=>h e.symm
theorem plT_skip {l:List Itm} {i:Nat} {x:Itm} (hx:l[i]?=some x) (h1:x.1 = -1):∀ y,plT l (i+1) y=plT l i y:=fun y=>by
 rw[plT,plT,take_at hx,plF,plF]
 by_cases e:y = -1
 ·rw[if_pos e,if_pos e]
 ·rw[if_neg e,if_neg e,from_more (by omega)]
theorem plT_step {l:List Itm} {i:Nat} {x:Itm} (hx:l[i]?=some x) (h1:x.1≠-1) (h:(plT l i x.1).isSome=false):∀ y,plT l (i+1) y=if y=x.1 then some (i:Int) else plT l i y:=fun y=>by
 rw[plT,plF,if_neg h1] at h
 have hneg:fromD (l.take i) x.1<0:=by
  by_cases e:fromD (l.take i) x.1<0
  ·exact e
  ·rw[if_neg e] at h;cases h
 have hl:(l.take i).length=i:=by have:=(List.getElem?_eq_some_iff.1 hx).1;rw[List.length_take];omega
 rw[plT,plT,take_at hx,plF,plF]
 by_cases e:y=x.1
 ·subst e
  have hat:(l.take i++[x])[i]?=some x:=by rw[List.getElem?_append_right (by omega),hl,Nat.sub_self];rfl
  have:=from_first hat (by rw[List.take_append_of_le_length (by omega),List.take_of_length_le (by omega)];exact hneg)
  rw[if_pos rfl,if_neg h1,this,if_neg (by omega)]
 ·rw[if_neg e,from_more e]
theorem onceT_step {l:List Itm} {i:Nat} {x:Itm} (hx:l[i]?=some x) (h:onceT l i) (hf:x.1 = -1∨(x.1≠-1∧(plT l i x.1).isSome=false)):onceT l (i+1):=fun j y hj hy=>by
 by_cases e:j<i
 ·exact h j y e hy
 ·obtain rfl:j=i:=by omega
  rw[hx] at hy
  injection hy with hy
  subst hy
  rcases hf with hf | ⟨h1,hf⟩
  ·exact .inl hf
  ·right
   rw[plT,plF,if_neg h1] at hf
   refine from_first hx ?_
   by_cases e2:fromD (l.take j) x.1<0
   ·exact e2
   ·rw[if_neg e2] at hf;cases hf
theorem placesNow_any (A:Option Addr) (n c:Nat) (l:List Itm) (w:World) (h:rItms (All w) w [.slice A n c] l) (hn8:n≤1000000):
  Calls Tryz.prog 68 #[.slice A n c] w fun e w'=>∃ v,e=.returned (.tuple #[v,.bool (onceD l)])∧(onceD l=true→∃ Mb,v=.map (some Mb)∧MpM w' Mb (n+1) (plF l)∧w.heap.size≤Mb)∧Below w.heap.size w w':=by
 have hmm:=@run_makeMap Tryz.prog
 obtain⟨hl,-,-⟩:=slice_len h
 have hown0:=World.ownsMap_made (H:=Unit) w Tryz.prog 3 (plainElem Tryz.prog 3)
 have hwf1:(Lit.int .i64 (-1)).wf=true:=by decide
 have hkey1:keyOf Tryz.prog 3 (.int .i64 (-1))=some (.int .i64 (-1)):=keyOf_int_mk Tryz.underlying3 hwf1
 obtain⟨wm,hrun1,hown1,hgrow1⟩:=hown0.update come_law Tryz.underlying58 (by simp only[maxLen];omega) hkey1 (plainElem_int Tryz.underlying3 hwf1)
 obtain⟨D0,q1,q2⟩:=MpM.nil hown0
 have Hm0:=zZ ((MpM.add hown1 hown0.isMap (f:=fun _=>none) (fun z _=>⟨by simp[Maps.has],fun y hy=>by cases hy⟩)).congr (g:=plT l 0) fun z _=>by
  rw[plT,plF]
  by_cases e:z = -1
  ·rw[if_pos e,if_pos e]
  ·rw[if_neg e,if_neg e];rfl)
 have HB0:Hid (Below w.heap.size w wm):=zZ (((zA _ w).alloc (zW _) (.map #[] 0)).grown hgrow1 (by simp) (fun k hk=>by cases hk;exact zW _))
 have Hh:=zZ h
 clear h hown0 hown1 hgrow1 hkey1 q1 q2 D0
 go_enter Tryz.func68,Tryz.ntmps68
 go_wp2
 clear hrun1
 go_loopw [13] (fun iv w'=>∃ i:Nat,i≤n∧iv=.int .i64 (i:Int)∧Hid (MpM w' w.heap.size (i+1) (plT l i))∧Hid (onceT l i)∧Hid (Below w.heap.size w w')) (fun iv _=>n - (intOf iv).toNat)
 case atStart=>exact⟨0,by omega,rfl,Hm0,zZ (fun j x hj=>by omega),HB0⟩
 case round=>
  rename World=>wr
  obtain⟨i,hi,rfl,hM,hO,hB⟩:=hrel
  clear Hm0 HB0
  by_cases hin:i<n
  ·obtain⟨x,hx⟩:∃ x,l[i]?=some x:=⟨_,zV (by omega)⟩
   obtain⟨b,off,A2,c2,rfl,hb,x0,x1,x2,-,hxb,-⟩:=itm_at (itms_below hB.out Hh.out) hx
   have hil:(i:Int)<(n:Int):=by omega
   have hi0:(0:Int)≤(i:Int):=by omega
   have HA:=zZ (hB.out.alloc hB.out.size (.cells #[.int .i64 x.1,.int .i64 x.2.1,.slice A2 x.2.2.length c2] 50))
   by_cases h1:x.1 = -1
   ·have Hst:=zZ (plT_skip hx h1)
    have Hon:=zZ (onceT_step hx hO.out (.inl h1))
    have h1':(x.1 == -1)=true:=by simp[h1]
    clear hx h1
    generalize x.1=xf at *
    generalize x.2.1=xt at *
    generalize x.2.2.length=xl at *
    go_wp2
    go_roundw
    case rel=>exact⟨i+1,by omega,by go_num,zZ (((hM.out.below ((zA _ _).alloc (zW _) _)).congr fun z _=>(Hst.out z).symm).more),Hon,HA⟩
    case measure=>simp[intOf];omega
   ·have h1':(x.1 == -1)=false:=by simp[h1]
    have hkey:keyOf Tryz.prog 3 (.int .i64 x.1)=some (.int .i64 x.1):=keyOf_int_mk Tryz.underlying3 (WalkArith.wf_i64 hxb)
    obtain⟨D,hown,hhas⟩:=hM.out.below ((zA _ _).alloc (zW _) (.cells #[.int .i64 x.1,.int .i64 x.2.1,.slice A2 x.2.2.length c2] 50))
    have hh:=(hhas x.1 (WalkArith.wf_i64 hxb)).1
    by_cases hs:(plT l i x.1).isSome=true
    ·have Htw:=zZ (plT_twice hx h1 hs)
     rw[hs] at hh
     clear hx h1 hs hhas hM
     generalize x.1=xf at *
     generalize x.2.1=xt at *
     generalize x.2.2.length=xl at *
     go_wp2_with (first
      | (at_lookup;refine wpList_lookup_own_ok_int _ rfl _ _ 58 rfl 3 3 .i64 come_law Tryz.underlying58 Tryz.underlying3 (int_zero _) w.heap.size (i+1) D rfl hown _ _ rfl hkey ?_;intro cc hat hwc;rw[hh])
      | fail)
     go_ret2
     exact⟨.map none,by rw[Htw.out];rfl,(fun e=>absurd (Htw.out.symm.trans e) (by decide)),HA.out⟩
    ·replace hs:(plT l i x.1).isSome=false:=by simpa using hs
     have Hst:=zZ (plT_step hx h1 hs)
     have Hon:=zZ (onceT_step hx hO.out (.inr ⟨h1,hs⟩))
     rw[hs] at hh
     have hlm:i+1<maxLen:=by simp only[maxLen];omega
     have hwl:(Lit.int .i64 (i:Int)).wf=true:=WalkArith.wf_i64 ⟨by omega,by omega⟩
     have HpA:=zZ (fun (W:World) (h:W.ownsMap Tryz.prog 3 (plainElem Tryz.prog 3) w.heap.size (i+1+1) (D.put (.int .i64 x.1) (.lit (.int .i64 (i:Int)))))=>MpM.add h hown.isMap hhas)
     clear hx h1 hs hhas hM
     generalize x.1=xf at *
     generalize x.2.1=xt at *
     generalize x.2.2.length=xl at *
     go_wp2_with (first
      | (at_lookup;refine wpList_lookup_own_ok_int _ rfl _ _ 58 rfl 3 3 .i64 come_law Tryz.underlying58 Tryz.underlying3 (int_zero _) w.heap.size (i+1) D rfl hown _ _ rfl hkey ?_;intro cc hat hwc;rw[hh])
      | (at_mapUpdate;refine wpList_mapUpdate_own _ rfl _ _ _ 58 rfl 3 3 come_law Tryz.underlying58 (plainElem (H:=Unit) Tryz.prog 3) w.heap.size (i+1) D rfl hown hlm _ _ _ rfl rfl hkey _ [] (plainElem_int Tryz.underlying3 hwl) ?_;intro w2 hown2 hgrow2)
      | fail)
     go_roundw
     case rel=>exact⟨i+1,by omega,by go_num,zZ ((HpA.out _ hown2).congr fun z _=>(Hst.out z).symm),Hon,zZ (HA.out.grown hgrow2 HA.out.size (fun k hk=>by cases hk;exact zW _))⟩
     case measure=>simp[intOf];omega
  ·have hin':i=n:=by omega
   have Hon:=zZ (onceT_all (l:=l) (by rw[hl,← hin'];exact hO.out))
   have Hp:=zZ (hM.out.congr (g:=plF l) fun z _=>by rw[plT,List.take_of_length_le (by omega)])
   rw[hin'] at Hp
   clear hin' hM
   go_wp2
   go_ret2
   exact⟨.map (some w.heap.size),by rw[Hon.out];rfl,fun _=>⟨_,rfl,Hp.out,zW _⟩,hB.out⟩
end Go.Proofs.YtnljjnkindjeoaaGreatDoor
