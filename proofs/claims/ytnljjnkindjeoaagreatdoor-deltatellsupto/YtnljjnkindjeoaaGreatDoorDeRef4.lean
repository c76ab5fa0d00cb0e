/- The contract of the document's own object (layer 11): that of an item, of a Canon, or none. Condition: the graph may be. -/
import Derived.Test.YtnljjnkindjeoaaGreatDoorDeRef1
import Derived.Test.YtnljjnkindjeoaaGreatDoorGCanon
import Derived.Test.YtnljjnkindjeoaaGreatDoorGRef
import Derived.Test.YtnljjnkindjeoaaGreatDoorDeProg
import Derived.Test.YtnljjnkindjeoaaGreatDoorAl
set_option maxRecDepth 100000
set_option maxHeartbeats 8000000
namespace Go.Proofs.YtnljjnkindjeoaaGreatDoor
open Go.RowKit
theorem objD_no {c:Gr} {l:List Itm} {i:Nat} {x:Itm} (h:fitD c l i x=false∨riseD x (fldsG c.1 x.2.1).length=false):objD c l i x=none:=by
 rw[objD,if_neg]
 rintro h'
 rw[Bool.and_eq_true] at h'
 rcases h with h | h
 ·rw[h] at h';exact absurd h'.1 (by decide)
 ·rw[h] at h';exact absurd h'.2 (by decide)
theorem objD_yes {c:Gr} {l:List Itm} {i:Nat} {x:Itm} (h1:fitD c l i x=true) (h2:riseD x (fldsG c.1 x.2.1).length=true):objD c l i x=(valsD c l x 0 (fldsG c.1 x.2.1)).map fun vs=>((i:Int),x.2.1,vs):=by
 rw[objD,h1,h2];rfl
theorem fitD_iff {c:Gr} {l:List Itm} {i:Nat} {x:Itm}:fitD c l i x=true↔(0≤x.2.1∧x.2.1<(c.1.length:Int))∧(-1≤x.1∧x.1<(c.2.1.length:Int))∧(x.1<0∨((obD c x).2.1=x.2.1∧(i:Int)≤fromD l x.1)):=by
 rw[fitD]
 simp only[Bool.and_eq_true,Bool.or_eq_true,decide_eq_true_eq]
 constructor
 ·rintro⟨⟨h1,h2⟩,h3⟩;exact⟨h1,h2,h3⟩
 ·rintro⟨h1,h2,h3⟩;exact⟨⟨h1,h2⟩,h3⟩
theorem valsD_more {c:Gr} {l:List Itm} {x:Itm} {fs:List Fld} {k:Nat} {f:Fld} {v:Vl} {vs:List Vl} (hf:fs[k]?=some f) (h:valsD c l x 0 fs=(valsD c l x k (fs.drop k)).map (vs++·)) (hv:valD c l x k f=some v):
  valsD c l x 0 fs=(valsD c l x (k+1) (fs.drop (k+1))).map ((vs++[v])++·):=by
 obtain⟨hk,rfl⟩:=List.getElem?_eq_some_iff.1 hf
 rw[h,List.drop_eq_getElem_cons hk,valsD,hv,Option.bind_some,Option.map_map]
 congr 1
 funext y
 simp
theorem valsD_stop {c:Gr} {l:List Itm} {x:Itm} {fs:List Fld} {k:Nat} {f:Fld} {vs:List Vl} (hf:fs[k]?=some f) (h:valsD c l x 0 fs=(valsD c l x k (fs.drop k)).map (vs++·)) (hv:valD c l x k f=none):valsD c l x 0 fs=none:=by
 obtain⟨hk,rfl⟩:=List.getElem?_eq_some_iff.1 hf
 rw[h,List.drop_eq_getElem_cons hk,valsD,hv]
 rfl
theorem not_set {x:Itm} {n k:Nat} (h:riseD x n=true) (hk:k<n) (hs:setF x k=none):0≤x.1:=by
 rw[riseD,Bool.and_eq_true,Bool.or_eq_true,decide_eq_true_eq,decide_eq_true_eq] at h
 rcases h.2 with h2 | h2
 ·exact h2
 ·obtain⟨y,hy,e⟩:=rise_full h.1 (by omega) k (by omega) hk
  rw[setF,Option.map_eq_none_iff,List.find?_eq_none] at hs
  exact absurd (zJ e) (by simpa using hs y hy)
def RObjD (c:Gr) (l:List Itm) (i:Nat) (x:Itm) (w:World) (r:Ending) (w':World):Prop:=
 ∃ a1 a2 A1 n1 c1 b,r=.returned (.tuple #[.agg #[.int .i64 a1,.int .i64 a2,.slice A1 n1 c1],.bool b])∧Below w.heap.size w w'∧((∃ o,objD c l i x=some o∧b=true∧rOb (fun b=>w.heap.size≤b∧b<w'.heap.size) w' [.int .i64 a1,.int .i64 a2,.slice A1 n1 c1] o)∨(objD c l i x=none∧b=false))
theorem robjD_any (A B C:Option Addr) (N c M d K e:Nat) (g:Gr) (u:Int) (R L:Option Addr) (rn rc ln lc:Nat) (l:List Itm) (i:Nat) (x:Itm) (w:World) (hm:mayG g=true) (h:rGr (All w) w [.slice A N c,.slice B M d,.slice C K e] g) (hl:rItms (All w) w [.slice L ln lc] l) (hx:l[i]?=some x):
  Calls Tryz.prog 34 #[.agg #[.slice A N c,.slice B M d,.slice C K e],.agg #[.int .u32 u,.slice R rn rc,.slice L ln lc],.int .i64 (i:Int)] w fun r w'=>RObjD g l i x w r w':=by
 obtain⟨k0,hk,hx0,hx1,hx2⟩:=info_parts info_vals
 obtain⟨hN,-,hcm⟩:=slice_len (rGr_open h).1
 obtain⟨hM,-,hdm⟩:=slice_len (rGr_open h).2.1
 obtain⟨hln,hlc,hlm⟩:=slice_len hl
 simp only[maxLen] at hcm hdm hlm
 have hB0:Below w.heap.size w (((w.alloc (.cells #[.slice A N c,.slice B M d,.slice C K e] 28)).alloc (.cells #[.int .u32 u,.slice R rn rc,.slice L ln lc] 32)).alloc (.cells #[.int .i64 0,.int .i64 0,.slice none 0 0] 53)):=(((zA _ w).alloc (zW _) _).alloc (by simp) _).alloc (by simp;omega) _
 obtain⟨p0,p1,p2⟩:=blk_three w 28 32 53 [.slice A N c,.slice B M d,.slice C K e] [.int .u32 u,.slice R rn rc,.slice L ln lc] [.int .i64 0,.int .i64 0,.slice none 0 0]
 have S1:Hid ((((w.alloc (.cells #[.slice A N c,.slice B M d,.slice C K e] 28)).alloc (.cells #[.int .u32 u,.slice R rn rc,.slice L ln lc] 32)).alloc (.cells #[.int .i64 0,.int .i64 0,.slice none 0 0] 53)).heap.size=w.heap.size+3):=zZ (by simp)
 have hiln:i<ln:=by have:=(List.getElem?_eq_some_iff.1 hx).1;omega
 obtain⟨bL,offL,Ax,xc,hLe,hbL,y0,y1,y2,hcs,⟨hxa,hxb⟩,hta,htb⟩:=itm_at hl hx
 subst hLe
 have hil:(i:Int)<(ln:Int):=by omega
 have hi0:(0:Int)≤(i:Int):=by omega
 have Hi9:Hid ((Lit.int .i64 (i:Int)).wf=true):=zZ (WalkArith.wf_i64 ⟨by omega,by omega⟩)
 have Hg:=zZ (fun W (hW:Below w.heap.size w W)=>gr_below hW h)
 have Hcs:=zZ (fun W (hW:Below w.heap.size w W)=>cels_below hW hcs)
 have TFr:=zZ (fun W (hW:Below w.heap.size w W) n=>rfrom_any u R (some ⟨bL,offL,none⟩) rn rc lc ln l n W (itms_below hW hl))
 have HF1:Hid (∀ n,-1≤fromD l n∧fromD l n<(ln:Int)):=zZ fun n=>⟨idxP_low _ _,by have:=idxP_lt (fun x:Itm=>decide (x.1=n)) l;rw[hln] at this;exact this⟩
 have P0:=zZ p0
 have P1:=zZ p1
 have P2:=zZ p2
 have HB0:=zZ hB0
 have c2:=p1.cell (j:=2) rfl
 have z0:=(hB0.cell (p:=⟨bL,offL+i * 3,none⟩) hbL).trans y0
 have z1:=(hB0.cell (p:=⟨bL,offL+i * 3+1,none⟩) hbL).trans y1
 have z2:=(hB0.cell (p:=⟨bL,offL+i * 3+2,none⟩) hbL).trans y2
 have Hm:=zZ hm
 have HN:=zZ hN
 have HM:=zZ hM
 have Hwx:Hid (-9223372036854775808≤x.2.1∧x.2.1≤9223372036854775807):=zZ ⟨hta,htb⟩
 clear h hl hx hcs hB0 p0 p1 p2 hm hN hM y0 y1 y2 hln hbL
 go_enter Tryz.func34,Tryz.ntmps34
 go_upto_region 2 with fail
 generalize (((w.alloc (.cells #[.slice A N c,.slice B M d,.slice C K e] 28)).alloc (.cells #[.int .u32 u,.slice R rn rc,.slice (some ⟨bL,offL,none⟩) ln lc] 32)).alloc (.cells #[.int .i64 0,.int .i64 0,.slice none 0 0] 53))=w1 at *
 have P8:Hid (Blk (w1.alloc (.cells #[.int .i64 x.1,.int .i64 x.2.1,.slice Ax x.2.2.length xc] 50)) (w.heap.size+3) 50 [.int .i64 x.1,.int .i64 x.2.1,.slice Ax x.2.2.length xc]):=zZ (by have:=Blk.new w1 50 [.int .i64 x.1,.int .i64 x.2.1,.slice Ax x.2.2.length xc];rwa [S1.out] at this)
 have hB2:Below w1.heap.size w1 (w1.alloc (.cells #[.int .i64 x.1,.int .i64 x.2.1,.slice Ax x.2.2.length xc] 50)):=(zA _ w1).alloc (zW _) _
 have S2:Hid ((w1.alloc (.cells #[.int .i64 x.1,.int .i64 x.2.1,.slice Ax x.2.2.length xc] 50)).heap.size=w1.heap.size+1):=zZ (by simp)
 have Q0:=zZ (P0.out.to hB2)
 have Q1:=zZ (P1.out.to hB2)
 have Q2:=zZ (P2.out.to hB2)
 have HB2:=zZ (HB0.out.trans (hB2.mono HB0.out.size))
 clear hB2 P0 P1 P2 HB0 c2 z0 z1 z2
 generalize w1.alloc (.cells #[.int .i64 x.1,.int .i64 x.2.1,.slice Ax x.2.2.length xc] 50)=w2 at *
 have HS:=zZ (fun W (hW:Below w2.heap.size w2 W)=>And.intro ((Q0.out.to hW).cell (j:=0) rfl) (And.intro ((Q0.out.to hW).cell (j:=1) rfl) (And.intro ((Q0.out.to hW).cell (j:=2) rfl) (And.intro ((Q1.out.to hW).cell (j:=0) rfl) (And.intro ((Q1.out.to hW).cell (j:=1) rfl) (And.intro ((Q1.out.to hW).cell (j:=2) rfl) (And.intro ((P8.out.to hW).cell (j:=0) rfl) (And.intro ((P8.out.to hW).cell (j:=1) rfl) ((P8.out.to hW).cell (j:=2) rfl)))))))))
 have HQ2:=zZ (fun W (hW:Below w2.heap.size w2 W)=>Q2.out.to hW)
 clear Q0 Q1 Q2 P8
 by_cases hfit:fitD g l i x=true
 case neg=>
  have Hno:Hid (objD g l i x=none):=zZ (objD_no (.inl (by simpa using hfit)))
  rw[fitD_iff,HN.out,HM.out] at hfit
  go_cut [69] (fun v69 wx=>v69=.bool true∧Hid (Below w2.heap.size w2 wx))
  case first=>
   by_cases h1:x.2.1<0
   ·have d1:decide (x.2.1<0)=true:=zJ h1
    clear hfit h1
    refine sch_start [(0,true),(1,true),(2,true),(3,true),(4,true),(5,true),(6,true),(7,true),(8,true),(9,true),(10,true),(11,true),(12,true),(13,true),(14,true),(15,true),(16,true),(17,true),(18,true),(19,true),(20,true),(21,true),(22,true),(23,true),(24,true),(25,true),(26,true),(27,true),(28,true),(29,true),(30,true),(31,true),(32,true),(33,true),(34,true),(35,true),(36,true),(37,true),(38,true),(39,true),(40,true),(41,true),(42,true),(43,true),(45,true),(44,false),(46,true),(47,true),(48,true),(49,true)] (fun W=>Below w2.heap.size w2 W) (by kernel_rfl) rfl (by kernel_rfl) (fun _ _ _ _ _ h=>h) ((zA _ w2).drew) (fun hH=>?_)
    repeat (first | (refine sch_yes (v:=?_) rfl rfl ?_ hH ?_;rotate_left;(focus ((intro W hW;obtain⟨a0,a1,a2,e0,e1,e2,i0,i1,i2⟩:=HS.out W hW;go_simp) <;> with_reducible rfl));simp only[Act.put,zY,zX,zQ]) | (refine sch_no rfl rfl hH ?_;simp only[Act.put,zY,zX,zQ]))
    refine sch_call_no rfl rfl hH ?_
    repeat (first | (refine sch_yes (v:=?_) rfl rfl ?_ hH ?_;rotate_left;(focus ((intro W hW;obtain⟨a0,a1,a2,e0,e1,e2,i0,i1,i2⟩:=HS.out W hW;go_simp) <;> with_reducible rfl));simp only[Act.put,zY,zX,zQ]) | (refine sch_no rfl rfl hH ?_;simp only[Act.put,zY,zX,zQ]))
    refine sch_done ?_
    go_wp2
    go_meet
    case rel=>exact⟨rfl,zZ hH⟩
   have d1:decide (x.2.1<0)=false:=zK h1
   by_cases h2:(N:Int)≤x.2.1
   ·have d2:decide ((N:Int)≤x.2.1)=true:=zJ h2
    clear hfit h1 h2
    refine sch_start [(0,true),(1,true),(2,true),(3,true),(4,true),(5,true),(6,true),(7,true),(8,true),(9,true),(10,true),(11,true),(12,true),(13,true),(14,true),(15,true),(16,true),(17,true),(18,true),(19,true),(20,true),(21,true),(22,true),(23,true),(24,true),(25,true),(26,true),(27,true),(28,true),(29,true),(30,true),(31,true),(32,true),(33,true),(34,true),(35,true),(36,true),(37,true),(38,true),(39,true),(40,true),(41,true),(42,true),(43,true),(45,true),(44,false),(46,true),(47,true),(48,true),(49,true)] (fun W=>Below w2.heap.size w2 W) (by kernel_rfl) rfl (by kernel_rfl) (fun _ _ _ _ _ h=>h) ((zA _ w2).drew) (fun hH=>?_)
    repeat (first | (refine sch_yes (v:=?_) rfl rfl ?_ hH ?_;rotate_left;(focus ((intro W hW;obtain⟨a0,a1,a2,e0,e1,e2,i0,i1,i2⟩:=HS.out W hW;go_simp) <;> with_reducible rfl));simp only[Act.put,zY,zX,zQ]) | (refine sch_no rfl rfl hH ?_;simp only[Act.put,zY,zX,zQ]))
    refine sch_call_no rfl rfl hH ?_
    repeat (first | (refine sch_yes (v:=?_) rfl rfl ?_ hH ?_;rotate_left;(focus ((intro W hW;obtain⟨a0,a1,a2,e0,e1,e2,i0,i1,i2⟩:=HS.out W hW;go_simp) <;> with_reducible rfl));simp only[Act.put,zY,zX,zQ]) | (refine sch_no rfl rfl hH ?_;simp only[Act.put,zY,zX,zQ]))
    refine sch_done ?_
    go_wp2
    go_meet
    case rel=>exact⟨rfl,zZ hH⟩
   have d2:decide ((N:Int)≤x.2.1)=false:=zK h2
   by_cases h3:x.1 < -1
   ·have d3:decide (x.1 < -1)=true:=zJ h3
    clear hfit h1 h2 h3
    refine sch_start [(0,true),(1,true),(2,true),(3,true),(4,true),(5,true),(6,true),(7,true),(8,true),(9,true),(10,true),(11,true),(12,true),(13,true),(14,true),(15,true),(16,true),(17,true),(18,true),(19,true),(20,true),(21,true),(22,true),(23,true),(24,true),(25,true),(26,true),(27,true),(28,true),(29,true),(30,true),(31,true),(32,true),(33,true),(34,true),(35,true),(36,true),(37,true),(38,true),(39,true),(40,true),(41,true),(42,true),(43,true),(45,true),(44,false),(46,true),(47,true),(48,true),(49,true)] (fun W=>Below w2.heap.size w2 W) (by kernel_rfl) rfl (by kernel_rfl) (fun _ _ _ _ _ h=>h) ((zA _ w2).drew) (fun hH=>?_)
    repeat (first | (refine sch_yes (v:=?_) rfl rfl ?_ hH ?_;rotate_left;(focus ((intro W hW;obtain⟨a0,a1,a2,e0,e1,e2,i0,i1,i2⟩:=HS.out W hW;go_simp) <;> with_reducible rfl));simp only[Act.put,zY,zX,zQ]) | (refine sch_no rfl rfl hH ?_;simp only[Act.put,zY,zX,zQ]))
    refine sch_call_no rfl rfl hH ?_
    repeat (first | (refine sch_yes (v:=?_) rfl rfl ?_ hH ?_;rotate_left;(focus ((intro W hW;obtain⟨a0,a1,a2,e0,e1,e2,i0,i1,i2⟩:=HS.out W hW;go_simp) <;> with_reducible rfl));simp only[Act.put,zY,zX,zQ]) | (refine sch_no rfl rfl hH ?_;simp only[Act.put,zY,zX,zQ]))
    refine sch_done ?_
    go_wp2
    go_meet
    case rel=>exact⟨rfl,zZ hH⟩
   have d3:decide (x.1 < -1)=false:=zK h3
   by_cases h4:(M:Int)≤x.1
   ·have d4:decide ((M:Int)≤x.1)=true:=zJ h4
    clear hfit h1 h2 h3 h4
    refine sch_start [(0,true),(1,true),(2,true),(3,true),(4,true),(5,true),(6,true),(7,true),(8,true),(9,true),(10,true),(11,true),(12,true),(13,true),(14,true),(15,true),(16,true),(17,true),(18,true),(19,true),(20,true),(21,true),(22,true),(23,true),(24,true),(25,true),(26,true),(27,true),(28,true),(29,true),(30,true),(31,true),(32,true),(33,true),(34,true),(35,true),(36,true),(37,true),(38,true),(39,true),(40,true),(41,true),(42,true),(43,true),(45,true),(44,false),(46,true),(47,true),(48,true),(49,true)] (fun W=>Below w2.heap.size w2 W) (by kernel_rfl) rfl (by kernel_rfl) (fun _ _ _ _ _ h=>h) ((zA _ w2).drew) (fun hH=>?_)
    repeat (first | (refine sch_yes (v:=?_) rfl rfl ?_ hH ?_;rotate_left;(focus ((intro W hW;obtain⟨a0,a1,a2,e0,e1,e2,i0,i1,i2⟩:=HS.out W hW;go_simp) <;> with_reducible rfl));simp only[Act.put,zY,zX,zQ]) | (refine sch_no rfl rfl hH ?_;simp only[Act.put,zY,zX,zQ]))
    refine sch_call_no rfl rfl hH ?_
    repeat (first | (refine sch_yes (v:=?_) rfl rfl ?_ hH ?_;rotate_left;(focus ((intro W hW;obtain⟨a0,a1,a2,e0,e1,e2,i0,i1,i2⟩:=HS.out W hW;go_simp) <;> with_reducible rfl));simp only[Act.put,zY,zX,zQ]) | (refine sch_no rfl rfl hH ?_;simp only[Act.put,zY,zX,zQ]))
    refine sch_done ?_
    go_wp2
    go_meet
    case rel=>exact⟨rfl,zZ hH⟩
   have d4:decide ((M:Int)≤x.1)=false:=zK h4
   have h5:0≤x.1:=by
    by_cases h5:0≤x.1
    ·exact h5
    ·exact absurd ⟨⟨by omega,by omega⟩,⟨by omega,by omega⟩,.inl (by omega)⟩ hfit
   obtain⟨J,hJ⟩:∃ J:Nat,x.1=(J:Int):=⟨x.1.toNat,by omega⟩
   have hJM:J<M:=by omega
   obtain⟨ob,hob⟩:∃ ob,g.2.1[J]?=some ob:=⟨_,zV (by have:=HM.out;omega)⟩
   have hobD:obD g x=ob:=by rw[obD,hJ,Int.toNat_natCast,List.getD_eq_getElem?_getD,hob];rfl
   obtain⟨bo,offo,Ao,co,hBe,hbo,-,x1,x2,hov,-,-⟩:=ob_at (rGr_open (Hg.out _ (zA _ w))).2.1 hob
   subst hBe
   have hJl:(J:Int)<(M:Int):=by omega
   have hJ0:(0:Int)≤(J:Int):=by omega
   have d5:decide ((0:Int)≤(J:Int))=true:=zJ hJ0
   have HSo:=zZ (fun W (hW:Below w2.heap.size w2 W)=>And.intro (HS.out W hW) (((HB2.out.trans (hW.mono HB2.out.size)).cell (p:=⟨bo,offo+J * 3+1,none⟩) hbo).trans x1))
   rw[hJ] at HSo d3 d4
   have d4n:decide (M≤J)=false:=zK (by omega)
   by_cases h6:ob.2.1=x.2.1
   ·have d6:(ob.2.1 != x.2.1)=false:=by simp[h6]
    have d7:decide (fromD l (J:Int)<(i:Int))=true:=zJ (by
     by_cases h7:fromD l (J:Int)<(i:Int)
     ·exact h7
     ·exact absurd ⟨⟨by omega,by omega⟩,⟨by omega,by omega⟩,.inr ⟨by rw[hobD];exact h6,by rw[hJ];omega⟩⟩ hfit)
    clear hfit h1 h2 h3 h4 h5 h6 hobD hob hov x1 x2
    generalize ob.2.1=ot at *
    refine sch_start [(0,true),(1,true),(2,true),(3,true),(4,true),(5,true),(6,true),(7,true),(8,true),(9,true),(10,true),(11,true),(12,true),(13,true),(14,true),(15,true),(16,true),(17,true),(18,true),(19,true),(20,true),(21,true),(22,true),(23,true),(24,true),(25,true),(26,true),(27,true),(28,true),(29,true),(30,true),(31,true),(32,true),(33,true),(34,true),(35,true),(36,true),(37,true),(38,true),(39,true),(40,true),(41,true),(42,true),(43,true),(45,true),(44,false),(46,true),(47,true),(48,true),(49,true)] (fun W=>Below w2.heap.size w2 W) (by kernel_rfl) rfl (by kernel_rfl) (fun _ _ _ _ _ h=>h) ((zA _ w2).drew) (fun hH=>?_)
    repeat (first | (refine sch_yes (v:=?_) rfl rfl ?_ hH ?_;rotate_left;(focus ((intro W hW;obtain⟨⟨a0,a1,a2,e0,e1,e2,i0,i1,i2⟩,o1⟩:=HSo.out W hW;go_simp) <;> with_reducible rfl));simp only[Act.put,zY,zX,zQ]) | (refine sch_no rfl rfl hH ?_;simp only[Act.put,zY,zX,zQ]))
    refine sch_call rfl rfl (fun K' hK=>?_)
    go_wp2_with (go_at_call 73;refine (TFr.out _ (HB2.out.trans (hH.mono HB2.out.size)) _).mono ?_;rintro e w5 ⟨rfl,hB5⟩)
    have hD5:=hH.trans (hB5.mono hH.size)
    refine hK.out _ _ hD5 ?_
    clear hK hH hB5
    have hH:=hD5
    repeat (first | (refine sch_yes (v:=?_) rfl rfl ?_ hH ?_;rotate_left;(focus ((intro W hW;obtain⟨⟨a0,a1,a2,e0,e1,e2,i0,i1,i2⟩,o1⟩:=HSo.out W hW;go_simp) <;> with_reducible rfl));simp only[Act.put,zY,zX,zQ]) | (refine sch_no rfl rfl hH ?_;simp only[Act.put,zY,zX,zQ]))
    refine sch_done ?_
    go_wp2
    go_meet
    case rel=>exact⟨rfl,zZ hD5⟩
   ·have d6:(ob.2.1 != x.2.1)=true:=by simp[h6]
    clear hfit h1 h2 h3 h4 h5 h6 hobD hob hov x1 x2
    generalize ob.2.1=ot at *
    refine sch_start [(0,true),(1,true),(2,true),(3,true),(4,true),(5,true),(6,true),(7,true),(8,true),(9,true),(10,true),(11,true),(12,true),(13,true),(14,true),(15,true),(16,true),(17,true),(18,true),(19,true),(20,true),(21,true),(22,true),(23,true),(24,true),(25,true),(26,true),(27,true),(28,true),(29,true),(30,true),(31,true),(32,true),(33,true),(34,true),(35,true),(36,true),(37,true),(38,true),(39,true),(40,true),(41,true),(42,true),(43,true),(45,true),(44,false),(46,true),(47,true),(48,true),(49,true)] (fun W=>Below w2.heap.size w2 W) (by kernel_rfl) rfl (by kernel_rfl) (fun _ _ _ _ _ h=>h) ((zA _ w2).drew) (fun hH=>?_)
    repeat (first | (refine sch_yes (v:=?_) rfl rfl ?_ hH ?_;rotate_left;(focus ((intro W hW;obtain⟨⟨a0,a1,a2,e0,e1,e2,i0,i1,i2⟩,o1⟩:=HSo.out W hW;go_simp) <;> with_reducible rfl));simp only[Act.put,zY,zX,zQ]) | (refine sch_no rfl rfl hH ?_;simp only[Act.put,zY,zX,zQ]))
    refine sch_call_no rfl rfl hH ?_
    repeat (first | (refine sch_yes (v:=?_) rfl rfl ?_ hH ?_;rotate_left;(focus ((intro W hW;obtain⟨⟨a0,a1,a2,e0,e1,e2,i0,i1,i2⟩,o1⟩:=HSo.out W hW;go_simp) <;> with_reducible rfl));simp only[Act.put,zY,zX,zQ]) | (refine sch_no rfl rfl hH ?_;simp only[Act.put,zY,zX,zQ]))
    refine sch_done ?_
    go_wp2
    go_meet
    case rel=>exact⟨rfl,zZ hH⟩
  case rest=>
  obtain⟨rfl,Hz⟩:=hcut
  clear hfit
  have q2:=HQ2.out _ Hz.out
  have u0:=q2.cell (j:=0) rfl
  have u1:=q2.cell (j:=1) rfl
  have u2:=q2.cell (j:=2) rfl
  have z0:=q2.frozen 0
  have z1:=q2.frozen 1
  have z2:=q2.frozen 2
  have QQ:=zZ q2
  clear q2
  go_wp2
  have P9:=((QQ.out.set 0 (.int .i64 0)).set 1 (.int .i64 0)).set 2 (.slice none 0 0)
  refine ret_cell1 (d:=.struct _) (cs:=[.int .i64 0,.int .i64 0,.slice none 0 0]) rfl P9 rfl rfl rfl rfl rfl ?_
  unfold RObjD
  exact⟨0,0,none,0,0,false,rfl,(((HB2.out.trans (Hz.out.mono HB2.out.size)).setCell (p:=⟨w.heap.size+2,0,none⟩) (by simp) _).setCell (p:=⟨w.heap.size+2,1,none⟩) (by simp) _).setCell (p:=⟨w.heap.size+2,2,none⟩) (by simp) _,.inr ⟨Hno.out,rfl⟩⟩
 have hft:=hfit
 rw[fitD_iff,HN.out,HM.out] at hft
 obtain⟨⟨hT0,hT1⟩,⟨hF0,hF1⟩,hor⟩:=hft
 have Hor:Hid (0≤x.1→(obD g x).2.1=x.2.1):=zZ fun h=>by
  rcases hor with h1 | h1
  ·omega
  ·exact h1.1
 have HF2:Hid (x.1<(M:Int)):=zZ hF1
 have Hobj:=zZ (fun h=>objD_yes hfit (i:=i) h)
 have Hno:=zZ (fun h=>objD_no (c:=g) (l:=l) (i:=i) (x:=x) (.inr h))
 obtain⟨t,ht⟩:∃ t:Nat,x.2.1=(t:Int):=⟨x.2.1.toNat,by omega⟩
 have htN:t<N:=by omega
 go_cut [69] (fun v69 wx=>v69=.bool false∧Hid (Below w2.heap.size w2 wx))
 case first=>
  have d1:decide (x.2.1<0)=false:=zK (by omega)
  have d2:decide ((N:Int)≤x.2.1)=false:=zK (by omega)
  have d3:decide (x.1 < -1)=false:=zK (by omega)
  have d4:decide ((M:Int)≤x.1)=false:=zK (by omega)
  clear ht htN
  by_cases h5:0≤x.1
  ·have hor2:(obD g x).2.1=x.2.1∧(i:Int)≤fromD l x.1:=by
    rcases hor with h1 | h1
    ·omega
    ·exact h1
   obtain⟨J,hJ⟩:∃ J:Nat,x.1=(J:Int):=⟨x.1.toNat,by omega⟩
   have hJM:J<M:=by omega
   obtain⟨ob,hob⟩:∃ ob,g.2.1[J]?=some ob:=⟨_,zV (by have:=HM.out;omega)⟩
   have hobD:obD g x=ob:=by rw[obD,hJ,Int.toNat_natCast,List.getD_eq_getElem?_getD,hob];rfl
   obtain⟨bo,offo,Ao,co,hBe,hbo,-,x1,x2,hov,-,-⟩:=ob_at (rGr_open (Hg.out _ (zA _ w))).2.1 hob
   subst hBe
   have hJl:(J:Int)<(M:Int):=by omega
   have hJ0:(0:Int)≤(J:Int):=by omega
   have d5:decide ((0:Int)≤(J:Int))=true:=zJ hJ0
   have HSo:=zZ (fun W (hW:Below w2.heap.size w2 W)=>And.intro (HS.out W hW) (((HB2.out.trans (hW.mono HB2.out.size)).cell (p:=⟨bo,offo+J * 3+1,none⟩) hbo).trans x1))
   rw[hobD,hJ] at hor2
   rw[hJ] at HSo d3 d4
   have d4n:decide (M≤J)=false:=zK (by omega)
   have d6:(ob.2.1 != x.2.1)=false:=by simp[hor2.1]
   have d7:decide (fromD l (J:Int)<(i:Int))=false:=zK (by omega)
   clear hfit hor hor2 h5 hobD hob hov x1 x2
   generalize ob.2.1=ot at *
   refine sch_start [(0,true),(1,true),(2,true),(3,true),(4,true),(5,true),(6,true),(7,true),(8,true),(9,true),(10,true),(11,true),(12,true),(13,true),(14,true),(15,true),(16,true),(17,true),(18,true),(19,true),(20,true),(21,true),(22,true),(23,true),(24,true),(25,true),(26,true),(27,true),(28,true),(29,true),(30,true),(31,true),(32,true),(33,true),(34,true),(35,true),(36,true),(37,true),(38,true),(39,true),(40,true),(41,true),(42,true),(43,true),(45,true),(44,false),(46,true),(47,true),(48,true),(49,true)] (fun W=>Below w2.heap.size w2 W) (by kernel_rfl) rfl (by kernel_rfl) (fun _ _ _ _ _ h=>h) ((zA _ w2).drew) (fun hH=>?_)
   repeat (first | (refine sch_yes (v:=?_) rfl rfl ?_ hH ?_;rotate_left;(focus ((intro W hW;obtain⟨⟨a0,a1,a2,e0,e1,e2,i0,i1,i2⟩,o1⟩:=HSo.out W hW;go_simp) <;> with_reducible rfl));simp only[Act.put,zY,zX,zQ]) | (refine sch_no rfl rfl hH ?_;simp only[Act.put,zY,zX,zQ]))
   refine sch_call rfl rfl (fun K' hK=>?_)
   go_wp2_with (go_at_call 73;refine (TFr.out _ (HB2.out.trans (hH.mono HB2.out.size)) _).mono ?_;rintro e w5 ⟨rfl,hB5⟩)
   have hD5:=hH.trans (hB5.mono hH.size)
   refine hK.out _ _ hD5 ?_
   clear hK hH hB5
   have hH:=hD5
   repeat (first | (refine sch_yes (v:=?_) rfl rfl ?_ hH ?_;rotate_left;(focus ((intro W hW;obtain⟨⟨a0,a1,a2,e0,e1,e2,i0,i1,i2⟩,o1⟩:=HSo.out W hW;go_simp) <;> with_reducible rfl));simp only[Act.put,zY,zX,zQ]) | (refine sch_no rfl rfl hH ?_;simp only[Act.put,zY,zX,zQ]))
   refine sch_done ?_
   go_wp2
   go_meet
   case rel=>exact⟨rfl,zZ hD5⟩
  ·have d5:decide (0≤x.1)=false:=zK h5
   clear hfit hor h5
   refine sch_start [(0,true),(1,true),(2,true),(3,true),(4,true),(5,true),(6,true),(7,true),(8,true),(9,true),(10,true),(11,true),(12,true),(13,true),(14,true),(15,true),(16,true),(17,true),(18,true),(19,true),(20,true),(21,true),(22,true),(23,true),(24,true),(25,true),(26,true),(27,true),(28,true),(29,true),(30,true),(31,true),(32,true),(33,true),(34,true),(35,true),(36,true),(37,true),(38,true),(39,true),(40,true),(41,true),(42,true),(43,true),(45,true),(44,false),(46,true),(47,true),(48,true),(49,true)] (fun W=>Below w2.heap.size w2 W) (by kernel_rfl) rfl (by kernel_rfl) (fun _ _ _ _ _ h=>h) ((zA _ w2).drew) (fun hH=>?_)
   repeat (first | (refine sch_yes (v:=?_) rfl rfl ?_ hH ?_;rotate_left;(focus ((intro W hW;obtain⟨a0,a1,a2,e0,e1,e2,i0,i1,i2⟩:=HS.out W hW;go_simp) <;> with_reducible rfl));simp only[Act.put,zY,zX,zQ]) | (refine sch_no rfl rfl hH ?_;simp only[Act.put,zY,zX,zQ]))
   refine sch_call_no rfl rfl hH ?_
   repeat (first | (refine sch_yes (v:=?_) rfl rfl ?_ hH ?_;rotate_left;(focus ((intro W hW;obtain⟨a0,a1,a2,e0,e1,e2,i0,i1,i2⟩:=HS.out W hW;go_simp) <;> with_reducible rfl));simp only[Act.put,zY,zX,zQ]) | (refine sch_no rfl rfl hH ?_;simp only[Act.put,zY,zX,zQ]))
   refine sch_done ?_
   go_wp2
   go_meet
   case rel=>exact⟨rfl,zZ hH⟩
 case rest=>
 obtain⟨rfl,Hz⟩:=hcut
 rename_i wz
 clear hor hF1
 obtain⟨ty,hgt⟩:∃ ty,g.1[t]?=some ty:=⟨_,zV (by have:=HN.out;omega)⟩
 obtain⟨bt,offt,st,AF,cF,hAe,hbt,-,yt1,-,-,hfs⟩:=typ_at (rGr_open (Hg.out _ (zA _ w))).1 hgt
 subst hAe
 have hFe:=fldsG_at (t:=(t:Int)) rfl hgt
 rw[← hFe] at yt1 hfs
 have hfl5:=fields_few Hm.out (t:Int)
 have Hmo:=zZ (fun (ob:Ob) (h:ob∈g.2.1)=>(mayG_obj Hm.out h).len)
 rw[ht] at HS Hobj Hno Hwx Hor
 obtain⟨fl,hfl⟩:∃ fl,fl=(fldsG g.1 (t:Int)).length:=⟨_,rfl⟩
 rw[← hfl] at yt1 hfs hfl5 Hobj Hno
 generalize hfsd:fldsG g.1 (t:Int)=fs at *
 have htl:(t:Int)<(N:Int):=by omega
 have ht0:(0:Int)≤(t:Int):=by omega
 have Hyt:=zZ (fun W (hW:Below w2.heap.size w2 W)=>((HB2.out.trans (hW.mono HB2.out.size)).cell (p:=⟨bt,offt+t * 2+1,none⟩) hbt).trans yt1)
 have Hfs:=zZ (fun W (hW:Below w2.heap.size w2 W)=>flds_below (HB2.out.trans (hW.mono HB2.out.size)) hfs)
 have Hfsd:=zZ hfsd
 have Hfl:=zZ hfl
 have TR:=zZ (fun W (hW:Below w2.heap.size w2 W)=>rrising_any Ax xc fl (by omega) x W (Hcs.out W (HB2.out.trans (hW.mono HB2.out.size))))
 rw[ht] at TR
 have Ht:=zZ ht
 have Hlen:=zZ hlm
 clear hfit hgt hFe hfs yt1 hfsd hfl ht hT0 hT1 hF0
 obtain⟨a0,a1,a2,e0,e1,e2,i0,i1,i2⟩:=HS.out _ Hz.out
 have yz:=Hyt.out _ Hz.out
 go_wp2_with fail
 refine (TR.out _ Hz.out).mono ?_
 rintro e w4 ⟨rfl,hB4⟩
 have H4:=zZ (Hz.out.trans (hB4.mono Hz.out.size))
 clear hB4 TR a0 a1 a2 e0 e1 e2 i0 i1 i2 yz
 by_cases hr:riseD x fl=true
 case neg=>
  replace hr:riseD x fl=false:=by simpa using hr
  have Hno2:=zZ (Hno.out hr)
  rw[hr]
  clear hr
  have q2:=HQ2.out _ H4.out
  have u0:=q2.cell (j:=0) rfl
  have u1:=q2.cell (j:=1) rfl
  have u2:=q2.cell (j:=2) rfl
  have z0:=q2.frozen 0
  have z1:=q2.frozen 1
  have z2:=q2.frozen 2
  have QQ:=zZ q2
  clear q2
  go_wp2
  have P9:=((QQ.out.set 0 (.int .i64 0)).set 1 (.int .i64 0)).set 2 (.slice none 0 0)
  refine ret_cell1 (d:=.struct _) (cs:=[.int .i64 0,.int .i64 0,.slice none 0 0]) rfl P9 rfl rfl rfl rfl rfl ?_
  unfold RObjD
  exact⟨0,0,none,0,0,false,rfl,(((HB2.out.trans (H4.out.mono HB2.out.size)).setCell (p:=⟨w.heap.size+2,0,none⟩) (by simp) _).setCell (p:=⟨w.heap.size+2,1,none⟩) (by simp) _).setCell (p:=⟨w.heap.size+2,2,none⟩) (by simp) _,.inr ⟨Hno2.out,rfl⟩⟩
 have Hns:=zZ (fun (k:Nat) (hk:k<fl) (hs:setF x k=none)=>not_set hr hk hs)
 have Hq:=zZ (Hobj.out hr)
 rw[hr]
 clear hr Hno Hobj
 obtain⟨a0,a1,a2,e0,e1,e2,i0,i1,i2⟩:=HS.out _ H4.out
 have hs4:=H4.out.size
 have hB5:Below w4.heap.size w4 (w4.alloc (.cells #[.int .i64 (i:Int),.int .i64 (t:Int),.slice none 0 0] 53)):=(zA _ w4).alloc (zW _) _
 have HB5:=zZ (H4.out.trans (hB5.mono H4.out.size))
 have P11:=zZ (Blk.new w4 53 [.int .i64 (i:Int),.int .i64 (t:Int),.slice none 0 0])
 have S5:Hid ((w4.alloc (.cells #[.int .i64 (i:Int),.int .i64 (t:Int),.slice none 0 0] 53)).heap.size=w4.heap.size+1):=zZ (by simp)
 clear hB5
 go_upto_region 9 with fail
 generalize w4.alloc (.cells #[.int .i64 (i:Int),.int .i64 (t:Int),.slice none 0 0] 53)=w5 at *
 clear a0 a1 a2 e0 e1 e2 i0 i1 i2
 have S24:Hid (w.heap.size+4≤w4.heap.size):=zZ (by have:=S1.out;have:=S2.out;omega)
 go_wp2
 go_loopw [12] (fun kv wr=>∃ (k:Nat) (vF:Value) (ys:List Value) (vs:List Vl),k≤fl∧kv=.int .i64 (k:Int)∧Hid (RowIn w4.heap.size 2 53 47 3 [.int .i64 (i:Int),.int .i64 (t:Int),.slice none 0 0] w5 vF k ys wr)∧Hid (Chunks 3 (fun cs x=>∀ S W,rVal S W cs x) ys vs)∧Hid (vs.length=k)∧Hid (valsD g l x 0 fs=(valsD g l x k (fs.drop k)).map (vs++·))) (fun kv _=>fl - (intOf kv).toNat)
 case atStart=>exact⟨0,.slice none 0 0,[],[],by omega,rfl,zZ (RowIn.start P11.out rfl),zZ Chunks.nil,zZ rfl,zZ (by simp)⟩
 case round=>
  rename World=>wr
  obtain⟨k,vF,ys,vs,hk',rfl,hI,hch,hvl,hva⟩:=hrel
  have hsr:=hI.out.bel.size
  have hs5:=S5.out
  have HBr:Hid (Below w2.heap.size w2 wr):=zZ (HB5.out.trans (hI.out.bel.mono hs4))
  obtain⟨AF2,cF2,hvF⟩:=own_slice3 hI.out.own
  subst hvF
  by_cases hkn:k<fl
  ·obtain⟨f,hf⟩:∃ f,fs[k]?=some f:=⟨_,zV (by have:=Hfl.out;omega)⟩
   obtain⟨bf,offf,sa,sb,hA1,hbf,-,f1,-,-,-,-,-,-⟩:=fld_at (Hfs.out wr HBr.out) hf
   subst hA1
   have Hmore:=zZ (fun v hg=>valsD_more (v:=v) hf hva.out hg)
   have Hstop:=zZ (fun hg=>valsD_stop hf hva.out hg)
   obtain⟨fa,fk,fb⟩:=f
   simp only at f1
   have Hf1:=zZ (fun W (hW:Below wr.heap.size wr W)=>(hW.cell (p:=⟨bf,offf+k * 3+1,none⟩) hbf).trans f1)
   have HSr:=zZ (fun W (hW:Below wr.heap.size wr W)=>HS.out W (HBr.out.trans (hW.mono HBr.out.size)))
   have TS:=zZ (rset_any Ax xc k x wr (Hcs.out wr (HB2.out.trans (HBr.out.mono HB2.out.size))))
   rw[Ht.out] at TS
   have hkl:(k:Int)<(fl:Int):=by omega
   have hk00:(0:Int)≤(k:Int):=by omega
   have Hkn:=zZ hkn
   clear hf f1 hbf hva hkn hk'
   obtain⟨a0,a1,a2,e0,e1,e2,i0,i1,i2⟩:=HSr.out _ (zA _ wr)
   go_wp2_with fail
   refine TS.out.mono ?_
   rintro e w6 ⟨sv,rfl,hsv,hsm,⟨hra,hrb⟩,hB6⟩
   clear a0 a1 a2 e0 e1 e2 i0 i1 i2 TS
   have Hrr:=zZ (And.intro hra hrb)
   have Hsv:=zZ hsv
   have Hsm:=zZ hsm
   have hB7:Below wr.heap.size wr (w6.alloc (.cells #[.int .i64 ((setF x k).getD vz).1,.string sv,.int .i64 ((setF x k).getD vz).2.2] 47)):=hB6.alloc hB6.size _
   have N7:=zZ (Blk.new w6 47 [.int .i64 ((setF x k).getD vz).1,.string sv,.int .i64 ((setF x k).getD vz).2.2])
   have HB7:=zZ hB7
   have HB6:=zZ hB6.size
   have HVD:Hid (valD g l x k (fa,fk,fb)=match setF x k with | some v=>some v | none=>if fk=5∧0≤((obD g x).2.2.getD k (0,[],0)).2.2 then (if fromD l ((obD g x).2.2.getD k (0,[],0)).2.2<0 then none else some (((obD g x).2.2.getD k (0,[],0)).1,((obD g x).2.2.getD k (0,[],0)).2.1,fromD l ((obD g x).2.2.getD k (0,[],0)).2.2)) else some ((obD g x).2.2.getD k (0,[],0))):=zZ (by rw[valD];cases setF x k <;> rfl)
   have Hns2:=zZ (Hns.out k Hkn.out)
   clear hra hrb hsv hsm hB6 hB7
   go_upto_region 13 with fail
   generalize w6.alloc (.cells #[.int .i64 ((setF x k).getD vz).1,.string sv,.int .i64 ((setF x k).getD vz).2.2] 47)=wz at *
   generalize w6.heap.size=g7 at *
   cases hsf:setF x k with
   | some v=>
    rw[hsf] at HVD N7 Hrr Hsv
    simp only[Option.getD_some,Option.isSome_some] at HVD N7 Hrr Hsv ⊢
    have Hva2:=zZ (Hmore.out _ HVD.out)
    clear hsf Hmore Hstop HVD Hns2
    obtain⟨vn,vb,vr⟩:=v
    simp only at N7 Hrr Hsv
    have pv:=N7.out
    have v0:=pv.cell (j:=0) rfl
    have v1:=pv.cell (j:=1) rfl
    have v2:=pv.cell (j:=2) rfl
    have hIz:=hI.out.more (by omega) HB7.out
    have d2:=hIz.bx.cell (j:=2) rfl
    have hsz:=HB7.out.size
    have t1:k+1≤maxLen:=by have:=Hkn.out;simp only[maxLen];omega
    have t2:(k+1) * 32≤140737488355328:=by have:=Hkn.out;omega
    have t3:w5.heap.size≤(wz.alloc (.cells #[.int .i64 vn,.string sv,.int .i64 vr] 47)).heap.size:=by simp only[World.size_alloc];omega
    have t4:=(Blk.new wz 47 [.int .i64 vn,.string sv,.int .i64 vr]).rd
    have t5:=hIz.own.alloc (.cells #[.int .i64 vn,.string sv,.int .i64 vr] 47)
    have f1:=Hf1.out wz HB7.out
    have Hvv:Hid (∀ S W,rVal S W [.int .i64 vn,.string sv,.int .i64 vr] (vn,vb,vr)):=zZ fun S W=>rVal_mk (v:=(vn,vb,vr)) Hsv.out Hsm.out (WalkArith.wf_i64 Hrr.out.1) (WalkArith.wf_i64 Hrr.out.2)
    clear pv hIz
    go_wp2_with (first
     | (at_builtin;refine wpList_apps rfl (.tmp 135) (.tmp 137) 51 rfl w5.heap.size 47 k0 (.agg #[.int .i64 0,.string ⟨#[]⟩,.int .i64 0]) 3 32 Tryz.underlying51 hk hx0 hx1 hx2 rfl (by omega) (.slice AF2 k cF2) k ys rfl t5 (some ⟨wz.heap.size,0,none⟩) 1 1 [.int .i64 vn,.string sv,.int .i64 vr] rfl rfl t4 (by simp[Value.oneCell']) t1 t2 t3 ?_;intro v4 w4' hown4 hg4 hv4;obtain⟨bx4,hR4⟩:=hI.out.step (by omega) HB7.out hg4 hown4;obtain⟨A4,c4,hv4e⟩:=own_slice3 hown4;subst hv4e;have e4:=bx4.cell (j:=2) rfl;have f4:=bx4.frozen 2;have HR4:=zZ hR4;clear hR4 hown4 hg4 hv4 bx4)
     | fail)
    go_roundw
    case rel=>clear hxa hxb hta htb hcm hdm hlc hlm hiln hil hi0 htl ht0 htN;exact⟨k+1,_,_,vs++[(vn,vb,vr)],Hkn.out,by go_num,HR4,zZ (hch.out.append (Chunks.one rfl Hvv.out)),zZ (by rw[List.length_append,hvl.out];rfl),Hva2⟩
    case measure=>clear hxa hxb hta htb hcm hdm hlc hlm hiln hil hi0 htl ht0 htN;have:=Hkn.out;simp[intOf];omega
   | none=>
    rw[hsf] at HVD N7 Hrr Hsv
    have h5:=Hns2.out hsf
    simp only[Option.getD_none,Option.isSome_none,vz] at HVD N7 Hrr Hsv ⊢
    clear hsf Hns2 Hrr Hsv Hsm
    obtain⟨J,hJ⟩:∃ J:Nat,x.1=(J:Int):=⟨x.1.toNat,by omega⟩
    have hJM:J<M:=by have:=HF2.out;omega
    obtain⟨ob,hob⟩:∃ ob,g.2.1[J]?=some ob:=⟨_,zV (by have:=HM.out;omega)⟩
    have hobD:obD g x=ob:=by rw[obD,hJ,Int.toNat_natCast,List.getD_eq_getElem?_getD,hob];rfl
    obtain⟨bo,offo,Ao,co,hBe,hbo,-,x1,x2,hov,-,-⟩:=ob_at (rGr_open (Hg.out _ (zA _ w))).2.1 hob
    have hJl:(J:Int)<(M:Int):=by omega
    have hJ0:(0:Int)≤(J:Int):=by omega
    have hot:=Hor.out h5
    rw[hobD] at hot HVD
    have hol:=Hmo.out ob (List.mem_of_getElem? hob)
    rw[hot,Hfsd.out,← Hfl.out] at hol
    obtain⟨ov,hovk⟩:∃ ov,ob.2.2[k]?=some ov:=⟨_,zV (by have:=Hkn.out;omega)⟩
    rw[List.getD_eq_getElem?_getD,hovk] at HVD
    simp only[Option.getD_some] at HVD
    obtain⟨bv,offv,so,hAve,hbv,w0',w1',w2',hso,hsom,hon,hor9⟩:=val_at hov hovk
    subst hAve
    rw[← hol] at x2
    obtain⟨vn,vb,vr⟩:=ov
    simp only at HVD w0' w1' w2' hso hon hor9
    have HSo:=zZ (fun W (hW:Below wr.heap.size wr W)=>And.intro (HSr.out W hW) (And.intro (((HB2.out.trans (HBr.out.mono HB2.out.size)).trans (hW.mono (HB2.out.trans (HBr.out.mono HB2.out.size)).size)).cell (p:=⟨bo,offo+J * 3+2,none⟩) hbo |>.trans x2) (And.intro (((HB2.out.trans (HBr.out.mono HB2.out.size)).trans (hW.mono (HB2.out.trans (HBr.out.mono HB2.out.size)).size)).cell (p:=⟨bv,offv+k * 3,none⟩) hbv |>.trans w0') (And.intro (((HB2.out.trans (HBr.out.mono HB2.out.size)).trans (hW.mono (HB2.out.trans (HBr.out.mono HB2.out.size)).size)).cell (p:=⟨bv,offv+k * 3+1,none⟩) hbv |>.trans w1') (((HB2.out.trans (HBr.out.mono HB2.out.size)).trans (hW.mono (HB2.out.trans (HBr.out.mono HB2.out.size)).size)).cell (p:=⟨bv,offv+k * 3+2,none⟩) hbv |>.trans w2')))))
    have HSr':=zZ HSr.out
    rw[hJ,hBe] at HSo
    have Hso:=zZ hso
    have Hsom:=zZ hsom
    have Hon:=zZ (And.intro hon hor9)
    have hkol:(k:Int)<(fl:Int):=hkl
    clear hob hobD hov x1 x2 hot hol hovk w0' w1' w2' hso hsom hon hor9 h5 hBe hJ
    have n7:=N7.out
    have g0:=n7.cell (j:=0) rfl
    have g1:=n7.cell (j:=1) rfl
    have g2:=n7.cell (j:=2) rfl
    have z0:=n7.frozen 0
    have z1:=n7.frozen 1
    have z2:=n7.frozen 2
    obtain⟨⟨a0,a1,a2,e0,e1,e2,i0,i1,i2⟩,s2,s3,s4,s5⟩:=HSo.out _ HB7.out
    clear n7
    go_upto_region 15 with fail
    have HB8:=zZ (((HB7.out.setCell (p:=⟨g7,0,none⟩) HB6.out (.int .i64 vn)).setCell (p:=⟨g7,1,none⟩) HB6.out (.string so)).setCell (p:=⟨g7,2,none⟩) HB6.out (.int .i64 vr))
    have N8:=zZ (((N7.out.set 0 (.int .i64 vn)).set 1 (.string so)).set 2 (.int .i64 vr))
    clear a0 a1 a2 e0 e1 e2 i0 i1 i2 s2 s3 s4 s5 g0 g1 g2 z0 z1 z2 N7 HB7
    generalize ((wz.setCell ⟨g7,0,none⟩ (.int .i64 vn)).setCell ⟨g7,1,none⟩ (.string so)).setCell ⟨g7,2,none⟩ (.int .i64 vr)=wy at *
    clear wz
    rename World=>wz
    by_cases hk5:fk=5
    case neg=>
     have hk5':(fk == 5)=false:=by simpa using hk5
     rw[if_neg (fun h=>hk5 h.1)] at HVD
     have Hva2:=zZ (Hmore.out _ HVD.out)
     clear Hmore Hstop HVD hk5
     have pv:=N8.out
     have v0:=pv.cell (j:=0) rfl
     have v1:=pv.cell (j:=1) rfl
     have v2:=pv.cell (j:=2) rfl
     have hIz:=hI.out.more (by omega) HB8.out
     have d2:=hIz.bx.cell (j:=2) rfl
     have hsz:=HB8.out.size
     have t1:k+1≤maxLen:=by have:=Hkn.out;simp only[maxLen];omega
     have t2:(k+1) * 32≤140737488355328:=by have:=Hkn.out;omega
     have t3:w5.heap.size≤(wz.alloc (.cells #[.int .i64 vn,.string so,.int .i64 vr] 47)).heap.size:=by simp only[World.size_alloc];omega
     have t4:=(Blk.new wz 47 [.int .i64 vn,.string so,.int .i64 vr]).rd
     have t5:=hIz.own.alloc (.cells #[.int .i64 vn,.string so,.int .i64 vr] 47)
     have f1:=Hf1.out wz HB8.out
     have Hvv:Hid (∀ S W,rVal S W [.int .i64 vn,.string so,.int .i64 vr] (vn,vb,vr)):=zZ fun S W=>rVal_mk (v:=(vn,vb,vr)) Hso.out Hsom.out (WalkArith.wf_i64 Hon.out.1) (WalkArith.wf_i64 Hon.out.2)
     clear pv hIz
     go_wp2_with (first
      | (at_builtin;refine wpList_apps rfl (.tmp 135) (.tmp 137) 51 rfl w5.heap.size 47 k0 (.agg #[.int .i64 0,.string ⟨#[]⟩,.int .i64 0]) 3 32 Tryz.underlying51 hk hx0 hx1 hx2 rfl (by omega) (.slice AF2 k cF2) k ys rfl t5 (some ⟨wz.heap.size,0,none⟩) 1 1 [.int .i64 vn,.string so,.int .i64 vr] rfl rfl t4 (by simp[Value.oneCell']) t1 t2 t3 ?_;intro v4 w4' hown4 hg4 hv4;obtain⟨bx4,hR4⟩:=hI.out.step (by omega) HB8.out hg4 hown4;obtain⟨A4,c4,hv4e⟩:=own_slice3 hown4;subst hv4e;have e4:=bx4.cell (j:=2) rfl;have f4:=bx4.frozen 2;have HR4:=zZ hR4;clear hR4 hown4 hg4 hv4 bx4)
      | fail)
     go_roundw
     case rel=>clear hxa hxb hta htb hcm hdm hlc hlm hiln hil hi0 htl ht0 htN hJl hJ0 hJM hkol;exact⟨k+1,_,_,vs++[(vn,vb,vr)],Hkn.out,by go_num,HR4,zZ (hch.out.append (Chunks.one rfl Hvv.out)),zZ (by rw[List.length_append,hvl.out];rfl),Hva2⟩
     case measure=>clear hxa hxb hta htb hcm hdm hlc hlm hiln hil hi0 htl ht0 htN hJl hJ0 hJM hkol;have:=Hkn.out;simp[intOf];omega
    subst hk5
    by_cases hvr:0≤vr
    case neg=>
     have hvr':decide (0≤vr)=false:=zK hvr
     rw[if_neg (fun h=>hvr h.2)] at HVD
     have Hva2:=zZ (Hmore.out _ HVD.out)
     clear Hmore Hstop HVD hvr
     have pv:=N8.out
     have v0:=pv.cell (j:=0) rfl
     have v1:=pv.cell (j:=1) rfl
     have v2:=pv.cell (j:=2) rfl
     have hIz:=hI.out.more (by omega) HB8.out
     have d2:=hIz.bx.cell (j:=2) rfl
     have hsz:=HB8.out.size
     have t1:k+1≤maxLen:=by have:=Hkn.out;simp only[maxLen];omega
     have t2:(k+1) * 32≤140737488355328:=by have:=Hkn.out;omega
     have t3:w5.heap.size≤(wz.alloc (.cells #[.int .i64 vn,.string so,.int .i64 vr] 47)).heap.size:=by simp only[World.size_alloc];omega
     have t4:=(Blk.new wz 47 [.int .i64 vn,.string so,.int .i64 vr]).rd
     have t5:=hIz.own.alloc (.cells #[.int .i64 vn,.string so,.int .i64 vr] 47)
     have f1:=Hf1.out wz HB8.out
     have Hvv:Hid (∀ S W,rVal S W [.int .i64 vn,.string so,.int .i64 vr] (vn,vb,vr)):=zZ fun S W=>rVal_mk (v:=(vn,vb,vr)) Hso.out Hsom.out (WalkArith.wf_i64 Hon.out.1) (WalkArith.wf_i64 Hon.out.2)
     clear pv hIz
     go_wp2_with (first
      | (at_builtin;refine wpList_apps rfl (.tmp 135) (.tmp 137) 51 rfl w5.heap.size 47 k0 (.agg #[.int .i64 0,.string ⟨#[]⟩,.int .i64 0]) 3 32 Tryz.underlying51 hk hx0 hx1 hx2 rfl (by omega) (.slice AF2 k cF2) k ys rfl t5 (some ⟨wz.heap.size,0,none⟩) 1 1 [.int .i64 vn,.string so,.int .i64 vr] rfl rfl t4 (by simp[Value.oneCell']) t1 t2 t3 ?_;intro v4 w4' hown4 hg4 hv4;obtain⟨bx4,hR4⟩:=hI.out.step (by omega) HB8.out hg4 hown4;obtain⟨A4,c4,hv4e⟩:=own_slice3 hown4;subst hv4e;have e4:=bx4.cell (j:=2) rfl;have f4:=bx4.frozen 2;have HR4:=zZ hR4;clear hR4 hown4 hg4 hv4 bx4)
      | fail)
     go_roundw
     case rel=>clear hxa hxb hta htb hcm hdm hlc hlm hiln hil hi0 htl ht0 htN hJl hJ0 hJM hkol;exact⟨k+1,_,_,vs++[(vn,vb,vr)],Hkn.out,by go_num,HR4,zZ (hch.out.append (Chunks.one rfl Hvv.out)),zZ (by rw[List.length_append,hvl.out];rfl),Hva2⟩
     case measure=>clear hxa hxb hta htb hcm hdm hlc hlm hiln hil hi0 htl ht0 htN hJl hJ0 hJM hkol;have:=Hkn.out;simp[intOf];omega
    have hvr':decide (0≤vr)=true:=zJ hvr
    rw[if_pos ⟨rfl,hvr⟩] at HVD
    have TF:=zZ (TFr.out _ ((HB2.out.trans (HBr.out.mono HB2.out.size)).trans (HB8.out.mono (HB2.out.trans (HBr.out.mono HB2.out.size)).size)) vr)
    have hfr:=HF1.out vr
    have f1:=Hf1.out _ HB8.out
    obtain⟨a0,a1,a2,e0,e1,e2,i0,i1,i2⟩:=HSr.out _ HB8.out
    have g2:=N8.out.cell (j:=2) rfl
    clear hvr
    generalize fromD l vr=fd at *
    go_wp2_with fail
    refine TF.out.mono ?_
    rintro e w9 ⟨rfl,hB9⟩
    have HB9:=zZ (HB8.out.trans (hB9.mono HB8.out.size))
    have N9:=zZ (N8.out.to hB9)
    clear hB9 TF a0 a1 a2 e0 e1 e2 i0 i1 i2 g2 f1
    have g2:=N9.out.cell (j:=2) rfl
    have z2:=N9.out.frozen 2
    go_upto_region 17 with fail
    have HB10:=zZ (HB9.out.setCell (p:=⟨g7,2,none⟩) HB6.out (.int .i64 fd))
    have N10:=zZ (N9.out.set 2 (.int .i64 fd))
    clear g2 z2 N9 HB9 N8 HB8
    generalize w9.setCell ⟨g7,2,none⟩ (.int .i64 fd)=wy at *
    clear w9 wz
    rename World=>wz
    have g2:=N10.out.cell (j:=2) rfl
    by_cases hfd:fd<0
    ·have hfd':decide (fd<0)=true:=zJ hfd
     rw[if_pos hfd] at HVD
     have Hno3:Hid (objD g l i x=none):=zZ (by rw[Hq.out,Hstop.out HVD.out];rfl)
     have HBz:=zZ (HBr.out.trans (HB10.out.mono HBr.out.size))
     clear Hmore Hstop HVD hfd
     have q2:=HQ2.out _ HBz.out
     have u0:=q2.cell (j:=0) rfl
     have u1:=q2.cell (j:=1) rfl
     have u2:=q2.cell (j:=2) rfl
     have z0:=q2.frozen 0
     have z1:=q2.frozen 1
     have z2:=q2.frozen 2
     have QQ:=zZ q2
     clear q2
     go_wp2
     have P9:=((QQ.out.set 0 (.int .i64 0)).set 1 (.int .i64 0)).set 2 (.slice none 0 0)
     refine ret_cell1 (d:=.struct _) (cs:=[.int .i64 0,.int .i64 0,.slice none 0 0]) rfl P9 rfl rfl rfl rfl rfl ?_
     unfold RObjD
     exact⟨0,0,none,0,0,false,rfl,(((HB2.out.trans (HBz.out.mono HB2.out.size)).setCell (p:=⟨w.heap.size+2,0,none⟩) (by simp) _).setCell (p:=⟨w.heap.size+2,1,none⟩) (by simp) _).setCell (p:=⟨w.heap.size+2,2,none⟩) (by simp) _,.inr ⟨Hno3.out,rfl⟩⟩
    ·have hfd':decide (fd<0)=false:=zK hfd
     rw[if_neg hfd] at HVD
     have Hva2:=zZ (Hmore.out _ HVD.out)
     have Hon2:=zZ (And.intro Hon.out.1 (show -9223372036854775808≤fd∧fd≤9223372036854775807 from ⟨by omega,by have:=Hlen.out;omega⟩))
     clear Hmore Hstop HVD hfd hfr g2
     generalize vr=vro at *
     generalize fd=vr at *
     have pv:=N10.out
     have v0:=pv.cell (j:=0) rfl
     have v1:=pv.cell (j:=1) rfl
     have v2:=pv.cell (j:=2) rfl
     have hIz:=hI.out.more (by omega) HB10.out
     have d2:=hIz.bx.cell (j:=2) rfl
     have hsz:=HB10.out.size
     have t1:k+1≤maxLen:=by have:=Hkn.out;simp only[maxLen];omega
     have t2:(k+1) * 32≤140737488355328:=by have:=Hkn.out;omega
     have t3:w5.heap.size≤(wz.alloc (.cells #[.int .i64 vn,.string so,.int .i64 vr] 47)).heap.size:=by simp only[World.size_alloc];omega
     have t4:=(Blk.new wz 47 [.int .i64 vn,.string so,.int .i64 vr]).rd
     have t5:=hIz.own.alloc (.cells #[.int .i64 vn,.string so,.int .i64 vr] 47)
     have f1:=Hf1.out wz HB10.out
     have Hvv:Hid (∀ S W,rVal S W [.int .i64 vn,.string so,.int .i64 vr] (vn,vb,vr)):=zZ fun S W=>rVal_mk (v:=(vn,vb,vr)) Hso.out Hsom.out (WalkArith.wf_i64 Hon2.out.1) (WalkArith.wf_i64 Hon2.out.2)
     clear pv hIz
     go_wp2_with (first
      | (at_builtin;refine wpList_apps rfl (.tmp 135) (.tmp 137) 51 rfl w5.heap.size 47 k0 (.agg #[.int .i64 0,.string ⟨#[]⟩,.int .i64 0]) 3 32 Tryz.underlying51 hk hx0 hx1 hx2 rfl (by omega) (.slice AF2 k cF2) k ys rfl t5 (some ⟨wz.heap.size,0,none⟩) 1 1 [.int .i64 vn,.string so,.int .i64 vr] rfl rfl t4 (by simp[Value.oneCell']) t1 t2 t3 ?_;intro v4 w4' hown4 hg4 hv4;obtain⟨bx4,hR4⟩:=hI.out.step (by omega) HB10.out hg4 hown4;obtain⟨A4,c4,hv4e⟩:=own_slice3 hown4;subst hv4e;have e4:=bx4.cell (j:=2) rfl;have f4:=bx4.frozen 2;have HR4:=zZ hR4;clear hR4 hown4 hg4 hv4 bx4)
      | fail)
     go_roundw
     case rel=>clear hxa hxb hta htb hcm hdm hlc hlm hiln hil hi0 htl ht0 htN hJl hJ0 hJM hkol;exact⟨k+1,_,_,vs++[(vn,vb,vr)],Hkn.out,by go_num,HR4,zZ (hch.out.append (Chunks.one rfl Hvv.out)),zZ (by rw[List.length_append,hvl.out];rfl),Hva2⟩
     case measure=>clear hxa hxb hta htb hcm hdm hlc hlm hiln hil hi0 htl ht0 htN hJl hJ0 hJM hkol;have:=Hkn.out;simp[intOf];omega
  ·have hko:k=fl:=by omega
   have hva9:=hva.out
   rw[List.drop_of_length_le (by have:=Hfl.out;omega),valsD] at hva9
   simp only[Option.map_some,List.append_nil] at hva9
   have Hqq:Hid (objD g l i x=some ((i:Int),(t:Int),vs)):=zZ (by rw[Hq.out,hva9];rfl)
   have c0:=hI.out.bx.cell (j:=0) rfl
   have c1:=hI.out.bx.cell (j:=1) rfl
   have c2:=hI.out.bx.cell (j:=2) rfl
   have q2:=HQ2.out _ HBr.out
   have e0:=q2.cell (j:=0) rfl
   have e1:=q2.cell (j:=1) rfl
   have e2:=q2.cell (j:=2) rfl
   have z0:=q2.frozen 0
   have z1:=q2.frozen 1
   have z2:=q2.frozen 2
   have QQ:=zZ q2
   have hv9:=own_vals hI.out.own hvl.out hch.out
   have Hv9:=zZ hv9
   have Hown:=zZ hI.out.own.lt
   have hs24:=S24.out
   have Hs9:Hid (w.heap.size+4≤w5.heap.size):=zZ (by omega)
   have hil9:¬ ((k:Int)<(fl:Int)):=by omega
   have Ht9:Hid ((Lit.int .i64 (t:Int)).wf=true):=zZ (WalkArith.wf_i64 Hwx.out)
   clear hva9 hva hv9 q2 hI hch hkn hko hk' hsr hs5 hs24 hvl
   go_wp2
   have P9:=((QQ.out.set 0 (.int .i64 (i:Int))).set 1 (.int .i64 (t:Int))).set 2 (.slice AF2 k cF2)
   refine ret_cell1 (d:=.struct _) (cs:=[.int .i64 (i:Int),.int .i64 (t:Int),.slice AF2 k cF2]) rfl P9 rfl rfl rfl rfl rfl ?_
   unfold RObjD
   refine⟨(i:Int),(t:Int),AF2,k,cF2,true,rfl,(((HB2.out.trans (HBr.out.mono HB2.out.size)).setCell (p:=⟨w.heap.size+2,0,none⟩) (by simp) _).setCell (p:=⟨w.heap.size+2,1,none⟩) (by simp) _).setCell (p:=⟨w.heap.size+2,2,none⟩) (by simp) _,.inl ⟨((i:Int),(t:Int),vs),Hqq.out,rfl,?_⟩⟩
   refine rOb_mk (o:=((i:Int),(t:Int),vs)) Hi9.out Ht9.out (rVals_stays.to (fun b hb=>⟨⟨?_,?_⟩,?_⟩) Hv9.out)
   ·have:=(Hown.out b hb).1;have:=Hs9.out;omega
   ·have:=(Hown.out b hb).2;simpa using this
   ·have hne:b≠w.heap.size+2:=by have:=(Hown.out b hb).1;have:=Hs9.out;omega
    rw[Below.heap_setCell _ _ _ _ hne,Below.heap_setCell _ _ _ _ hne,Below.heap_setCell _ _ _ _ hne]
end Go.Proofs.YtnljjnkindjeoaaGreatDoor
