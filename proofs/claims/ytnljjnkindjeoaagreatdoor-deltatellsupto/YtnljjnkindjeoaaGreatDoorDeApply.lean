/- The contract of delta's Apply: the document's one. Conditions: the table of kinds' texts is laid; at most 1000000 items. -/
import Derived.Test.YtnljjnkindjeoaaGreatDoorDeBuild
import Derived.Test.YtnljjnkindjeoaaGreatDoorDeAvoid
import Derived.Test.YtnljjnkindjeoaaGreatDoorGCode
import Derived.Test.YtnljjnkindjeoaaGreatDoorGCanon
import Derived.Test.YtnljjnkindjeoaaGreatDoorAl
set_option maxRecDepth 100000
set_option maxHeartbeats 4000000
namespace Go.Proofs.YtnljjnkindjeoaaGreatDoor
open Go.RowKit Go.Maps
theorem gr_set3 {w:World} {b:Nat} {t:TypeId} {cs:List Value} {g:Gr} {x y z:Value} (hb:Blk w b t [.slice none 0 0,.slice none 0 0,.slice none 0 0]) (h:rGr (All w) w cs g):
  rGr (All (((w.setCell ⟨b,0,none⟩ x).setCell ⟨b,1,none⟩ y).setCell ⟨b,2,none⟩ z)) (((w.setCell ⟨b,0,none⟩ x).setCell ⟨b,1,none⟩ y).setCell ⟨b,2,none⟩ z) cs g:=by
 refine rGr_stays.to (fun k hk=>⟨by simp only[All,World.size_setCell];exact hk.1,?_⟩) (avoid_gr (blk_shy hb) h)
 rw[Below.heap_setCell _ _ _ _ (show k≠b from hk.2),Below.heap_setCell _ _ _ _ (show k≠b from hk.2),Below.heap_setCell _ _ _ _ (show k≠b from hk.2)]
theorem dapply_any (A B C:Option Addr) (N c M d K e:Nat) (g:Gr) (R L:Option Addr) (rn rc ln lc:Nat) (q:Dlt) (w:World) (hKt:Kt w) (h:rGr (All w) w [.slice A N c,.slice B M d,.slice C K e] g) (hq:rDlt (All w) w [.int .u32 q.1,.slice R rn rc,.slice L ln lc] q) (hln:ln≤1000000):
  Calls Tryz.prog 9 #[.agg #[.slice A N c,.slice B M d,.slice C K e],.agg #[.int .u32 q.1,.slice R rn rc,.slice L ln lc]] w fun r w'=>∃ A1 c1 B1 d1 C1 e1,r=.returned (.tuple #[.agg #[.slice A1 (applyD g q).1.1.length c1,.slice B1 (applyD g q).1.2.1.length d1,.slice C1 (applyD g q).1.2.2.length e1],.int .i64 (applyD g q).2]) ∧
   rGr (All w') w' [.slice A1 (applyD g q).1.1.length c1,.slice B1 (applyD g q).1.2.1.length d1,.slice C1 (applyD g q).1.2.2.length e1] (applyD g q).1∧Below w.heap.size w w':=by
 rw[← applyQ_eq]
 have hB0:Below w.heap.size w (((w.alloc (.cells #[.slice A N c,.slice B M d,.slice C K e] 28)).alloc (.cells #[.int .u32 q.1,.slice R rn rc,.slice L ln lc] 32)).alloc (.cells #[.slice none 0 0,.slice none 0 0,.slice none 0 0] 28)):=(((zA _ w).alloc (zW _) _).alloc (by simp) _).alloc (by simp;omega) _
 obtain⟨p0,p1,p2⟩:=blk_three w 28 32 28 [.slice A N c,.slice B M d,.slice C K e] [.int .u32 q.1,.slice R rn rc,.slice L ln lc] [.slice none 0 0,.slice none 0 0,.slice none 0 0]
 have T1:=zZ (csum_any A B C N c M d K e g _ (hKt.below hB0) (gr_below hB0 h))
 have Hg:=zZ (gr_below hB0 h)
 have Hqq:=zZ (dlt_below hB0 hq)
 have HB0:=zZ hB0
 have P0:=zZ p0
 have P1:=zZ p1
 have P2:=zZ p2
 have c0:=p0.cell (j:=0) rfl
 have c1:=p0.cell (j:=1) rfl
 have c2:=p0.cell (j:=2) rfl
 have Hap:Hid (applyQ g q=if codeE g≠0 then (([],[],[]),codeE g) else if (codeS g:Int)≠q.1 then (([],[],[]),7)
  else match buildQ (canonG g) q.2.2 with
   | none=>(([],[],[]),2)
   | some l=>if canonG ((canonG g).1,l,q.2.1)=((canonG g).1,l,q.2.1) then (((canonG g).1,l,q.2.1),0) else (([],[],[]),2)):=zZ rfl
 have Hcm:Hid (codeE g=0→mayG (canonG g)=true):=zZ fun e=>canon_may (codeE_may e)
 clear h hq hB0 p0 p1 p2 hKt
 generalize hu:q.1=u at *
 have Hu:=zZ hu
 clear hu
 go_enter Tryz.func9,Tryz.ntmps9
 go_wp2_with fail
 generalize ((w.alloc (.cells #[.slice A N c,.slice B M d,.slice C K e] 28)).alloc (.cells #[.int .u32 u,.slice R rn rc,.slice L ln lc] 32)).alloc (.cells #[.slice none 0 0,.slice none 0 0,.slice none 0 0] 28)=w1 at *
 refine T1.out.mono ?_
 rintro e w2 ⟨rfl,hB2⟩
 have H12:=zZ hB2
 have H2:=zZ (HB0.out.trans (hB2.mono HB0.out.size))
 clear hB2 T1 c0 c1 c2
 have r2:=P2.out.to H12.out
 have y0:=r2.cell (j:=0) rfl
 have y1:=r2.cell (j:=1) rfl
 have y2:=r2.cell (j:=2) rfl
 have g0:=r2.frozen 0
 have g1:=r2.frozen 1
 have g2:=r2.frozen 2
 by_cases he:codeE g=0
 rotate_left
 ·have he':(codeE g != 0)=true:=by simp[he]
  have Hq:Hid (applyQ g q=(([],[],[]),codeE g)):=zZ (by rw[Hap.out,if_pos he])
  clear he Hap Hcm
  generalize codeE g=er at *
  go_wp2
  have P9:=((r2.set 0 (.slice none 0 0)).set 1 (.slice none 0 0)).set 2 (.slice none 0 0)
  refine ret_cell1 (d:=.struct _) (cs:=[.slice none 0 0,.slice none 0 0,.slice none 0 0]) rfl P9 rfl rfl rfl rfl rfl ?_
  rw[Hq.out]
  refine⟨none,0,none,0,none,0,rfl,rGr_none _,?_⟩
  exact ((H2.out.setCell (p:=⟨w.heap.size+2,0,none⟩) (by simp) (.slice none 0 0)).setCell (p:=⟨w.heap.size+2,1,none⟩) (by simp) (.slice none 0 0)).setCell (p:=⟨w.heap.size+2,2,none⟩) (by simp) (.slice none 0 0)
 have hcm:=Hcm.out he
 have he':(codeE g != 0)=false:=by simp[he]
 rw[if_neg (by simpa using he)] at Hap
 clear he Hcm
 generalize codeE g=er at *
 have d0:=(P1.out.to H12.out).cell (j:=0) rfl
 by_cases hs:(codeS g:Int)=u
 rotate_left
 ·have hs':((codeS g:Int) != u)=true:=by simp[hs]
  have Hq:Hid (applyQ g q=(([],[],[]),7)):=zZ (by rw[Hap.out,if_pos hs])
  clear hs Hap
  generalize (codeS g:Int)=sm at *
  go_wp2
  have P9:=((r2.set 0 (.slice none 0 0)).set 1 (.slice none 0 0)).set 2 (.slice none 0 0)
  refine ret_cell1 (d:=.struct _) (cs:=[.slice none 0 0,.slice none 0 0,.slice none 0 0]) rfl P9 rfl rfl rfl rfl rfl ?_
  rw[Hq.out]
  refine⟨none,0,none,0,none,0,rfl,rGr_none _,?_⟩
  exact ((H2.out.setCell (p:=⟨w.heap.size+2,0,none⟩) (by simp) (.slice none 0 0)).setCell (p:=⟨w.heap.size+2,1,none⟩) (by simp) (.slice none 0 0)).setCell (p:=⟨w.heap.size+2,2,none⟩) (by simp) (.slice none 0 0)
 have hs':((codeS g:Int) != u)=false:=by simp[hs]
 rw[if_neg (by simpa using hs)] at Hap
 clear hs r2 y0 y1 y2 g0 g1 g2
 generalize (codeS g:Int)=sm at *
 have HS:=zZ (fun (W:World) (hW:Below w2.heap.size w2 W)=>And.intro ((P0.out.to (H12.out.trans (hW.mono H12.out.size))).cell (j:=0) rfl) (And.intro ((P0.out.to (H12.out.trans (hW.mono H12.out.size))).cell (j:=1) rfl) (And.intro ((P0.out.to (H12.out.trans (hW.mono H12.out.size))).cell (j:=2) rfl)
  (And.intro ((P1.out.to (H12.out.trans (hW.mono H12.out.size))).cell (j:=0) rfl) (And.intro ((P1.out.to (H12.out.trans (hW.mono H12.out.size))).cell (j:=1) rfl) ((P1.out.to (H12.out.trans (hW.mono H12.out.size))).cell (j:=2) rfl))))))
 have HG2:=zZ (gr_below H12.out Hg.out)
 have HQ2:=zZ (dlt_below H12.out Hqq.out)
 have R2:=zZ (P2.out.to H12.out)
 clear Hg Hqq H12 P0 P1 P2 HB0
 go_upto_region 6 with fail
 clear d0
 go_cut [8,9] (fun v8 v9 wx=>∃ b8 A1 c1 B1 d1 C1 e1,v8=.pointer (some ⟨b8,0,none⟩)∧v9=.bool (buildQ (canonG g) q.2.2).isSome∧Blk wx b8 28 [.slice A1 (buildG (canonG g) q).1.length c1,.slice B1 (buildG (canonG g) q).2.1.length d1,.slice C1 (buildG (canonG g) q).2.2.length e1] ∧
  rGr (All wx) wx [.slice A1 (buildG (canonG g) q).1.length c1,.slice B1 (buildG (canonG g) q).2.1.length d1,.slice C1 (buildG (canonG g) q).2.2.length e1] (buildG (canonG g) q)∧w2.heap.size≤b8∧Below w2.heap.size w2 wx)
 case first=>
  have hu:=Hu.out
  clear Hu
  subst hu
  have TC:=zZ (fun W (hW:Below w2.heap.size w2 W)=>canon_any A B C N c M d K e g W (gr_below hW HG2.out))
  have TB:=zZ (fun W (hW:Below w2.heap.size w2 W) A4 c4 B4 d4 C4 e4 (h4:rGr (All W) W [.slice A4 (canonG g).1.length c4,.slice B4 (canonG g).2.1.length d4,.slice C4 (canonG g).2.2.length e4] (canonG g))=>build_any A4 B4 C4 (canonG g).1.length c4 (canonG g).2.1.length d4 (canonG g).2.2.length e4 (canonG g) R L rn rc ln lc q W hcm h4 (dlt_below hW HQ2.out) hln)
  clear HG2 HQ2 R2 Hap H2 hcm
  generalize q.1=u at *
  generalize (canonG g).1.length=N1 at *
  generalize (canonG g).2.1.length=M1 at *
  generalize (canonG g).2.2.length=K1 at *
  generalize (buildQ (canonG g) q.2.2).isSome=bq at *
  refine fr_start (fun W=>W.cell? ⟨w.heap.size,0,none⟩=some (.slice A N c)∧W.cell? ⟨w.heap.size,1,none⟩=some (.slice B M d)∧W.cell? ⟨w.heap.size,2,none⟩=some (.slice C K e)∧W.cell? ⟨w.heap.size+1,0,none⟩=some (.int .u32 u)∧W.cell? ⟨w.heap.size+1,1,none⟩=some (.slice R rn rc)∧W.cell? ⟨w.heap.size+1,2,none⟩=some (.slice L ln lc)) 10 (by kernel_rfl) rfl (fun _ _ _ _ _ h=>h) (HS.out _ (zA _ w2).drew) (fun hH=>?_)
  have hD:=(zA w2.heap.size w2).drew
  have hDs:w2.heap.size≤w2.drew.heap.size:=hD.size
  generalize w2.drew=wd at *
  (refine fr_yes 0 (v:=?_) rfl (by kernel_rfl) rfl ?_ hH ?_;rotate_left;(focus ((rintro W ⟨hW1,hW2,hW3,hW4,hW5,hW6⟩;go_simp) <;> with_reducible rfl));simp only[Act.put,zY,zX,zQ]);(refine fr_yes 2 (v:=?_) rfl (by kernel_rfl) rfl ?_ hH ?_;rotate_left;(focus ((rintro W ⟨hW1,hW2,hW3,hW4,hW5,hW6⟩;go_simp) <;> with_reducible rfl));simp only[Act.put,zY,zX,zQ])
  refine fr_op [1,7] (by kernel_rfl) (by simp) ?_;intro jj hjj;simp only[List.mem_cons,List.not_mem_nil,or_false] at hjj;rcases hjj with rfl | rfl
  ·refine⟨_,rfl,rfl,fun K hK=>?_⟩
   go_wp2_with (go_at_call 20;refine (TC.out _ hD).mono ?_;rintro e w4 ⟨A4,c4,B4,d4,C4,e4,rfl,hr4,hB4⟩)
   have hD4:=hD.trans (hB4.mono hD.size)
   refine hK.out _ _ (HS.out _ hD4) ?_
   clear hK hH hB4
   have hH:=HS.out _ hD4
   refine fr_op [3,7] (by kernel_rfl) (by simp) ?_;intro jj hjj;simp only[List.mem_cons,List.not_mem_nil,or_false] at hjj;rcases hjj with rfl | rfl
   ·refine⟨_,rfl,rfl,fun K hK=>?_⟩
    go_wp2_with (go_at_call 32;refine (TB.out _ hD4 _ _ _ _ _ _ hr4).mono ?_;rintro e w5 ⟨A5,c5,B5,d5,C5,e5,rfl,hr5,hB5⟩)
    have hD5:=hD4.trans (hB5.mono hD4.size)
    refine hK.out _ _ (HS.out _ hD5) ?_
    clear hK hH hB5
    have hH:=HS.out _ hD5
    (refine fr_yes 4 (v:=?_) rfl (by kernel_rfl) rfl ?_ hH ?_;rotate_left;(focus ((rintro W ⟨hW1,hW2,hW3,hW4,hW5,hW6⟩;go_simp) <;> with_reducible rfl));simp only[Act.put,zY,zX,zQ]);(refine fr_yes 5 (v:=?_) rfl (by kernel_rfl) rfl ?_ hH ?_;rotate_left;(focus ((rintro W ⟨hW1,hW2,hW3,hW4,hW5,hW6⟩;go_simp) <;> with_reducible rfl));simp only[Act.put,zY,zX,zQ]);(refine fr_yes 6 (v:=?_) rfl (by kernel_rfl) rfl ?_ hH ?_;rotate_left;(focus ((rintro W ⟨hW1,hW2,hW3,hW4,hW5,hW6⟩;go_simp) <;> with_reducible rfl));simp only[Act.put,zY,zX,zQ])
    refine fr_op [7] (by kernel_rfl) (by simp) ?_;intro jj hjj;simp only[List.mem_cons,List.not_mem_nil,or_false] at hjj;subst hjj;refine⟨_,rfl,rfl,fun K hK=>?_⟩
    go_wp2
    have hDz:=hD5.alloc hD5.size (.cells #[.slice none 0 0,.slice none 0 0,.slice none 0 0] 28)
    refine hK.out _ _ (HS.out _ hDz) ?_
    clear hK hH
    refine fr_op [8] (by kernel_rfl) (by simp) ?_;intro jj hjj;simp only[List.mem_cons,List.not_mem_nil,or_false] at hjj;subst hjj;refine⟨_,rfl,rfl,fun K hK=>?_⟩
    go_wp2
    have hDe:=hD5.alloc hD5.size (.cells #[.slice A5 (buildG (canonG g) q).1.length c5,.slice B5 (buildG (canonG g) q).2.1.length d5,.slice C5 (buildG (canonG g) q).2.2.length e5] 28)
    refine hK.out _ _ (HS.out _ hDe) ?_
    clear hK
    have hH:=HS.out _ hDe
    (refine fr_yes 9 (v:=?_) rfl (by kernel_rfl) rfl ?_ hH ?_;rotate_left;(focus ((rintro W ⟨hW1,hW2,hW3,hW4,hW5,hW6⟩;go_simp) <;> with_reducible rfl));simp only[Act.put,zY,zX,zQ])
    refine fr_done (by kernel_rfl) ?_
    go_wp2
    go_meet
    case rel=>exact⟨_,A5,c5,B5,d5,C5,e5,rfl,rfl,Blk.new _ _ _,gr_below ((zA _ _).alloc (zW _) _) hr5,hD5.size,hDe⟩
   ·refine⟨_,rfl,rfl,fun K hK=>?_⟩
    go_wp2
    have hDz:=hD4.alloc hD4.size (.cells #[.slice none 0 0,.slice none 0 0,.slice none 0 0] 28)
    have vz:=Blk.new w4 28 [.slice none 0 0,.slice none 0 0,.slice none 0 0]
    have hr4z:=gr_below ((zA _ w4).alloc (zW _) (.cells #[.slice none 0 0,.slice none 0 0,.slice none 0 0] 28)) hr4
    refine hK.out _ _ (HS.out _ hDz) ?_
    clear hK hH
    have hH:=HS.out _ hDz
    have hb8:=hD4.size
    generalize w4.alloc (.cells #[.slice none 0 0,.slice none 0 0,.slice none 0 0] 28)=wz at *
    refine fr_op [3] (by kernel_rfl) (by simp) ?_;intro jj hjj;simp only[List.mem_cons,List.not_mem_nil,or_false] at hjj;subst hjj;refine⟨_,rfl,rfl,fun K hK=>?_⟩
    go_wp2_with (go_at_call 32;refine (TB.out _ hDz _ _ _ _ _ _ hr4z).mono ?_;rintro e w5 ⟨A5,c5,B5,d5,C5,e5,rfl,hr5,hB5⟩)
    have hD5:=hDz.trans (hB5.mono hDz.size)
    have vg:=vz.to hB5
    refine hK.out _ _ (HS.out _ hD5) ?_
    clear hK hH hB5 vz hr4 hr4z
    have hH:=HS.out _ hD5
    (refine fr_yes 4 (v:=?_) rfl (by kernel_rfl) rfl ?_ hH ?_;rotate_left;(focus ((rintro W ⟨hW1,hW2,hW3,hW4,hW5,hW6⟩;go_simp) <;> with_reducible rfl));simp only[Act.put,zY,zX,zQ]);(refine fr_yes 5 (v:=?_) rfl (by kernel_rfl) rfl ?_ hH ?_;rotate_left;(focus ((rintro W ⟨hW1,hW2,hW3,hW4,hW5,hW6⟩;go_simp) <;> with_reducible rfl));simp only[Act.put,zY,zX,zQ]);(refine fr_yes 6 (v:=?_) rfl (by kernel_rfl) rfl ?_ hH ?_;rotate_left;(focus ((rintro W ⟨hW1,hW2,hW3,hW4,hW5,hW6⟩;go_simp) <;> with_reducible rfl));simp only[Act.put,zY,zX,zQ])
    have z0:=vg.cell (j:=0) rfl
    have z1:=vg.cell (j:=1) rfl
    have z2:=vg.cell (j:=2) rfl
    have f0:=vg.frozen 0
    have f1:=vg.frozen 1
    have f2:=vg.frozen 2
    refine fr_op [8] (by kernel_rfl) (by simp) ?_;intro jj hjj;simp only[List.mem_cons,List.not_mem_nil,or_false] at hjj;subst hjj;refine⟨_,rfl,rfl,fun K hK=>?_⟩
    go_wp2
    have hDe:=((hD5.setCell (p:=⟨w4.heap.size,0,none⟩) hb8 (.slice A5 (buildG (canonG g) q).1.length c5)).setCell (p:=⟨w4.heap.size,1,none⟩) hb8 (.slice B5 (buildG (canonG g) q).2.1.length d5)).setCell (p:=⟨w4.heap.size,2,none⟩) hb8 (.slice C5 (buildG (canonG g) q).2.2.length e5)
    refine hK.out _ _ (HS.out _ hDe) ?_
    clear hK hH
    have hH:=HS.out _ hDe
    (refine fr_yes 9 (v:=?_) rfl (by kernel_rfl) rfl ?_ hH ?_;rotate_left;(focus ((rintro W ⟨hW1,hW2,hW3,hW4,hW5,hW6⟩;go_simp) <;> with_reducible rfl));simp only[Act.put,zY,zX,zQ])
    refine fr_done (by kernel_rfl) ?_
    go_wp2
    go_meet
    case rel=>exact⟨_,A5,c5,B5,d5,C5,e5,rfl,rfl,((vg.set 0 _).set 1 _).set 2 _,gr_set3 vg hr5,hb8,hDe⟩
  ·refine⟨_,rfl,rfl,fun K hK=>?_⟩
   go_wp2
   have hDz:=hD.alloc hD.size (.cells #[.slice none 0 0,.slice none 0 0,.slice none 0 0] 28)
   have vz:=Blk.new wd 28 [.slice none 0 0,.slice none 0 0,.slice none 0 0]
   refine hK.out _ _ (HS.out _ hDz) ?_
   clear hK hH
   have hH:=HS.out _ hDz
   generalize wd.alloc (.cells #[.slice none 0 0,.slice none 0 0,.slice none 0 0] 28)=wz at *
   refine fr_op [1] (by kernel_rfl) (by simp) ?_;intro jj hjj;simp only[List.mem_cons,List.not_mem_nil,or_false] at hjj;subst hjj;refine⟨_,rfl,rfl,fun K hK=>?_⟩
   go_wp2_with (go_at_call 20;refine (TC.out _ hDz).mono ?_;rintro e w4 ⟨A4,c4,B4,d4,C4,e4,rfl,hr4,hB4⟩)
   have hD4:=hDz.trans (hB4.mono hDz.size)
   have vy:=vz.to hB4
   refine hK.out _ _ (HS.out _ hD4) ?_
   clear hK hH hB4 vz
   have hH:=HS.out _ hD4
   refine fr_op [3] (by kernel_rfl) (by simp) ?_;intro jj hjj;simp only[List.mem_cons,List.not_mem_nil,or_false] at hjj;subst hjj;refine⟨_,rfl,rfl,fun K hK=>?_⟩
   go_wp2_with (go_at_call 32;refine (TB.out _ hD4 _ _ _ _ _ _ hr4).mono ?_;rintro e w5 ⟨A5,c5,B5,d5,C5,e5,rfl,hr5,hB5⟩)
   have hD5:=hD4.trans (hB5.mono hD4.size)
   have vg:=vy.to hB5
   refine hK.out _ _ (HS.out _ hD5) ?_
   clear hK hH hB5 vy hr4
   have hH:=HS.out _ hD5
   (refine fr_yes 4 (v:=?_) rfl (by kernel_rfl) rfl ?_ hH ?_;rotate_left;(focus ((rintro W ⟨hW1,hW2,hW3,hW4,hW5,hW6⟩;go_simp) <;> with_reducible rfl));simp only[Act.put,zY,zX,zQ]);(refine fr_yes 5 (v:=?_) rfl (by kernel_rfl) rfl ?_ hH ?_;rotate_left;(focus ((rintro W ⟨hW1,hW2,hW3,hW4,hW5,hW6⟩;go_simp) <;> with_reducible rfl));simp only[Act.put,zY,zX,zQ]);(refine fr_yes 6 (v:=?_) rfl (by kernel_rfl) rfl ?_ hH ?_;rotate_left;(focus ((rintro W ⟨hW1,hW2,hW3,hW4,hW5,hW6⟩;go_simp) <;> with_reducible rfl));simp only[Act.put,zY,zX,zQ])
   have z0:=vg.cell (j:=0) rfl
   have z1:=vg.cell (j:=1) rfl
   have z2:=vg.cell (j:=2) rfl
   have f0:=vg.frozen 0
   have f1:=vg.frozen 1
   have f2:=vg.frozen 2
   refine fr_op [8] (by kernel_rfl) (by simp) ?_;intro jj hjj;simp only[List.mem_cons,List.not_mem_nil,or_false] at hjj;subst hjj;refine⟨_,rfl,rfl,fun K hK=>?_⟩
   go_wp2
   have hDe:=((hD5.setCell (p:=⟨wd.heap.size,0,none⟩) hDs (.slice A5 (buildG (canonG g) q).1.length c5)).setCell (p:=⟨wd.heap.size,1,none⟩) hDs (.slice B5 (buildG (canonG g) q).2.1.length d5)).setCell (p:=⟨wd.heap.size,2,none⟩) hDs (.slice C5 (buildG (canonG g) q).2.2.length e5)
   refine hK.out _ _ (HS.out _ hDe) ?_
   clear hK hH
   have hH:=HS.out _ hDe
   (refine fr_yes 9 (v:=?_) rfl (by kernel_rfl) rfl ?_ hH ?_;rotate_left;(focus ((rintro W ⟨hW1,hW2,hW3,hW4,hW5,hW6⟩;go_simp) <;> with_reducible rfl));simp only[Act.put,zY,zX,zQ])
   refine fr_done (by kernel_rfl) ?_
   go_wp2
   go_meet
   case rel=>exact⟨_,A5,c5,B5,d5,C5,e5,rfl,rfl,((vg.set 0 _).set 1 _).set 2 _,gr_set3 vg hr5,hDs,hDe⟩
 case rest=>
  obtain⟨b8,A5,c5,B5,d5,C5,e5,rfl,rfl,v8,hr8,hb8,hB8⟩:=hcut
  have T7:=zZ (canon_any A5 B5 C5 _ c5 _ d5 _ e5 (buildG (canonG g) q) _ hr8)
  have Hr8:=zZ hr8
  have H8:=zZ hB8
  have V8:=zZ v8
  have k0:=v8.cell (j:=0) rfl
  have k1:=v8.cell (j:=1) rfl
  have k2:=v8.cell (j:=2) rfl
  clear HS HG2 HQ2 hr8 hB8 v8 hcm hs'
  generalize hN1:(buildG (canonG g) q).1.length=N1 at *
  generalize hM1:(buildG (canonG g) q).2.1.length=M1 at *
  generalize hK1:(buildG (canonG g) q).2.2.length=K1 at *
  have HN1:=zZ hN1
  have HM1:=zZ hM1
  have HK1:=zZ hK1
  clear hN1 hM1 hK1
  go_wp2_with fail
  refine T7.out.mono ?_
  rintro e w7 ⟨A7,c7,B7,d7,C7,e7,rfl,hr7,hB7⟩
  have hr8:=gr_below hB7 Hr8.out
  have h27:=zZ (H8.out.trans (hB7.mono H8.out.size))
  have v87:=V8.out.to hB7
  clear T7 hB7 Hr8 V8 k0 k1 k2
  generalize hN7:(canonG (buildG (canonG g) q)).1.length=N7 at *
  generalize hM7:(canonG (buildG (canonG g) q)).2.1.length=M7 at *
  generalize hK7:(canonG (buildG (canonG g) q)).2.2.length=K7 at *
  have HN7:=zZ hN7
  have HM7:=zZ hM7
  have HK7:=zZ hK7
  clear hN7 hM7 hK7
  have hBa:Below w7.heap.size w7 (w7.alloc (.cells #[.slice A7 N7 c7,.slice B7 M7 d7,.slice C7 K7 e7] 28)):=(zA _ w7).alloc (zW _) _
  have v10:=Blk.new w7 28 [.slice A7 N7 c7,.slice B7 M7 d7,.slice C7 K7 e7]
  have T8:=zZ (gsame_any A7 B7 C7 N7 c7 M7 d7 K7 e7 A5 B5 C5 N1 c5 M1 d5 K1 e5 (canonG (buildG (canonG g) q)) (buildG (canonG g) q) _ (gr_below hBa hr7) (gr_below hBa hr8))
  have Hr7:=zZ (gr_below hBa hr7)
  have v8a:=v87.to hBa
  have H2a:=zZ (h27.out.trans (hBa.mono h27.out.size))
  have x0:=v10.cell (j:=0) rfl
  have x1:=v10.cell (j:=1) rfl
  have x2:=v10.cell (j:=2) rfl
  have k0:=v8a.cell (j:=0) rfl
  have k1:=v8a.cell (j:=1) rfl
  have k2:=v8a.cell (j:=2) rfl
  clear hr7 hr8 hBa h27 v87
  cases hbq:buildQ (canonG g) q.2.2 with
  | none=>
   have Hq:Hid (applyQ g q=(([],[],[]),2)):=zZ (by rw[Hap.out,hbq])
   have r2:=R2.out.to H2a.out
   have y0:=r2.cell (j:=0) rfl
   have y1:=r2.cell (j:=1) rfl
   have y2:=r2.cell (j:=2) rfl
   have g0:=r2.frozen 0
   have g1:=r2.frozen 1
   have g2:=r2.frozen 2
   clear hbq T8 Hr7
   go_wp2
   have P9:=((r2.set 0 (.slice none 0 0)).set 1 (.slice none 0 0)).set 2 (.slice none 0 0)
   refine ret_cell1 (d:=.struct _) (cs:=[.slice none 0 0,.slice none 0 0,.slice none 0 0]) rfl P9 rfl rfl rfl rfl rfl ?_
   rw[Hq.out]
   refine⟨none,0,none,0,none,0,rfl,rGr_none _,?_⟩
   have hz:=H2.out.trans (H2a.out.mono H2.out.size)
   exact ((hz.setCell (p:=⟨w.heap.size+2,0,none⟩) (by simp) (.slice none 0 0)).setCell (p:=⟨w.heap.size+2,1,none⟩) (by simp) (.slice none 0 0)).setCell (p:=⟨w.heap.size+2,2,none⟩) (by simp) (.slice none 0 0)
  | some l=>
   have Hbg:Hid (buildG (canonG g) q=((canonG g).1,l,q.2.1)):=zZ (buildG_yes hbq)
   rw[hbq] at Hap
   clear hbq
   go_wp2_with fail
   refine T8.out.mono ?_
   rintro e w9 ⟨rfl,hB9⟩
   have H29:=zZ (H2a.out.trans (hB9.mono H2a.out.size))
   have v10':=v10.to hB9
   have r2:=R2.out.to H29.out
   have hr9:=gr_below hB9 Hr7.out
   have y0:=r2.cell (j:=0) rfl
   have y1:=r2.cell (j:=1) rfl
   have y2:=r2.cell (j:=2) rfl
   have g0:=r2.frozen 0
   have g1:=r2.frozen 1
   have g2:=r2.frozen 2
   clear x0 x1 x2 k0 k1 k2 T8 hB9 Hr7 v8a H2a
   by_cases heq:canonG (buildG (canonG g) q)=buildG (canonG g) q
   ·have Hq:Hid (applyQ g q=(canonG (buildG (canonG g) q),0)):=zZ (by rw[Hap.out,← Hbg.out,if_pos heq,heq])
    have hd:decide (canonG (buildG (canonG g) q)=buildG (canonG g) q)=true:=zJ heq
    rw[hd]
    have Hr9:=zZ (avoid_gr (blk_shy r2) hr9)
    have x0:=v10'.cell (j:=0) rfl
    have x1:=v10'.cell (j:=1) rfl
    have x2:=v10'.cell (j:=2) rfl
    clear heq hd hr9
    go_wp2
    have P9:=((r2.set 0 (.slice A7 N7 c7)).set 1 (.slice B7 M7 d7)).set 2 (.slice C7 K7 e7)
    refine ret_cell1 (d:=.struct _) (cs:=[.slice A7 N7 c7,.slice B7 M7 d7,.slice C7 K7 e7]) rfl P9 rfl rfl rfl rfl rfl ?_
    rw[Hq.out]
    simp only
    rw[HN7.out,HM7.out,HK7.out]
    refine⟨A7,c7,B7,d7,C7,e7,rfl,?_,?_⟩
    ·refine rGr_stays.to (fun k hk=>⟨by simp only[All,World.size_setCell];exact hk.1,?_⟩) Hr9.out
     rw[Below.heap_setCell _ _ _ _ (show k≠w.heap.size+2 from hk.2),Below.heap_setCell _ _ _ _ (show k≠w.heap.size+2 from hk.2),Below.heap_setCell _ _ _ _ (show k≠w.heap.size+2 from hk.2)]
    ·have hz:=H2.out.trans (H29.out.mono H2.out.size)
     exact ((hz.setCell (p:=⟨w.heap.size+2,0,none⟩) (by simp) _).setCell (p:=⟨w.heap.size+2,1,none⟩) (by simp) _).setCell (p:=⟨w.heap.size+2,2,none⟩) (by simp) _
   ·have Hq:Hid (applyQ g q=(([],[],[]),2)):=zZ (by rw[Hap.out,← Hbg.out,if_neg heq])
    have hd:decide (canonG (buildG (canonG g) q)=buildG (canonG g) q)=false:=zK heq
    rw[hd]
    clear heq hd hr9
    go_wp2
    have P9:=((r2.set 0 (.slice none 0 0)).set 1 (.slice none 0 0)).set 2 (.slice none 0 0)
    refine ret_cell1 (d:=.struct _) (cs:=[.slice none 0 0,.slice none 0 0,.slice none 0 0]) rfl P9 rfl rfl rfl rfl rfl ?_
    rw[Hq.out]
    refine⟨none,0,none,0,none,0,rfl,rGr_none _,?_⟩
    have hz:=H2.out.trans (H29.out.mono H2.out.size)
    exact ((hz.setCell (p:=⟨w.heap.size+2,0,none⟩) (by simp) (.slice none 0 0)).setCell (p:=⟨w.heap.size+2,1,none⟩) (by simp) (.slice none 0 0)).setCell (p:=⟨w.heap.size+2,2,none⟩) (by simp) (.slice none 0 0)
end Go.Proofs.YtnljjnkindjeoaaGreatDoor
