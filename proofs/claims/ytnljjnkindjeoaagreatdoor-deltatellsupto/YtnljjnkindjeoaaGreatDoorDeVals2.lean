/- The contract of delta's valuesAhead, case by case: of none; of none that there is; of another type. Conditions: what each lemma names; they hold of a graph that may be. -/
import Derived.Test.YtnljjnkindjeoaaGreatDoorDeVals1
import Derived.Test.YtnljjnkindjeoaaGreatDoorAl
set_option maxRecDepth 100000
set_option maxHeartbeats 2000000
namespace Go.Proofs.YtnljjnkindjeoaaGreatDoor
open Go.RowKit Go.Maps
theorem plG_b {l:List Itm} (y:Int):-2≤plG l y∧plG l y≤(l.length:Int):=by
 have h:=idxP_lt (fun x:Itm=>decide (x.1=y)) l
 rw[plG,plF]
 split
 ·rw[Option.getD_some];omega
 ·split
  ·rw[Option.getD_none];omega
  ·rw[Option.getD_some];unfold fromD at *;omega
theorem ahead_new (A B C:Option Addr) (N c M d K e:Nat) (g:Gr) (xt:Int) (A2:Option Addr) (xl c2 Mb:Nat) (w:World) (hmay:mayG g=true) (h:rGr (All w) w [.slice A N c,.slice B M d,.slice C K e] g):
  Calls Tryz.prog 114 #[.agg #[.slice A N c,.slice B M d,.slice C K e],.agg #[.int .i64 (-1),.int .i64 xt,.slice A2 xl c2],.map (some Mb)] w fun r w'=>∃ v,r=.returned (.tuple #[v,.bool (decide (0≤xt) && decide (xt<(N:Int)))])∧((decide (0≤xt) && decide (xt<(N:Int)))=true→OwnV w.heap.size w' v (List.replicate (fldsG g.1 xt).length vz))∧Below w.heap.size w w':=by
 have hB0:Below w.heap.size w ((w.alloc (.cells #[.slice A N c,.slice B M d,.slice C K e] 28)).alloc (.cells #[.int .i64 (-1),.int .i64 xt,.slice A2 xl c2] 50)):=((zA _ w).alloc (zW _) _).alloc (by simp) _
 obtain⟨p0,p1⟩:=blk_two w 28 50 [.slice A N c,.slice B M d,.slice C K e] [.int .i64 (-1),.int .i64 xt,.slice A2 xl c2]
 have T1:=zZ (newValues_any A N c g.1 xt _ (rGr_open (gr_below hB0 h)).1 (fields_few hmay _))
 have c0:=p0.cell (j:=0) rfl
 have i0:=p1.cell (j:=0) rfl
 have i1:=p1.cell (j:=1) rfl
 have HB0:=zZ hB0
 clear h hB0 p0 p1 hmay
 generalize (decide (0≤xt) && decide (xt<(N:Int)))=bb at *
 go_enter Tryz.func114,Tryz.ntmps114
 go_wp2_with fail
 refine T1.out.mono ?_
 rintro e w2 ⟨v,rfl,hv,hB2⟩
 have HV:=zZ hv
 have H2:=zZ (HB0.out.trans (hB2.mono HB0.out.size))
 clear hv hB2
 go_wp2
 go_ret2
 refine⟨v,rfl,fun e=>?_,H2.out⟩
 obtain⟨A1,c1,xs,e,ho,hc⟩:=HV.out e
 exact⟨A1,c1,xs,e,own_mono ho HB0.out.size,hc⟩
theorem ahead_out (A B C:Option Addr) (N c M d K e:Nat) (xf xt:Int) (A2:Option Addr) (xl c2 Mb:Nat) (w:World) (hx:xf≠-1) (hp:(decide (0≤xf) && decide (xf<(M:Int)))=false):
  Calls Tryz.prog 114 #[.agg #[.slice A N c,.slice B M d,.slice C K e],.agg #[.int .i64 xf,.int .i64 xt,.slice A2 xl c2],.map (some Mb)] w fun r w'=>r=.returned (.tuple #[.slice none 0 0,.bool false])∧Below w.heap.size w w':=by
 have hB0:Below w.heap.size w ((w.alloc (.cells #[.slice A N c,.slice B M d,.slice C K e] 28)).alloc (.cells #[.int .i64 xf,.int .i64 xt,.slice A2 xl c2] 50)):=((zA _ w).alloc (zW _) _).alloc (by simp) _
 obtain⟨p0,p1⟩:=blk_two w 28 50 [.slice A N c,.slice B M d,.slice C K e] [.int .i64 xf,.int .i64 xt,.slice A2 xl c2]
 have hx1':(xf == -1)=false:=by simp[hx]
 have T1:=zZ (fun W=>isPlaceD_any xf (M:Int) W)
 rw[hp] at T1
 have i0:=p1.cell (j:=0) rfl
 have P0:=zZ p0
 have P1:=zZ p1
 have HB0:=zZ hB0
 clear hB0 p0 p1 hp hx
 go_enter Tryz.func114,Tryz.ntmps114
 go_upto_region 3 with fail
 generalize (w.alloc (.cells #[.slice A N c,.slice B M d,.slice C K e] 28)).alloc (.cells #[.int .i64 xf,.int .i64 xt,.slice A2 xl c2] 50)=w1 at *
 have HSF:=zZ (fun W (hW:Below w1.heap.size w1 W)=>And.intro ((P0.out.to hW).cell (j:=0) rfl) (And.intro ((P0.out.to hW).cell (j:=1) rfl) (And.intro ((P0.out.to hW).cell (j:=2) rfl) (And.intro ((P1.out.to hW).cell (j:=0) rfl) ((P1.out.to hW).cell (j:=1) rfl)))))
 clear i0 P0 P1
 refine sch_start [(0,true),(1,true),(2,true),(3,true),(4,true),(5,false),(6,true),(7,true),(8,true),(9,true),(10,true),(11,true),(12,true),(13,true),(14,true),(15,true),(16,true),(17,true),(18,true)] (fun W=>Below w1.heap.size w1 W) (by kernel_rfl) rfl (by kernel_rfl) (fun _ _ _ _ _ h=>h) ((zA _ w1).drew) (fun hH=>?_)
 repeat (first | (refine sch_yes (v:=?_) rfl rfl ?_ hH ?_;rotate_left;(focus ((intro W hW;obtain⟨a0,a1,a2,b0,b1⟩:=HSF.out W hW;go_simp) <;> with_reducible rfl));simp only[Act.put,zY,zX,zQ]) | (refine sch_no rfl rfl hH ?_;simp only[Act.put,zY,zX,zQ]))
 refine sch_call rfl rfl (fun K' hK=>?_)
 go_wp2_with (go_at_call 146;refine (T1.out _).mono ?_;rintro e w8 ⟨rfl,rfl⟩)
 refine hK.out _ _ hH ?_
 clear hK
 repeat (first | (refine sch_yes (v:=?_) rfl rfl ?_ hH ?_;rotate_left;(focus ((intro W hW;obtain⟨a0,a1,a2,b0,b1⟩:=HSF.out W hW;go_simp) <;> with_reducible rfl));simp only[Act.put,zY,zX,zQ]) | (refine sch_no rfl rfl hH ?_;simp only[Act.put,zY,zX,zQ]))
 refine sch_done ?_
 go_wp2
 go_ret2
 exact⟨rfl,HB0.out.trans (hH.mono HB0.out.size)⟩
theorem ahead_type (A C:Option Addr) (N c M d K e:Nat) (b off I:Nat) (ot xt:Int) (A2:Option Addr) (xl c2 Mb:Nat) (w:World) (hb:b<w.heap.size) (hIM:I<M) (x1:w.cell? ⟨b,off+I * 3+1,none⟩=some (.int .i64 ot)) (ht:ot≠xt):
  Calls Tryz.prog 114 #[.agg #[.slice A N c,.slice (some ⟨b,off,none⟩) M d,.slice C K e],.agg #[.int .i64 (I:Int),.int .i64 xt,.slice A2 xl c2],.map (some Mb)] w fun r w'=>r=.returned (.tuple #[.slice none 0 0,.bool false])∧Below w.heap.size w w':=by
 have hB0:Below w.heap.size w ((w.alloc (.cells #[.slice A N c,.slice (some ⟨b,off,none⟩) M d,.slice C K e] 28)).alloc (.cells #[.int .i64 (I:Int),.int .i64 xt,.slice A2 xl c2] 50)):=((zA _ w).alloc (zW _) _).alloc (by simp) _
 obtain⟨p0,p1⟩:=blk_two w 28 50 [.slice A N c,.slice (some ⟨b,off,none⟩) M d,.slice C K e] [.int .i64 (I:Int),.int .i64 xt,.slice A2 xl c2]
 have hx1':((I:Int) == -1)=false:=by rw[beq_eq_false_iff_ne];omega
 have T1:=zZ (fun W=>isPlaceD_any (I:Int) (M:Int) W)
 rw[show (decide ((0:Int)≤(I:Int)) && decide ((I:Int)<(M:Int)))=true by simp;omega] at T1
 have hil:(I:Int)<(M:Int):=by omega
 have hi0:(0:Int)≤(I:Int):=by omega
 have hne:(ot != xt)=true:=by simp[ht]
 have i0:=p1.cell (j:=0) rfl
 have hb1:b<((w.alloc (.cells #[.slice A N c,.slice (some ⟨b,off,none⟩) M d,.slice C K e] 28)).alloc (.cells #[.int .i64 (I:Int),.int .i64 xt,.slice A2 xl c2] 50)).heap.size:=Nat.lt_of_lt_of_le hb hB0.size
 have y1:=(hB0.cell (p:=⟨b,off+I * 3+1,none⟩) hb).trans x1
 have P0:=zZ p0
 have P1:=zZ p1
 have HB0:=zZ hB0
 clear hB0 p0 p1 ht x1
 go_enter Tryz.func114,Tryz.ntmps114
 go_upto_region 3 with fail
 generalize (w.alloc (.cells #[.slice A N c,.slice (some ⟨b,off,none⟩) M d,.slice C K e] 28)).alloc (.cells #[.int .i64 (I:Int),.int .i64 xt,.slice A2 xl c2] 50)=w1 at *
 have HSF:=zZ (fun W (hW:Below w1.heap.size w1 W)=>And.intro ((P0.out.to hW).cell (j:=0) rfl) (And.intro ((P0.out.to hW).cell (j:=1) rfl) (And.intro ((P0.out.to hW).cell (j:=2) rfl) (And.intro ((P1.out.to hW).cell (j:=0) rfl) (And.intro ((P1.out.to hW).cell (j:=1) rfl) ((hW.cell (p:=⟨b,off+I * 3+1,none⟩) hb1).trans y1))))))
 clear i0 P0 P1 y1
 refine sch_start [(0,true),(1,true),(2,true),(3,true),(4,true),(5,false),(6,true),(7,true),(8,true),(9,true),(10,true),(11,true),(12,true),(13,true),(14,true),(15,true),(16,true),(17,true),(18,true)] (fun W=>Below w1.heap.size w1 W) (by kernel_rfl) rfl (by kernel_rfl) (fun _ _ _ _ _ h=>h) ((zA _ w1).drew) (fun hH=>?_)
 repeat (first | (refine sch_yes (v:=?_) rfl rfl ?_ hH ?_;rotate_left;(focus ((intro W hW;obtain⟨a0,a1,a2,b0,b1,o1⟩:=HSF.out W hW;go_simp) <;> with_reducible rfl));simp only[Act.put,zY,zX,zQ]) | (refine sch_no rfl rfl hH ?_;simp only[Act.put,zY,zX,zQ]))
 refine sch_call rfl rfl (fun K' hK=>?_)
 go_wp2_with (go_at_call 146;refine (T1.out _).mono ?_;rintro e w8 ⟨rfl,rfl⟩)
 refine hK.out _ _ hH ?_
 clear hK
 repeat (first | (refine sch_yes (v:=?_) rfl rfl ?_ hH ?_;rotate_left;(focus ((intro W hW;obtain⟨a0,a1,a2,b0,b1,o1⟩:=HSF.out W hW;go_simp) <;> with_reducible rfl));simp only[Act.put,zY,zX,zQ]) | (refine sch_no rfl rfl hH ?_;simp only[Act.put,zY,zX,zQ]))
 refine sch_done ?_
 go_wp2
 go_ret2
 exact⟨rfl,HB0.out.trans (hH.mono HB0.out.size)⟩
end Go.Proofs.YtnljjnkindjeoaaGreatDoor
