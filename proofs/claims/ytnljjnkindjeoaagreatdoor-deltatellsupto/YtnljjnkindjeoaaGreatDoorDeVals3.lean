/- The contract of delta's valuesAhead, of one that there is, of the same type; and of any. Conditions: what each lemma names; they hold of a graph that may be. -/
import Derived.Test.YtnljjnkindjeoaaGreatDoorDeVals2
import Derived.Test.YtnljjnkindjeoaaGreatDoorAl
set_option maxRecDepth 100000
set_option maxHeartbeats 4000000
namespace Go.Proofs.YtnljjnkindjeoaaGreatDoor
open Go.RowKit Go.Maps
theorem ahead_there (A C:Option Addr) (N c M d K e:Nat) (b off:Nat) (g:Gr) (I t:Nat) (o:Ob) (A2 A9:Option Addr) (xl c2 c9 Mb mn:Nat) (l:List Itm) (w:World) (hmay:mayG g=true) (h:rGr (All w) w [.slice A N c,.slice (some ⟨b,off,none⟩) M d,.slice C K e] g)
  (hM:MpM w Mb mn (plF l)) (hl:l.length≤1000000) (hb:b<w.heap.size) (hIM:I<M) (x1:w.cell? ⟨b,off+I * 3+1,none⟩=some (.int .i64 (t:Int))) (x2:w.cell? ⟨b,off+I * 3+2,none⟩=some (.slice A9 o.2.2.length c9)) (hvs:rVals (All w) w [.slice A9 o.2.2.length c9] o.2.2) (hlen:(fldsG g.1 (t:Int)).length=o.2.2.length) (htN:t<N):
  Calls Tryz.prog 114 #[.agg #[.slice A N c,.slice (some ⟨b,off,none⟩) M d,.slice C K e],.agg #[.int .i64 (I:Int),.int .i64 (t:Int),.slice A2 xl c2],.map (some Mb)] w fun r w'=>∃ v,r=.returned (.tuple #[v,.bool true])∧OwnV w.heap.size w' v (leadV (plG l) (fldsG g.1 (t:Int)) o.2.2)∧Below w.heap.size w w':=by
 obtain⟨hN,hNc,hcm⟩:=slice_len (rGr_open h).1
 have hgt:g.1[t]?=some g.1[t]:=zV (by omega)
 obtain⟨bt,offt,st,AF,cF,rfl,hbt,-,y1,-,-,hfs⟩:=typ_at (rGr_open h).1 hgt
 have hFe:=fldsG_at (t:=(t:Int)) rfl hgt
 rw[← hFe] at y1 hfs
 obtain⟨hF,hFc,hFm⟩:=slice_len hfs
 have h10:=fields_few hmay (t:Int)
 have hB0:Below w.heap.size w ((w.alloc (.cells #[.slice (some ⟨bt,offt,none⟩) N c,.slice (some ⟨b,off,none⟩) M d,.slice C K e] 28)).alloc (.cells #[.int .i64 (I:Int),.int .i64 (t:Int),.slice A2 xl c2] 50)):=((zA _ w).alloc (zW _) _).alloc (by simp) _
 obtain⟨p0,p1⟩:=blk_two w 28 50 [.slice (some ⟨bt,offt,none⟩) N c,.slice (some ⟨b,off,none⟩) M d,.slice C K e] [.int .i64 (I:Int),.int .i64 (t:Int),.slice A2 xl c2]
 have hx1':((I:Int) == -1)=false:=by rw[beq_eq_false_iff_ne];omega
 have T1:=zZ (fun W=>isPlaceD_any (I:Int) (M:Int) W)
 rw[show (decide ((0:Int)≤(I:Int)) && decide ((I:Int)<(M:Int)))=true by simp;omega] at T1
 have hil:(I:Int)<(M:Int):=by omega
 have hi0:(0:Int)≤(I:Int):=by omega
 have htl:(t:Int)<(N:Int):=by omega
 have ht0:(0:Int)≤(t:Int):=by omega
 have hne:((t:Int) != (t:Int))=false:=by simp
 have i0:=p1.cell (j:=0) rfl
 have hb1:b<((w.alloc (.cells #[.slice (some ⟨bt,offt,none⟩) N c,.slice (some ⟨b,off,none⟩) M d,.slice C K e] 28)).alloc (.cells #[.int .i64 (I:Int),.int .i64 (t:Int),.slice A2 xl c2] 50)).heap.size:=Nat.lt_of_lt_of_le hb hB0.size
 have hbt1:bt<((w.alloc (.cells #[.slice (some ⟨bt,offt,none⟩) N c,.slice (some ⟨b,off,none⟩) M d,.slice C K e] 28)).alloc (.cells #[.int .i64 (I:Int),.int .i64 (t:Int),.slice A2 xl c2] 50)).heap.size:=Nat.lt_of_lt_of_le hbt hB0.size
 have z1:=(hB0.cell (p:=⟨b,off+I * 3+1,none⟩) hb).trans x1
 have z2:=(hB0.cell (p:=⟨b,off+I * 3+2,none⟩) hb).trans x2
 have z3:=(hB0.cell (p:=⟨bt,offt+t * 2+1,none⟩) hbt).trans y1
 have Hvs:=zZ (vals_below hB0 hvs)
 have Hfs:=zZ (rFlds_stays.to (Keeps.below hB0) hfs)
 have HM:=zZ (hM.below hB0)
 have P0:=zZ p0
 have P1:=zZ p1
 have HB0:=zZ hB0
 have Hall:Hid (leadT (plG l) (fldsG g.1 (t:Int)) o.2.2 (fldsG g.1 (t:Int)).length=leadV (plG l) (fldsG g.1 (t:Int)) o.2.2):=zZ (leadT_all hlen)
 have HL:Hid ((leadV (plG l) (fldsG g.1 (t:Int)) o.2.2).length=o.2.2.length):=zZ (leadV_len _ _ _ hlen)
 have Hlen:=zZ hlen
 simp only[maxLen] at hFm
 clear h hB0 p0 p1 x1 x2 y1 hvs hfs hM hgt hFe hF hmay hlen hN
 generalize fldsG g.1 (t:Int)=fs at *
 generalize hfl:fs.length=fl at *
 generalize hvl:o.2.2.length=vl at *
 have hlv:=Hlen.out
 have Hvl:=zZ hvl
 have Hfl:=zZ hfl
 clear hvl hfl
 go_enter Tryz.func114,Tryz.ntmps114
 go_upto_region 3 with fail
 generalize (w.alloc (.cells #[.slice (some ⟨bt,offt,none⟩) N c,.slice (some ⟨b,off,none⟩) M d,.slice C K e] 28)).alloc (.cells #[.int .i64 (I:Int),.int .i64 (t:Int),.slice A2 xl c2] 50)=w1 at *
 have HSF:=zZ (fun W (hW:Below w1.heap.size w1 W)=>And.intro ((P0.out.to hW).cell (j:=0) rfl) (And.intro ((P0.out.to hW).cell (j:=1) rfl) (And.intro ((P0.out.to hW).cell (j:=2) rfl) (And.intro ((P1.out.to hW).cell (j:=0) rfl) (And.intro ((P1.out.to hW).cell (j:=1) rfl) (And.intro ((hW.cell (p:=⟨b,off+I * 3+1,none⟩) hb1).trans z1) (And.intro ((hW.cell (p:=⟨b,off+I * 3+2,none⟩) hb1).trans z2) ((hW.cell (p:=⟨bt,offt+t * 2+1,none⟩) hbt1).trans z3))))))))
 clear i0 P0 P1 z1 z2 z3
 refine sch_start [(0,true),(1,true),(2,true),(3,true),(4,true),(5,false),(6,true),(7,true),(8,true),(9,true),(10,true),(11,true),(12,true),(13,true),(14,true),(15,true),(16,true),(17,true),(18,true)] (fun W=>Below w1.heap.size w1 W) (by kernel_rfl) rfl (by kernel_rfl) (fun _ _ _ _ _ h=>h) ((zA _ w1).drew) (fun hH=>?_)
 repeat (first | (refine sch_yes (v:=?_) rfl rfl ?_ hH ?_;rotate_left;(focus ((intro W hW;obtain⟨a0,a1,a2,b0,b1,o1,o2,o3⟩:=HSF.out W hW;go_simp) <;> with_reducible rfl));simp only[Act.put,zY,zX,zQ]) | (refine sch_no rfl rfl hH ?_;simp only[Act.put,zY,zX,zQ]))
 refine sch_call rfl rfl (fun K' hK=>?_)
 go_wp2_with (go_at_call 146;refine (T1.out _).mono ?_;rintro e w8 ⟨rfl,rfl⟩)
 refine hK.out _ _ hH ?_
 clear hK
 repeat (first | (refine sch_yes (v:=?_) rfl rfl ?_ hH ?_;rotate_left;(focus ((intro W hW;obtain⟨a0,a1,a2,b0,b1,o1,o2,o3⟩:=HSF.out W hW;go_simp) <;> with_reducible rfl));simp only[Act.put,zY,zX,zQ]) | (refine sch_no rfl rfl hH ?_;simp only[Act.put,zY,zX,zQ]))
 refine sch_done ?_
 have hH1:=zZ hH
 obtain⟨a0,a1,a2,b0,b1,o1,o2,o3⟩:=HSF.out _ hH
 have T3:=zZ (vclone_any A9 vl c9 o.2.2 _ (vals_below hH Hvs.out) (by omega))
 clear hH
 go_wp2_with fail
 refine T3.out.mono ?_
 rintro e w9 ⟨A8,c8,xs0,rfl,hown9,hch9,hB9⟩
 have H19:=zZ (hH1.out.trans (hB9.mono hH1.out.size))
 clear a0 a1 a2 b0 b1 o1 o2 o3 T3 hB9
 obtain⟨a0,a1,a2,b0,b1,o1,o2,o3⟩:=HSF.out _ H19.out
 have Hc0:Hid (Chunks 3 (fun cs x=>∀ S W,rVal S W cs x) xs0 (leadT (plG l) fs o.2.2 0)):=zZ (by rw[leadT];simpa using hch9)
 have Ho9:=zZ (own_mono hown9 hH1.out.size)
 clear hown9 hch9 hH1
 go_wp2
 clear a0 a1 a2 b0 b1 o1 o2 o3
 go_loopw [57] (fun iv w'=>∃ (i:Nat) (xs:List Value),i≤fl∧iv=.int .i64 (i:Int)∧Hid (w'.ownsRow w1.heap.size 47 3 (.slice A8 vl c8) vl xs)∧Hid (Chunks 3 (fun cs x=>∀ S W,rVal S W cs x) xs (leadT (plG l) fs o.2.2 i))∧Hid (Below w1.heap.size w1 w')) (fun iv _=>fl - (intOf iv).toNat)
 case atStart=>exact⟨0,xs0,by omega,rfl,Ho9,Hc0,H19⟩
 case round=>
  rename_i iv wr
  clear Ho9 Hc0 H19
  obtain⟨i,xs,hi',rfl,hown,hch,hg⟩:=hrel
  have hgs:=hg.out.size
  by_cases hin:i<fl
  ·obtain⟨f,hfi⟩:∃ f,fs[i]?=some f:=⟨_,zV (by have:=Hfl.out;omega)⟩
   obtain⟨bf,offf,sx,tx,rfl,hbf,q0,q1,q2,-,-,-,-,-⟩:=fld_at (rFlds_stays.to (Keeps.below hg.out) Hfs.out) hfi
   have hil2:(i:Int)<(fl:Int):=by omega
   have hi02:(0:Int)≤(i:Int):=by omega
   have HA:=zZ (hg.out.alloc hgs (.cells #[.string sx,.int .i64 f.2.1,.string tx] 97))
   by_cases h5:f.2.1=5
   ·have h5':(f.2.1 == 5)=true:=by simp[h5]
    obtain⟨v2,hvi⟩:∃ v,o.2.2[i]?=some v:=⟨_,zV (by have:=Hvl.out;omega)⟩
    have hTi:=leadT_at (f:=plG l) (fs:=fs) (i:=i) (by have:=Hvl.out;have:=Hfl.out;omega) hvi
    have hownA:=hown.out.alloc (.cells #[.string sx,.int .i64 f.2.1,.string tx] 97)
    obtain⟨gb,y,rfl,hgb,hgl,hy1,hy2,hy3,hy4⟩:=own_set hownA (p:=i * 3+2) (by omega)
    obtain⟨_,_,z,-,-,hz3,hz4⟩:=chunks_at3 hch.out hTi
    obtain⟨s,ez,-,-,-,hvb⟩:=rVal_open (hz4 (fun _=>True) default)
    simp only[List.cons.injEq,and_true] at ez
    rw[hz3,ez.2.2] at hy1
    injection hy1 with hy1
    subst hy1
    have TP:=zZ (placeIn_any Mb mn (plF l) v2.2.2 (-2) _ (HM.out.below HA.out) (WalkArith.wf_i64 hvb))
    rw[show (plF l v2.2.2).getD (-2)=plG l v2.2.2 from rfl] at TP
    have hb8:=plG_b (l:=l) v2.2.2
    have Hst:=zZ (leadT_yes (f:=plG l) (by have:=Hvl.out;have:=Hfl.out;omega) hfi hvi h5)
    have Hcl:=zZ (chunks_lead (r:=plG l v2.2.2) hch.out hTi (WalkArith.wf_i64 ⟨by omega,by omega⟩))
    have Hown:=zZ (hy4 (.int .i64 (plG l v2.2.2)))
    have hilv:(i:Int)<(vl:Int):=by omega
    clear hfi hvi h5 hvb hTi hy4 hownA ez hz3 hz4 hb8
    generalize hkk:f.2.1=kk at *
    generalize hrr:v2.2.2=rr at *
    generalize plG l rr=pr at *
    clear hkk hrr
    go_wp2_with fail
    refine TP.out.mono ?_
    rintro e wp ⟨rfl,rfl⟩
    go_wp2
    go_roundw
    case rel=>
     refine⟨i+1,xs.set (i * 3+2) (.int .i64 pr),by omega,by go_num,Hown,zZ ?_,zZ ?_⟩
     ·rw[Hst.out];exact Hcl.out
     ·exact HA.out.setCell (p:=⟨gb,i * 3+2,none⟩) hgb _
    case measure=>simp[intOf];omega
   ·have h5':(f.2.1 == 5)=false:=by simp[h5]
    have Hp:=zZ (leadT_no (f:=plG l) (vs:=o.2.2) (by have:=Hvl.out;have:=Hfl.out;omega) hfi h5)
    clear hfi h5
    generalize f.2.1=kk at *
    go_wp2
    go_roundw
    case rel=>exact⟨i+1,xs,by omega,by go_num,zZ (hown.out.alloc _),zZ (by rw[Hp.out];exact hch.out),HA⟩
    case measure=>simp[intOf];omega
  ·have hin':i=fl:=by omega
   rw[hin',Hall.out] at hch
   clear hin'
   go_wp2
   go_ret2
   exact⟨.slice A8 vl c8,rfl,⟨A8,c8,xs,by rw[HL.out],by rw[HL.out];exact own_mono hown.out HB0.out.size,hch.out⟩,HB0.out.trans (hg.out.mono HB0.out.size)⟩
end Go.Proofs.YtnljjnkindjeoaaGreatDoor
