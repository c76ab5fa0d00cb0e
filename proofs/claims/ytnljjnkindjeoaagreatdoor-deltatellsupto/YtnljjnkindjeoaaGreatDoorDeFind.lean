/- The contracts of delta's find, of what itemOf drops, and of without: an object of an id; is a field's value the same; cells of other values. Conditions: what each lemma names. -/
import Derived.Test.YtnljjnkindjeoaaGreatDoorDeMem
import Derived.Test.YtnljjnkindjeoaaGreatDoorDeProg
import Derived.Test.YtnljjnkindjeoaaGreatDoorDeSame
import Derived.Test.YtnljjnkindjeoaaGreatDoorGGraph
import Derived.Test.YtnljjnkindjeoaaGreatDoorGGen
import Derived.Test.YtnljjnkindjeoaaGreatDoorGCanon
import Derived.Test.YtnljjnkindjeoaaGreatDoorAl
set_option maxRecDepth 100000
set_option maxHeartbeats 2000000
namespace Go.Proofs.YtnljjnkindjeoaaGreatDoor
open Go.RowKit Go.Maps
theorem dfind_any (A C:Option Addr) (N c M d K e b off I:Nat) (g:Gr) (o:Ob) (A2:Option Addr) (c2:Nat) (w:World) (h:rGr (All w) w [.slice A N c,.slice (some ⟨b,off,none⟩) M d,.slice C K e] g) (hI:findG g.2.1 o.1=(I:Int)) (hIM:I<M) (hb:b<w.heap.size)
  (x0:w.cell? ⟨b,off+I * 3,none⟩=some (.int .i64 o.1)) (x1:w.cell? ⟨b,off+I * 3+1,none⟩=some (.int .i64 o.2.1)) (x2:w.cell? ⟨b,off+I * 3+2,none⟩=some (.slice A2 o.2.2.length c2)):
  Calls Tryz.prog 57 #[.agg #[.slice A N c,.slice (some ⟨b,off,none⟩) M d,.slice C K e],.int .i64 o.1] w fun r w'=>r=.returned (.agg #[.int .i64 o.1,.int .i64 o.2.1,.slice A2 o.2.2.length c2])∧Below w.heap.size w w':=by
 have hB0:Below w.heap.size w ((w.alloc (.cells #[.slice A N c,.slice (some ⟨b,off,none⟩) M d,.slice C K e] 28)).alloc (.cells #[.int .i64 0,.int .i64 0,.slice none 0 0] 53)):=((zA _ w).alloc (zW _) _).alloc (by simp) _
 obtain⟨p0,p1⟩:=blk_two w 28 53 [.slice A N c,.slice (some ⟨b,off,none⟩) M d,.slice C K e] [.int .i64 0,.int .i64 0,.slice none 0 0]
 have TF:=zZ (fun W (hW:Below w.heap.size w W)=>gfind_any A (some ⟨b,off,none⟩) C N c M d K e g o.1 W (gr_below hW h))
 rw[hI] at TF
 have hil:(I:Int)<(M:Int):=by omega
 have hi0:(0:Int)≤(I:Int):=by omega
 have z0:=(hB0.cell (p:=⟨b,off+I * 3,none⟩) hb).trans x0
 have z1:=(hB0.cell (p:=⟨b,off+I * 3+1,none⟩) hb).trans x1
 have z2:=(hB0.cell (p:=⟨b,off+I * 3+2,none⟩) hb).trans x2
 have P0:=zZ p0
 have P1:=zZ p1
 have HB0:=zZ hB0
 have s1:((w.alloc (.cells #[.slice A N c,.slice (some ⟨b,off,none⟩) M d,.slice C K e] 28)).alloc (.cells #[.int .i64 0,.int .i64 0,.slice none 0 0] 53)).heap.size=w.heap.size+1+1:=by simp
 clear h hI hB0 p0 p1 x0 x1 x2
 generalize o.2.2.length=ol at *
 generalize o.2.1=ot at *
 generalize o.1=oi at *
 go_enter Tryz.func57,Tryz.ntmps57
 go_upto_region 1 with fail
 generalize (w.alloc (.cells #[.slice A N c,.slice (some ⟨b,off,none⟩) M d,.slice C K e] 28)).alloc (.cells #[.int .i64 0,.int .i64 0,.slice none 0 0] 53)=w1 at *
 have HS:=zZ (fun (W:World) (hW:Below (w.heap.size+1) w1 W)=>And.intro ((hW.cell (p:=⟨w.heap.size,0,none⟩) (by show w.heap.size<_;omega)).trans (P0.out.cell (j:=0) rfl)) (And.intro ((hW.cell (p:=⟨w.heap.size,1,none⟩) (by show w.heap.size<_;omega)).trans (P0.out.cell (j:=1) rfl)) (And.intro ((hW.cell (p:=⟨w.heap.size,2,none⟩) (by show w.heap.size<_;omega)).trans (P0.out.cell (j:=2) rfl))
  (And.intro ((hW.cell (p:=⟨b,off+I * 3,none⟩) (by show b<_;omega)).trans z0) (And.intro ((hW.cell (p:=⟨b,off+I * 3+1,none⟩) (by show b<_;omega)).trans z1) ((hW.cell (p:=⟨b,off+I * 3+2,none⟩) (by show b<_;omega)).trans z2))))))
 clear z0 z1 z2 P0
 refine sch_start [(0,true),(1,true),(2,true),(3,true),(4,false),(5,true),(6,true),(7,false)] (fun W=>Below (w.heap.size+1) w1 W) (by kernel_rfl) rfl (by kernel_rfl) (fun _ _ _ _ _ h=>h) ((zA _ w1).drew) (fun hH=>?_)
 repeat (first | (refine sch_yes (v:=?_) rfl rfl ?_ hH ?_;rotate_left;(focus ((intro W hW;obtain⟨a0,a1,a2,b0,b1,b2⟩:=HS.out W hW;go_simp) <;> with_reducible rfl));simp only[Act.put,zY,zX,zQ]) | (refine sch_no rfl rfl hH ?_;simp only[Act.put,zY,zX,zQ]))
 refine sch_call rfl rfl (fun K' hK=>?_)
 have hD0:=(zA w1.heap.size w1).drew
 go_wp2_with (go_at_call 46;refine (TF.out _ (HB0.out.trans (hH.mono (Nat.le_succ _)))).mono ?_;rintro e w2 ⟨rfl,hB2⟩)
 have hD2:=hH.trans (hB2.mono (by have:=hH.size;omega))
 have r1:=P1.out.to (hD0.trans (hB2.mono hD0.size))
 refine hK.out _ _ hD2 ?_
 clear hK hH
 have hH:=hD2
 repeat (first | (refine sch_yes (v:=?_) rfl rfl ?_ hH ?_;rotate_left;(focus ((intro W hW;obtain⟨a0,a1,a2,b0,b1,b2⟩:=HS.out W hW;go_simp) <;> with_reducible rfl));simp only[Act.put,zY,zX,zQ]) | (refine sch_no rfl rfl hH ?_;simp only[Act.put,zY,zX,zQ]))
 refine sch_call rfl rfl (fun K' hK=>?_)
 have y0:=r1.cell (j:=0) rfl
 have y1:=r1.cell (j:=1) rfl
 have y2:=r1.cell (j:=2) rfl
 have g0:=r1.frozen 0
 have g1:=r1.frozen 1
 have g2:=r1.frozen 2
 go_wp2
 have hD3:=((hD2.setCell (p:=⟨w.heap.size+1,0,none⟩) (zW _) (.int .i64 oi)).setCell (p:=⟨w.heap.size+1,1,none⟩) (zW _) (.int .i64 ot)).setCell (p:=⟨w.heap.size+1,2,none⟩) (zW _) (.slice A2 ol c2)
 refine hK.out _ _ hD3 ?_
 clear hK hH
 refine sch_done ?_
 go_wp2
 have P9:=((r1.set 0 (.int .i64 oi)).set 1 (.int .i64 ot)).set 2 (.slice A2 ol c2)
 refine ret_cell0 (d:=.struct _) (cs:=[.int .i64 oi,.int .i64 ot,.slice A2 ol c2]) rfl P9 rfl rfl rfl rfl rfl ?_
 exact⟨rfl,HB0.out.trans (hD3.mono (Nat.le_succ _))⟩
theorem keepF_any (A1 A2:Option Addr) (n1 n2 c1 c2 k bA bB:Nat) (i1 t1 i2 t2:Int) (l1 l2:List Vl) (x:Cel) (s:ByteArray) (w:World) (hk:x.1=(k:Int)) (hk1:k<n1) (hk2:k<n2)
  (pA:Blk w bA 53 [.int .i64 i1,.int .i64 t1,.slice A1 n1 c1]) (pB:Blk w bB 53 [.int .i64 i2,.int .i64 t2,.slice A2 n2 c2]) (h1:rVals (All w) w [.slice A1 n1 c1] l1) (h2:rVals (All w) w [.slice A2 n2 c2] l2):
  Calls Tryz.prog 59 #[.agg #[.int .i64 x.1,.int .i64 x.2.1,.string s,.int .i64 x.2.2.2],.pointer (some ⟨bA,0,none⟩),.pointer (some ⟨bB,0,none⟩)] w fun r w'=>r=.returned (.bool (decide (l1[k]?=l2[k]?)))∧Below w.heap.size w w':=by
 obtain⟨hl1,_,hm1⟩:=slice_len h1
 obtain⟨hl2,_,hm2⟩:=slice_len h2
 simp only[maxLen] at hm1 hm2
 have hB0:Below w.heap.size w (w.alloc (.cells #[.int .i64 x.1,.int .i64 x.2.1,.string s,.int .i64 x.2.2.2] 66)):=(zA _ w).alloc (zW _) _
 have p0:=Blk.new w 66 [.int .i64 x.1,.int .i64 x.2.1,.string s,.int .i64 x.2.2.2]
 obtain⟨v1,hv1⟩:∃ v1,l1[k]?=some v1:=⟨_,zV (by omega)⟩
 obtain⟨v2,hv2⟩:∃ v2,l2[k]?=some v2:=⟨_,zV (by omega)⟩
 obtain⟨b1,off1,s1,rfl,hb1,q0,q1,q2,e1,_,_,_⟩:=val_at (vals_below hB0 h1) hv1
 obtain⟨b2,off2,s2,rfl,hb2,z0,z1,z2,f1,_,_,_⟩:=val_at (vals_below hB0 h2) hv2
 have hq:∀ W,(binOp .eql 47 (.agg #[.int .i64 v1.1,.string s1,.int .i64 v1.2.2]) (.agg #[.int .i64 v2.1,.string s2,.int .i64 v2.2.2])).run Tryz.prog W=.ok (.bool (decide (l1[k]?=l2[k]?))) W:=fun W=>by
  rw[vl_eql,vl_is,e1,f1,hv1,hv2]
  have:decide (some v1=some v2)=decide ((v1.1,v1.2.1,v1.2.2)=(v2.1,v2.2.1,v2.2.2)):=by
   by_cases e:v1=v2
   ·subst e;simp
   ·rw[zK (fun h=>e (Option.some.inj h)),zK e]
  rw[this]
 have heg:=sval_guard
 have k0:=p0.cell (j:=0) rfl
 have a2:=(pA.to hB0).cell (j:=2) rfl
 have b2':=(pB.to hB0).cell (j:=2) rfl
 have hkl1:(k:Int)<(n1:Int):=by omega
 have hkl2:(k:Int)<(n2:Int):=by omega
 have hk0:(0:Int)≤(k:Int):=by omega
 have HB0:=zZ hB0
 rw[hk] at k0 HB0 a2 b2' q0 q1 q2 z0 z1 z2 hb1 hb2 ⊢
 clear hB0 p0 hv1 hv2 pA pB h1 h2 e1 f1 hk
 generalize decide (l1[k]?=l2[k]?)=r at *
 generalize x.2.1=xn at *
 generalize x.2.2.2=xr at *
 generalize v1.1=v11 at *
 generalize v1.2.2=v13 at *
 generalize v2.1=v21 at *
 generalize v2.2.2=v23 at *
 go_enter Tryz.func59,Tryz.ntmps59
 go_wp2
 go_quiet (fail)
 go_wp2
 go_ret
 exact⟨rfl,below_drewN HB0.out _⟩
theorem info_cel:(Tryz.prog.info? 66).map (fun i=>(i.zero,i.size,i.bytes))=some (some (.agg #[.int .i64 0,.int .i64 0,.string ⟨#[]⟩,.int .i64 0]),4,40):=by kernel_rfl
theorem filter_step {l:List Cel} {i:Nat} {x:Cel} (p:Cel→Bool) (hx:l[i]?=some x):(l.take (i+1)).filter p=(l.take i).filter p++(if p x=true then [x] else []):=by
 rw[take_at hx,List.filter_append]
 congr 1
 by_cases h:p x=true
 ·rw[if_pos h,List.filter_cons,if_pos h];rfl
 ·rw[if_neg h,List.filter_cons,if_neg h];rfl
abbrev OwnC (base:Nat) (w:World) (v:Value) (l:List Cel):Prop:=∃ A1 c1 xs,v=.slice A1 l.length c1∧w.ownsRow base 66 4 (.slice A1 l.length c1) l.length xs∧Chunks 4 (fun cs x=>∀ S W,rCel S W cs x) xs l
theorem without_any (A A1 A2:Option Addr) (n c n1 n2 c1 c2 bA bB:Nat) (i1 t1 i2 t2:Int) (was now:List Vl) (l:List Cel) (w:World) (hin:∀ x∈l,∃ k:Nat,x.1=(k:Int)∧k<n1∧k<n2)
  (pA:Blk w bA 53 [.int .i64 i1,.int .i64 t1,.slice A1 n1 c1]) (pB:Blk w bB 53 [.int .i64 i2,.int .i64 t2,.slice A2 n2 c2]) (h1:rVals (All w) w [.slice A1 n1 c1] was) (h2:rVals (All w) w [.slice A2 n2 c2] now) (h:rCels (All w) w [.slice A n c] l) (hn5:n≤1000):
  Calls Tryz.prog 58 #[.slice A n c,.func (.func 59) #[] #[.pointer (some ⟨bA,0,none⟩),.pointer (some ⟨bB,0,none⟩)]] w fun r w'=>∃ v,r=.returned v∧OwnC w.heap.size w' v (l.filter (otherC was now))∧Below w.heap.size w w':=by
 obtain⟨i0,hi,hz0,hz1,hz2⟩:=info_parts info_cel
 obtain⟨hl,-,-⟩:=slice_len h
 have Hh:=zZ h
 have H1:=zZ h1
 have H2:=zZ h2
 have PA:=zZ pA
 have PB:=zZ pB
 have Hin:=zZ hin
 have Hl:=zZ hl
 clear h h1 h2 pA pB hin hl
 go_enter Tryz.func58,Tryz.ntmps58
 go_wp2
 go_loopw [5,10] (fun v iv w'=>∃ (i:Nat) (xs:List Value),i≤n∧iv=.int .i64 (i:Int)∧Hid (w'.ownsRow w.heap.size 66 4 v ((l.take i).filter (otherC was now)).length xs)∧Hid (Chunks 4 (fun cs x=>∀ S W,rCel S W cs x) xs ((l.take i).filter (otherC was now)))∧Hid (Below w.heap.size w w')) (fun _ iv _=>n - (intOf iv).toNat)
 case atStart=>exact⟨0,[],by omega,rfl,zZ (World.ownsRow_nil _ _ _ _),zZ Chunks.nil,zZ (zA _ _)⟩
 case round=>
  rename World=>wr
  obtain⟨i,xs,hi',rfl,hown,hch,hB⟩:=hrel
  by_cases hin':i<n
  ·obtain⟨x,hx⟩:∃ x,l[i]?=some x:=⟨_,zV (by have:=Hl.out;omega)⟩
   obtain⟨b,off,s,rfl,hb,q0,q1,q2,q3,qs,qm,qb,qn,qr⟩:=cel_at (cels_below hB.out Hh.out) hx
   have hil:(i:Int)<(n:Int):=by omega
   have hi0:(0:Int)≤(i:Int):=by omega
   obtain⟨k,hk,hk1,hk2⟩:=Hin.out x (List.mem_of_getElem? hx)
   have hBa:Below wr.heap.size wr (wr.alloc (.cells #[.int .i64 x.1,.int .i64 x.2.1,.string s,.int .i64 x.2.2.2] 66)):=(zA _ wr).alloc (zW _) _
   have hBw:=hB.out.trans (hBa.mono hB.out.size)
   have bc:=Blk.new wr 66 [.int .i64 x.1,.int .i64 x.2.1,.string s,.int .i64 x.2.2.2]
   have TK:=zZ (keepF_any A1 A2 n1 n2 c1 c2 k bA bB i1 t1 i2 t2 was now x s _ hk hk1 hk2 (PA.out.to hBw) (PB.out.to hBw) (vals_below hBw H1.out) (vals_below hBw H2.out))
   have hoc:otherC was now x=!decide (was[k]?=now[k]?):=by rw[otherC,hk,Int.toNat_natCast]
   have hst:=filter_step (otherC was now) hx
   have Hcel:=zZ (fun S W=>rCel_mk (S:=S) (w:=W) (x:=x) (WalkArith.wf_i64 qb) qs qm (WalkArith.wf_i64 qn) (WalkArith.wf_i64 qr))
   have n0:=bc.cell (j:=0) rfl
   have n1':=bc.cell (j:=1) rfl
   have n2':=bc.cell (j:=2) rfl
   have n3':=bc.cell (j:=3) rfl
   have BC:=zZ bc
   have HBa:=zZ hBa
   have hfl:((l.take i).filter (otherC was now)).length≤i:=Nat.le_trans (List.length_filter_le _ _) (by rw[List.length_take];omega)
   clear hx hBa hBw bc hk hk1 hk2 qs qm qb qn qr
   by_cases hd:was[k]?=now[k]?
   ·rw[zJ hd] at TK hoc
    rw[if_neg (by rw[hoc];decide),List.append_nil] at hst
    have Hst:=zZ hst
    clear hd hoc hst hfl
    generalize x.1=xf at *
    generalize x.2.1=xn at *
    generalize x.2.2.2=xr at *
    go_wp2_with fail
    refine TK.out.mono ?_
    rintro e w3 ⟨rfl,hB3⟩
    have HB3:=zZ (HBa.out.trans (hB3.mono HBa.out.size))
    clear hB3 n0 n1' n2' n3'
    go_wp2
    go_roundw
    case rel=>exact⟨i+1,xs,by omega,by go_num,zZ (by rw[Hst.out];exact own_below hown.out HB3.out),zZ (by rw[Hst.out];exact hch.out),zZ (hB.out.trans (HB3.out.mono hB.out.size))⟩
    case measure=>simp[intOf];omega
   ·rw[zK hd] at TK hoc
    rw[if_pos (by rw[hoc];rfl)] at hst
    have Hst:=zZ hst
    clear hd hoc hst
    generalize ((l.take i).filter (otherC was now))=pre at *
    generalize hpl:pre.length=pl at *
    have Hpl:=zZ hpl
    clear hpl
    obtain⟨Av,cv,rfl⟩:=own_slice3 hown.out
    generalize x.1=xf at *
    generalize x.2.1=xn at *
    generalize x.2.2.2=xr at *
    go_wp2_with fail
    refine TK.out.mono ?_
    rintro e w3 ⟨rfl,hB3⟩
    have HB3:=zZ (HBa.out.trans (hB3.mono HBa.out.size))
    have bc3:=BC.out.to hB3
    clear hB3 n0 n1' n2' n3'
    have n0:=bc3.cell (j:=0) rfl
    have n1':=bc3.cell (j:=1) rfl
    have n2':=bc3.cell (j:=2) rfl
    have n3':=bc3.cell (j:=3) rfl
    have hs3:=HB3.out.size
    have hs1:=hB.out.size
    have t1':pl+1≤maxLen:=by simp only[maxLen];omega
    have t2':(pl+1) * 40≤140737488355328:=by omega
    have t3:w.heap.size≤(w3.alloc (.cells #[.int .i64 xf,.int .i64 xn,.string s,.int .i64 xr] 66)).heap.size:=by simp only[World.size_alloc];omega
    have t4:=(Blk.new w3 66 [.int .i64 xf,.int .i64 xn,.string s,.int .i64 xr]).rd
    have t5:=(own_below hown.out HB3.out).alloc (.cells #[.int .i64 xf,.int .i64 xn,.string s,.int .i64 xr] 66)
    have hlo:Hid (∀ k,some k=(Value.slice Av pl cv).ownBlock→w.heap.size≤k):=zZ fun k hk=>(hown.out.lt k hk.symm).1
    go_wp2_with (first
     | (at_builtin;refine wpList_apps rfl (.tmp 18) (.tmp 20) 48 rfl w.heap.size 66 i0 (.agg #[.int .i64 0,.int .i64 0,.string ⟨#[]⟩,.int .i64 0]) 4 40 Tryz.underlying48 hi hz0 hz1 hz2 rfl (by omega) (.slice Av pl cv) pl xs rfl t5 (some ⟨w3.heap.size,0,none⟩) 1 1 [.int .i64 xf,.int .i64 xn,.string s,.int .i64 xr] rfl rfl t4 (by simp[Value.oneCell']) t1' t2' t3 ?_;intro v5 w5 hown5 hg5 hv5)
     | fail)
    go_roundw
    case rel=>
     refine⟨i+1,_,by omega,by go_num,zZ (by rw[Hst.out,List.length_append,Hpl.out];exact hown5),zZ (by rw[Hst.out];exact hch.out.append (Chunks.one rfl fun S W=>Hcel.out S W)),zZ ?_⟩
     exact ((hB.out.trans (HB3.out.mono hB.out.size)).alloc (by omega) _).grown hg5 (by simp only[World.size_alloc];omega) (fun k hk=>hlo.out k hk.symm)
    case measure=>simp[intOf];omega
  ·have hl':l.take i=l:=List.take_of_length_le (by have:=Hl.out;omega)
   rw[hl'] at hown hch
   obtain⟨Av,cv,rfl⟩:=own_slice3 hown.out
   clear hl'
   go_wp2
   go_ret
   exact⟨_,rfl,⟨Av,cv,xs,rfl,hown.out,hch.out⟩,hB.out⟩
end Go.Proofs.YtnljjnkindjeoaaGreatDoor
