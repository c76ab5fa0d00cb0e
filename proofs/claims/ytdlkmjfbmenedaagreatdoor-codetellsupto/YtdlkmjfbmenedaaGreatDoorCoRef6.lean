/- The contract of the document's own object (layer 10): the object of a part, or none. Conditions: few types and fields; at most 1048576 bytes. -/
import Derived.Test.YtdlkmjfbmenedaaGreatDoorCoObjOf
import Derived.Test.YtdlkmjfbmenedaaGreatDoorGVlRef
import Derived.Test.YtdlkmjfbmenedaaGreatDoorGFlRef
import Derived.Test.YtdlkmjfbmenedaaGreatDoorAl
set_option maxRecDepth 100000
set_option maxHeartbeats 4000000
namespace Go.Proofs.YtdlkmjfbmenedaaGreatDoor
open Go.RowKit
theorem objL_no {s:Sch} {id:Nat} {b:List Nat} (h:(getL b).2=0∨s.length≤(getL b).1):objL s id b=none:=by rw[objL,if_pos h]
theorem objL_vals {s:Sch} {id:Nat} {b:List Nat} (h:valsL (fldsG s ((getL b).1:Int)) (b.drop (getL b).2)=none):objL s id b=none:=by
 rw[objL]
 split
 ·rfl
 ·rw[h];rfl
theorem objL_end {s:Sch} {id:Nat} {b:List Nat} {vs:List Vl} {rs:List Nat} (h1:(getL b).2≠0) (h2:(getL b).1<s.length) (h:valsL (fldsG s ((getL b).1:Int)) (b.drop (getL b).2)=some (vs,rs)):objL s id b=if rs=[] then some ((id:Int),((getL b).1:Int),vs) else none:=by
 rw[objL,if_neg (by omega),h]
 rfl
theorem got_cases (k:Int) (rs:List Nat):(getV k rs=none∧gotB k rs=false)∨∃ vn vb vr mm,getV k rs=some ((vn,vb,vr),mm)∧gotB k rs=true∧gotV k rs=(vn,vb,vr)∧gotM k rs=mm:=by
 cases hg:getV k rs with
 | none=>exact .inl ⟨rfl,by rw[gotB,hg];rfl⟩
 | some p=>exact .inr ⟨p.1.1,p.1.2.1,p.1.2.2,p.2,rfl,by rw[gotB,hg];rfl,by rw[gotV,hg];rfl,by rw[gotM,hg];rfl⟩
theorem drop_all {b:List Nat} {a:Nat} (h:a≤b.length):b.drop a=[]↔a=b.length:=by
 rw[List.drop_eq_nil_iff]
 omega
def RObjSays (s:Sch) (id:Nat) (bs:List Nat) (w:World) (r:Ending) (w':World):Prop:=
 ∃ a1 a2 A1 n1 c1 b,r=.returned (.tuple #[.agg #[.int .i64 a1,.int .i64 a2,.slice A1 n1 c1],.bool b])∧Below w.heap.size w w'∧((∃ o,objL s id bs=some o∧b=true∧a1=o.1∧a2=o.2.1∧rOb (fun b=>w.heap.size≤b∧b<w'.heap.size) w' [.int .i64 a1,.int .i64 a2,.slice A1 n1 c1] o)∨(objL s id bs=none∧b=false))
theorem robj_any (A P:Option Addr) (N c pn pc:Nat) (s:Sch) (id:Nat) (bs:List Nat) (w:World) (hs:rSch (All w) w [.slice A N c] s) (hid:id≤1000) (hn:bs.length=pn) (hpc:pn≤pc) (hb:∀ x∈bs,x<256) (hr:Rd w P (u8s bs)) (hlen:pn≤1048576)
  (hfew:∀ t,(fldsG s t).length≤5) (hN4:N≤100):
  Calls Tryz.prog 61 #[.agg #[.slice A N c],.int .i64 (id:Int),.slice P pn pc] w fun r w'=>RObjSays s id bs w r w':=by
 obtain⟨k0,hk,hx0,hx1,hx2⟩:=info_parts info_vals
 obtain⟨hN,-,-⟩:=sch_len hs
 obtain⟨hg1,hg2,hg3⟩:=getL_le bs hb
 have hB0:Below w.heap.size w ((w.alloc (.cells #[.slice A N c] 24)).alloc (.cells #[.int .i64 0,.int .i64 0,.slice none 0 0] 50)):=((zA _ w).alloc (zW _) _).alloc (by simp) _
 obtain⟨p1,p2⟩:=blk_two w 24 50 [.slice A N c] [.int .i64 0,.int .i64 0,.slice none 0 0]
 have V1:=zZ (fun W (hW:Below w.heap.size w W)=>vrget_any P pc bs W (by omega) hb (hr.below hW) (by omega))
 rw[hn] at V1
 have H0:=zZ hB0
 have P1:=zZ p1
 have P2:=zZ p2
 have Hs:=zZ hs
 have Hr:=zZ hr
 have Hb:=zZ hb
 have S0:Hid (((w.alloc (.cells #[.slice A N c] 24)).alloc (.cells #[.int .i64 0,.int .i64 0,.slice none 0 0] 50)).heap.size=w.heap.size+1+1):=zZ (by simp)
 have HQ:=zZ (fun vs rs h2 h3 h=>objL_end (s:=s) (id:=id) (b:=bs) (vs:=vs) (rs:=rs) h2 h3 h)
 have HQ0:Hid ((getL bs).2=0∨N≤(getL bs).1→objL s id bs=none):=zZ (fun h=>objL_no (by rw[hN];exact h))
 have HQn:=zZ (fun h=>objL_vals (s:=s) (id:=id) (b:=bs) h)
 have Hn:=zZ hn
 clear hs hr hB0 p1 p2
 generalize hgt:(getL bs).1=t at *
 generalize hgm:(getL bs).2=m at *
 clear hgt hgm hn
 have eN:IntKind.u64.wrap (N:Int)=(N:Int):=by have:IntKind.u64.wrap (N:Int)=(N:Int) % 18446744073709551616:=rfl;omega
 by_cases hm0:m=0
 ·have HQ1:=zZ (HQ0.out (.inl hm0))
  subst hm0
  go_enter Tryz.func61,Tryz.ntmps61
  go_wp2_with fail
  generalize (w.alloc (.cells #[.slice A N c] 24)).alloc (.cells #[.int .i64 0,.int .i64 0,.slice none 0 0] 50)=w0 at *
  refine (V1.out _ H0.out).mono ?_
  rintro r w1 ⟨rfl,hB1⟩
  have HG:=zZ (H0.out.trans (hB1.mono H0.out.size))
  have q2:=P2.out.to hB1
  have e0:=q2.cell (j:=0) rfl
  have e1:=q2.cell (j:=1) rfl
  have e2:=q2.cell (j:=2) rfl
  have z0:=q2.frozen 0
  have z1:=q2.frozen 1
  have z2:=q2.frozen 2
  have QQ:=zZ q2
  clear hB1 q2
  go_wp2
  have P9:=((QQ.out.set 0 (.int .i64 0)).set 1 (.int .i64 0)).set 2 (.slice none 0 0)
  refine ret_cell1 (d:=.struct _) (cs:=[.int .i64 0,.int .i64 0,.slice none 0 0]) rfl P9 rfl rfl rfl rfl rfl ?_
  unfold RObjSays
  exact⟨0,0,none,0,0,false,rfl,((HG.out.setCell (p:=⟨w.heap.size+1,0,none⟩) (by simp) _).setCell (p:=⟨w.heap.size+1,1,none⟩) (by simp) _).setCell (p:=⟨w.heap.size+1,2,none⟩) (by simp) _,.inr ⟨HQ1.out,rfl⟩⟩
 have hm1:((m:Int) == 0)=false:=by simpa using hm0
 by_cases htN:t<N
 rotate_left
 ·have HQ1:=zZ (HQ0.out (.inr (by omega)))
  have hc2:decide ((N:Int)≤(t:Int))=true:=zJ (by omega)
  have hc3:decide (N≤t)=true:=zJ (by omega)
  clear htN
  go_enter Tryz.func61,Tryz.ntmps61
  go_wp2_with fail
  generalize (w.alloc (.cells #[.slice A N c] 24)).alloc (.cells #[.int .i64 0,.int .i64 0,.slice none 0 0] 50)=w0 at *
  refine (V1.out _ H0.out).mono ?_
  rintro r w1 ⟨rfl,hB1⟩
  have HG:=zZ (H0.out.trans (hB1.mono H0.out.size))
  have a0:=(P1.out.to hB1).cell (j:=0) rfl
  have q2:=P2.out.to hB1
  have e0:=q2.cell (j:=0) rfl
  have e1:=q2.cell (j:=1) rfl
  have e2:=q2.cell (j:=2) rfl
  have z0:=q2.frozen 0
  have z1:=q2.frozen 1
  have z2:=q2.frozen 2
  have QQ:=zZ q2
  clear hB1 q2
  go_wp2
  have P9:=((QQ.out.set 0 (.int .i64 0)).set 1 (.int .i64 0)).set 2 (.slice none 0 0)
  refine ret_cell1 (d:=.struct _) (cs:=[.int .i64 0,.int .i64 0,.slice none 0 0]) rfl P9 rfl rfl rfl rfl rfl ?_
  unfold RObjSays
  exact⟨0,0,none,0,0,false,rfl,((HG.out.setCell (p:=⟨w.heap.size+1,0,none⟩) (by simp) _).setCell (p:=⟨w.heap.size+1,1,none⟩) (by simp) _).setCell (p:=⟨w.heap.size+1,2,none⟩) (by simp) _,.inr ⟨HQ1.out,rfl⟩⟩
 have hc2:decide ((N:Int)≤(t:Int))=false:=zK (by omega)
 have hc4:decide (N≤t)=false:=zK (by omega)
 have htl:(t:Int)<(N:Int):=by omega
 have ht0:(0:Int)≤(t:Int):=by omega
 have hN100:(N:Int)≤100:=by omega
 have ht9:Hid ((Lit.int .i64 (t:Int)).wf=true):=zZ (WalkArith.wf_i64 ⟨Int.le_trans (by decide) ht0,Int.le_trans (Int.le_of_lt htl) (Int.le_trans hN100 (by decide))⟩)
 have hgs:s[t]?=some s[t]:=zV (by omega)
 obtain⟨bt,offt,st,AF,cF,rfl,hbt,-,y1,-,-,hfs⟩:=typ_at Hs.out hgs
 have hFe:=fldsG_at (s:=s) (t:=(t:Int)) rfl hgs
 rw[← hFe] at y1 hfs
 have hfl5:=hfew (t:Int)
 obtain⟨fl,hfl⟩:∃ fl,fl=(fldsG s (t:Int)).length:=⟨_,rfl⟩
 rw[← hfl] at y1 hfs hfl5
 have HY:=zZ (fun W (hW:Below w.heap.size w W)=>(hW.cell (p:=⟨bt,offt+t * 2+1,none⟩) hbt).trans y1)
 have HF:=zZ (fun W (hW:Below w.heap.size w W)=>flds_below hW hfs)
 have HQ1:=zZ (fun vs rs h=>HQ.out vs rs (by omega) (by omega) h)
 have Hfl:=zZ hfl
 have e1:wrap64 (t:Int)=(t:Int):=by unfold wrap64;omega
 have hid9:Hid ((Lit.int .i64 (id:Int)).wf=true):=zZ (WalkArith.wf_i64 ⟨by omega,by omega⟩)
 have Hpl:=zZ (And.intro hlen hpc)
 have Hmn:Hid (m≤pn):=zZ (by have:=Hn.out;omega)
 clear y1 hfs hfl hgs hFe HQ HQ0 hb hfew hbt
 generalize hr0:bs.drop m=r0 at *
 have HR0:=zZ hr0
 clear hr0
 generalize fldsG s (t:Int)=fs at *
 go_enter Tryz.func61,Tryz.ntmps61
 go_wp2_with fail
 generalize (w.alloc (.cells #[.slice (some ⟨bt,offt,none⟩) N c] 24)).alloc (.cells #[.int .i64 0,.int .i64 0,.slice none 0 0] 50)=w0 at *
 refine (V1.out _ H0.out).mono ?_
 rintro r wg ⟨rfl,hBg⟩
 have a0:=(P1.out.to hBg).cell (j:=0) rfl
 have hHG:=H0.out.trans (hBg.mono H0.out.size)
 have SG:Hid (w.heap.size+1+1≤wg.heap.size):=zZ (by have:=S0.out;have:=hBg.size;omega)
 have hBa:Below wg.heap.size wg (wg.alloc (.cells #[.int .i64 (id:Int),.int .i64 (t:Int),.slice none 0 0] 50)):=(zA _ wg).alloc (zW _) _
 have HB3:=zZ (hHG.trans (hBa.mono hHG.size))
 have Q1:=zZ ((P1.out.to hBg).to hBa)
 have Q2:=zZ ((P2.out.to hBg).to hBa)
 have Q3:=zZ (Blk.new wg 50 [.int .i64 (id:Int),.int .i64 (t:Int),.slice none 0 0])
 have S3:Hid ((wg.alloc (.cells #[.int .i64 (id:Int),.int .i64 (t:Int),.slice none 0 0] 50)).heap.size=wg.heap.size+1):=zZ (by simp)
 have Hfl5:=zZ hfl5
 have HN2:=zZ (And.intro htl ht0)
 clear hBg hHG hBa V1 P1 P2 H0 S0 hm0 htN hpc hlen hN4 hid hN hN100 hfl5 hg1 hg2 hg3 Hs
 go_wp2
 generalize wg.alloc (.cells #[.int .i64 (id:Int),.int .i64 (t:Int),.slice none 0 0] 50)=w1 at *
 clear a0 e1 hc2 hc4 hm1 eN
 go_loopw [9,11] (fun v9 iv wr=>∃ (k a:Nat) (vF:Value) (ys:List Value) (vs:List Vl),k≤fl∧v9=.int .i64 (a:Int)∧iv=.int .i64 (k:Int)∧a≤pn∧Hid (RowIn wg.heap.size 2 50 47 3 [.int .i64 (id:Int),.int .i64 (t:Int),.slice none 0 0] w1 vF k ys wr)∧Hid (Chunks 3 (fun cs x=>∀ S W,rVal S W cs x) ys vs)∧Hid (vs.length=k)∧Hid (valsL fs r0=(valsL (fs.drop k) (bs.drop a)).map fun q=>(vs++q.1,q.2))) (fun _ iv _=>fl - (intOf iv).toNat)
 case atStart=>exact⟨0,m,.slice none 0 0,[],[],by omega,rfl,rfl,Hmn.out,zZ (RowIn.start Q3.out rfl),zZ Chunks.nil,zZ rfl,zZ (by rw[HR0.out];simp)⟩
 case round=>
  rename World=>wr
  obtain⟨k,a,vF,ys,vs,hk',rfl,rfl,hap,hI,hch,hvl,hva⟩:=hrel
  have hs3:=S3.out
  have hsG:=SG.out
  have hsr:=hI.out.bel.size
  have hBw:Below w.heap.size w wr:=HB3.out.trans (hI.out.bel.mono (by omega))
  obtain⟨AF2,cF2,hvF⟩:=own_slice3 hI.out.own
  subst hvF
  have HSF:=zZ (fun W (hW:Below wr.heap.size wr W)=>And.intro ((show Blk W w.heap.size 24 [.slice (some ⟨bt,offt,none⟩) N c] from ((hW.block w.heap.size (by omega)).trans (hI.out.bel.block w.heap.size (by omega))).trans Q1.out).cell (j:=0) rfl) (And.intro ((hI.out.bx.to hW).cell (j:=1) rfl) (HY.out W (hBw.trans (hW.mono hBw.size)))))
  have HQ2:=zZ (fun W (hW:Below wr.heap.size wr W)=>(show Blk W (w.heap.size+1) 50 [.int .i64 0,.int .i64 0,.slice none 0 0] from ((hW.block (w.heap.size+1) (by omega)).trans (hI.out.bel.block (w.heap.size+1) (by omega))).trans Q2.out))
  obtain⟨a0,c1,y1⟩:=HSF.out wr (zA _ wr)
  obtain⟨htl,ht0⟩:=HN2.out
  by_cases hkn:k<fl
  ·obtain⟨f,hf⟩:∃ f,fs[k]?=some f:=⟨_,zV (by have:=Hfl.out;omega)⟩
   obtain⟨bf,offf,sa,sb,hA1,hbf,f0,f1,f2,-,-,-,-,-⟩:=fld_at (HF.out wr hBw) hf
   subst hA1
   have Hmore:=zZ (fun v mm hg=>valsL_more (v:=v) (m:=mm) hf hva.out hg)
   have Hstop:=zZ (fun hg=>valsL_stop hf hva.out hg)
   obtain⟨fa,fk,fb⟩:=f
   simp only at f1 Hmore Hstop
   have HSQ:=zZ (fun W (hW:Below wr.heap.size wr W)=>And.intro (HSF.out W hW) (And.intro ((hW.cell (p:=⟨bf,offf+k * 3,none⟩) hbf).trans f0) (And.intro ((hW.cell (p:=⟨bf,offf+k * 3+1,none⟩) hbf).trans f1) ((hW.cell (p:=⟨bf,offf+k * 3+2,none⟩) hbf).trans f2))))
   have hrd:=Hr.out.cut (c:=pc) (by have:=Hn.out;have:=Hpl.out.2;simp;omega) a
   rw[u8s_drop] at hrd
   have Hrb:Hid (∀ x∈bs.drop a,x<256):=zZ (fun x hx=>Hb.out x (List.mem_of_mem_drop hx))
   have Hrl:Hid ((bs.drop a).length=pn - a):=zZ (by rw[List.length_drop,Hn.out])
   have T1:=zZ (fun W (hW:Below wr.heap.size wr W)=>rvlget_any sa sb fk (slA P pc a) (pn - a) (pc - a) (bs.drop a) W Hrl.out (by have:=Hpl.out.2;omega) Hrb.out (hrd.below (hBw.trans (hW.mono hBw.size))) (by have:=Hpl.out.1;omega))
   have HGC:=zZ (got_cases fk (bs.drop a))
   have hcut:=fun W=>run_rest8 P pn pc a hap W
   have hcut2:=fun W=>(show (Instr.sliceAt 29 (.slice P pn pc) (some (.int .i64 (a:Int))) none none).run Tryz.prog W=.ok (.slice (slA P pc a) (pn - a) (pc - a)) W from by simp[Instr.sliceAt,Sem.run_bind,Result.andThen,underlying,Tryz.underlying29,hcut W])
   have Hkn:=zZ hkn
   have HBw:=zZ hBw
   have Hap:=zZ hap
   have hkl:(k:Int)<(fl:Int):=by omega
   have hk0:(0:Int)≤(k:Int):=by omega
   clear hf hbf hBw hkn f0 f1 f2 hrd hap
   generalize hgb:gotB fk (bs.drop a)=gb at *
   generalize hgm:gotM fk (bs.drop a)=gm at *
   generalize hgv:gotV fk (bs.drop a)=gv at *
   clear hgb hgm hgv
   clear hs3 hsG hsr hk'
   go_wp2
   clear a0 c1 y1
   go_cut [12,13,14] (fun v12 v13 v14 wz=>∃ (g7:Nat) (sv:ByteArray),v12=.pointer (some ⟨g7,0,none⟩)∧v13=.int .i64 (gm:Int)∧v14=.bool gb∧Hid (byt sv=gv.2.1)∧Hid (Blk wz g7 47 [.int .i64 gv.1,.string sv,.int .i64 gv.2.2])∧Hid (Below wr.heap.size wr wz))
   case first=>
    refine fr_start (fun W=>Below wr.heap.size wr W) 22 (by kernel_rfl) rfl (fun _ _ _ _ _ h=>h) (zA _ wr).drew (fun hH=>?_)
    have hDs:wr.heap.size≤wr.drew.heap.size:=hH.size
    generalize wr.drew=wd at *
    (refine fr_yes 0 (v:=?_) rfl (by kernel_rfl) rfl ?_ hH ?_;rotate_left;(focus ((intro W hW;obtain⟨⟨a0,c1,y1⟩,f0,f1,f2⟩:=HSQ.out W hW;go_simp) <;> with_reducible rfl));simp only[Act.put,zY,zX,zQ]);(refine fr_yes 1 (v:=?_) rfl (by kernel_rfl) rfl ?_ hH ?_;rotate_left;(focus ((intro W hW;obtain⟨⟨a0,c1,y1⟩,f0,f1,f2⟩:=HSQ.out W hW;go_simp) <;> with_reducible rfl));simp only[Act.put,zY,zX,zQ]);(refine fr_yes 2 (v:=?_) rfl (by kernel_rfl) rfl ?_ hH ?_;rotate_left;(focus ((intro W hW;obtain⟨⟨a0,c1,y1⟩,f0,f1,f2⟩:=HSQ.out W hW;go_simp) <;> with_reducible rfl));simp only[Act.put,zY,zX,zQ]);(refine fr_yes 3 (v:=?_) rfl (by kernel_rfl) rfl ?_ hH ?_;rotate_left;(focus ((intro W hW;obtain⟨⟨a0,c1,y1⟩,f0,f1,f2⟩:=HSQ.out W hW;go_simp) <;> with_reducible rfl));simp only[Act.put,zY,zX,zQ]);(refine fr_yes 4 (v:=?_) rfl (by kernel_rfl) rfl ?_ hH ?_;rotate_left;(focus ((intro W hW;obtain⟨⟨a0,c1,y1⟩,f0,f1,f2⟩:=HSQ.out W hW;go_simp) <;> with_reducible rfl));simp only[Act.put,zY,zX,zQ]);(refine fr_yes 5 (v:=?_) rfl (by kernel_rfl) rfl ?_ hH ?_;rotate_left;(focus ((intro W hW;obtain⟨⟨a0,c1,y1⟩,f0,f1,f2⟩:=HSQ.out W hW;go_simp) <;> with_reducible rfl));simp only[Act.put,zY,zX,zQ]);(refine fr_yes 6 (v:=?_) rfl (by kernel_rfl) rfl ?_ hH ?_;rotate_left;(focus ((intro W hW;obtain⟨⟨a0,c1,y1⟩,f0,f1,f2⟩:=HSQ.out W hW;go_simp) <;> with_reducible rfl));simp only[Act.put,zY,zX,zQ]);(refine fr_yes 7 (v:=?_) rfl (by kernel_rfl) rfl ?_ hH ?_;rotate_left;(focus ((intro W hW;obtain⟨⟨a0,c1,y1⟩,f0,f1,f2⟩:=HSQ.out W hW;go_simp) <;> with_reducible rfl));simp only[Act.put,zY,zX,zQ]);(refine fr_yes 8 (v:=?_) rfl (by kernel_rfl) rfl ?_ hH ?_;rotate_left;(focus ((intro W hW;obtain⟨⟨a0,c1,y1⟩,f0,f1,f2⟩:=HSQ.out W hW;go_simp) <;> with_reducible rfl));simp only[Act.put,zY,zX,zQ]);(refine fr_yes 9 (v:=?_) rfl (by kernel_rfl) rfl ?_ hH ?_;rotate_left;(focus ((intro W hW;obtain⟨⟨a0,c1,y1⟩,f0,f1,f2⟩:=HSQ.out W hW;go_simp) <;> with_reducible rfl));simp only[Act.put,zY,zX,zQ]);(refine fr_yes 10 (v:=?_) rfl (by kernel_rfl) rfl ?_ hH ?_;rotate_left;(focus ((intro W hW;obtain⟨⟨a0,c1,y1⟩,f0,f1,f2⟩:=HSQ.out W hW;go_simp) <;> with_reducible rfl));simp only[Act.put,zY,zX,zQ]);(refine fr_yes 11 (v:=?_) rfl (by kernel_rfl) rfl ?_ hH ?_;rotate_left;(focus ((intro W hW;obtain⟨⟨a0,c1,y1⟩,f0,f1,f2⟩:=HSQ.out W hW;go_simp) <;> with_reducible rfl));simp only[Act.put,zY,zX,zQ]);(refine fr_yes 12 (v:=?_) rfl (by kernel_rfl) rfl ?_ hH ?_;rotate_left;(focus ((intro W hW;obtain⟨⟨a0,c1,y1⟩,f0,f1,f2⟩:=HSQ.out W hW;go_simp) <;> with_reducible rfl));simp only[Act.put,zY,zX,zQ])
    refine fr_op [13,18] (by kernel_rfl) (by simp) ?_;intro jj hjj;simp only[List.mem_cons,List.not_mem_nil,or_false] at hjj;rcases hjj with rfl | rfl
    ·refine⟨_,rfl,rfl,fun K hK=>?_⟩
     go_wp2_with (go_at_call 91;refine (T1.out _ hH).mono ?_;rintro e wh ⟨sv,hsv,rfl,hCg⟩)
     have hDg:=hH.trans (hCg.mono hH.size)
     have Hsv:=zZ hsv
     refine hK.out _ _ hDg ?_
     clear hK hH hCg hsv
     have hH:=hDg
     (refine fr_yes 14 (v:=?_) rfl (by kernel_rfl) rfl ?_ hH ?_;rotate_left;(focus ((intro W hW;go_simp) <;> with_reducible rfl));simp only[Act.put,zY,zX,zQ]);(refine fr_yes 15 (v:=?_) rfl (by kernel_rfl) rfl ?_ hH ?_;rotate_left;(focus ((intro W hW;go_simp) <;> with_reducible rfl));simp only[Act.put,zY,zX,zQ]);(refine fr_yes 16 (v:=?_) rfl (by kernel_rfl) rfl ?_ hH ?_;rotate_left;(focus ((intro W hW;go_simp) <;> with_reducible rfl));simp only[Act.put,zY,zX,zQ]);(refine fr_yes 17 (v:=?_) rfl (by kernel_rfl) rfl ?_ hH ?_;rotate_left;(focus ((intro W hW;go_simp) <;> with_reducible rfl));simp only[Act.put,zY,zX,zQ])
     refine fr_op [18] (by kernel_rfl) (by simp) ?_;intro jj hjj;simp only[List.mem_cons,List.not_mem_nil,or_false] at hjj;subst hjj;refine⟨_,rfl,rfl,fun K hK=>?_⟩
     go_wp2
     refine hK.out _ _ (hDg.alloc hDg.size (.cells #[.int .i64 0,.string ⟨#[]⟩,.int .i64 0] 47)) ?_
     clear hK hH
     refine fr_op [19] (by kernel_rfl) (by simp) ?_;intro jj hjj;simp only[List.mem_cons,List.not_mem_nil,or_false] at hjj;subst hjj;refine⟨_,rfl,rfl,fun K hK=>?_⟩
     go_wp2
     have hDe:=hDg.alloc hDg.size (.cells #[.int .i64 gv.1,.string sv,.int .i64 gv.2.2] 47)
     refine hK.out _ _ hDe ?_
     clear hK
     have hH:=hDe
     (refine fr_yes 20 (v:=?_) rfl (by kernel_rfl) rfl ?_ hH ?_;rotate_left;(focus ((intro W hW;go_simp) <;> with_reducible rfl));simp only[Act.put,zY,zX,zQ]);(refine fr_yes 21 (v:=?_) rfl (by kernel_rfl) rfl ?_ hH ?_;rotate_left;(focus ((intro W hW;go_simp) <;> with_reducible rfl));simp only[Act.put,zY,zX,zQ])
     refine fr_done (by kernel_rfl) ?_
     go_wp2
     go_meet
     case rel=>exact⟨_,sv,rfl,rfl,rfl,Hsv,zZ (Blk.new _ _ [.int .i64 gv.1,.string sv,.int .i64 gv.2.2]),zZ hDe⟩
    ·refine⟨_,rfl,rfl,fun K hK=>?_⟩
     go_wp2
     have hDz:=hH.alloc hH.size (.cells #[.int .i64 0,.string ⟨#[]⟩,.int .i64 0] 47)
     have vz:=Blk.new wd 47 [.int .i64 0,.string ⟨#[]⟩,.int .i64 0]
     refine hK.out _ _ hDz ?_
     clear hK hH
     have hH:=hDz
     generalize wd.alloc (.cells #[.int .i64 0,.string ⟨#[]⟩,.int .i64 0] 47)=wz at *
     refine fr_op [13] (by kernel_rfl) (by simp) ?_;intro jj hjj;simp only[List.mem_cons,List.not_mem_nil,or_false] at hjj;subst hjj;refine⟨_,rfl,rfl,fun K hK=>?_⟩
     go_wp2_with (go_at_call 91;refine (T1.out _ hDz).mono ?_;rintro e wh ⟨sv,hsv,rfl,hCg⟩)
     have hDg:=hDz.trans (hCg.mono hDz.size)
     have vg:=vz.to hCg
     have Hsv:=zZ hsv
     refine hK.out _ _ hDg ?_
     clear hK hH hCg hDz vz hsv
     have hH:=hDg
     (refine fr_yes 14 (v:=?_) rfl (by kernel_rfl) rfl ?_ hH ?_;rotate_left;(focus ((intro W hW;go_simp) <;> with_reducible rfl));simp only[Act.put,zY,zX,zQ]);(refine fr_yes 15 (v:=?_) rfl (by kernel_rfl) rfl ?_ hH ?_;rotate_left;(focus ((intro W hW;go_simp) <;> with_reducible rfl));simp only[Act.put,zY,zX,zQ]);(refine fr_yes 16 (v:=?_) rfl (by kernel_rfl) rfl ?_ hH ?_;rotate_left;(focus ((intro W hW;go_simp) <;> with_reducible rfl));simp only[Act.put,zY,zX,zQ]);(refine fr_yes 17 (v:=?_) rfl (by kernel_rfl) rfl ?_ hH ?_;rotate_left;(focus ((intro W hW;go_simp) <;> with_reducible rfl));simp only[Act.put,zY,zX,zQ])
     have z0:=vg.cell (j:=0) rfl
     have z1:=vg.cell (j:=1) rfl
     have z2:=vg.cell (j:=2) rfl
     have f0:=vg.frozen 0
     have f1:=vg.frozen 1
     have f2:=vg.frozen 2
     refine fr_op [19] (by kernel_rfl) (by simp) ?_;intro jj hjj;simp only[List.mem_cons,List.not_mem_nil,or_false] at hjj;subst hjj;refine⟨_,rfl,rfl,fun K hK=>?_⟩
     go_wp2
     have hDe:=((hDg.setCell (p:=⟨wd.heap.size,0,none⟩) hDs (.int .i64 gv.1)).setCell (p:=⟨wd.heap.size,1,none⟩) hDs (.string sv)).setCell (p:=⟨wd.heap.size,2,none⟩) hDs (.int .i64 gv.2.2)
     refine hK.out _ _ hDe ?_
     clear hK hH
     have hH:=hDe
     (refine fr_yes 20 (v:=?_) rfl (by kernel_rfl) rfl ?_ hH ?_;rotate_left;(focus ((intro W hW;go_simp) <;> with_reducible rfl));simp only[Act.put,zY,zX,zQ]);(refine fr_yes 21 (v:=?_) rfl (by kernel_rfl) rfl ?_ hH ?_;rotate_left;(focus ((intro W hW;go_simp) <;> with_reducible rfl));simp only[Act.put,zY,zX,zQ])
     refine fr_done (by kernel_rfl) ?_
     go_wp2
     go_meet
     case rel=>exact⟨_,sv,rfl,rfl,rfl,Hsv,zZ (((vg.set 0 (.int .i64 gv.1)).set 1 (.string sv)).set 2 (.int .i64 gv.2.2)),zZ hDe⟩
   case rest=>
    rename World=>wz
    obtain⟨g7,sv,rfl,rfl,rfl,Hsv,Pv,Hz⟩:=hcut
    clear hcut2 T1
    have HQ7:=zZ (HQ2.out wz Hz.out)
    have HBz:=zZ (HBw.out.trans (Hz.out.mono HBw.out.size))
    rcases HGC.out with⟨hgn,hgb⟩ | ⟨vn,vb,vr,mm,hgs,hgb,hgv,hgm⟩
    ·subst hgb
     have HN:=zZ (HQn.out (Hstop.out hgn))
     have q2:=HQ7.out
     have e0:=q2.cell (j:=0) rfl
     have e1:=q2.cell (j:=1) rfl
     have e2:=q2.cell (j:=2) rfl
     have z0:=q2.frozen 0
     have z1:=q2.frozen 1
     have z2:=q2.frozen 2
     clear q2 hgn HGC
     go_wp2
     have P9:=((HQ7.out.set 0 (.int .i64 0)).set 1 (.int .i64 0)).set 2 (.slice none 0 0)
     refine ret_cell1 (d:=.struct _) (cs:=[.int .i64 0,.int .i64 0,.slice none 0 0]) rfl P9 rfl rfl rfl rfl rfl ?_
     unfold RObjSays
     exact⟨0,0,none,0,0,false,rfl,((HBz.out.setCell (p:=⟨w.heap.size+1,0,none⟩) (by simp) _).setCell (p:=⟨w.heap.size+1,1,none⟩) (by simp) _).setCell (p:=⟨w.heap.size+1,2,none⟩) (by simp) _,.inr ⟨HN.out,rfl⟩⟩
    ·subst hgb hgv hgm
     obtain⟨hft,hmr,-,hov⟩:=vl_get_back Hrb.out hgs
     have hr9:=fits_r hft
     have hs9:=fits_s hft
     have hsv:=Hsv.out
     simp only at hr9 hs9 hsv
     have hvv:∀ S W,rVal S W [.int .i64 vn,.string sv,.int .i64 vr] (vn,vb,vr):=fun S W=>rVal_mk (v:=(vn,vb,vr)) hsv (by have:sv.size≤12:=(by rw[← byt_length,hsv];exact hs9);simp only[maxLen];omega) (WalkArith.wf_i64 hov.1) (WalkArith.wf_i64 ⟨by show _≤vr;omega,by show vr≤_;omega⟩)
     have Hvv:=zZ hvv
     have Hva2:=zZ (Hmore.out _ _ hgs)
     have hmr2:a+gm≤pn:=by have:=Hrl.out;have:=Hap.out;omega
     have Hmr:=zZ hmr2
     have Hdr:Hid ((bs.drop a).drop gm=bs.drop (a+gm)):=zZ (by rw[List.drop_drop])
     have hp9:pn≤1048576:=Hpl.out.1
     have ew:wrap64 ((a:Int)+(gm:Int))=((a+gm:Nat):Int):=by unfold wrap64;omega
     have pv:=Pv.out
     simp only at pv
     have v0:=pv.cell (j:=0) rfl
     have v1:=pv.cell (j:=1) rfl
     have v2:=pv.cell (j:=2) rfl
     have hIz:=hI.out.more (by have:=S3.out;omega) Hz.out
     have d2:=hIz.bx.cell (j:=2) rfl
     have hsz:=Hz.out.size
     have t1:k+1≤maxLen:=by have:=Hkn.out;have:=Hfl5.out;simp only[maxLen];omega
     have t2:(k+1) * 32≤140737488355328:=by have:=Hkn.out;have:=Hfl5.out;omega
     have t3:w1.heap.size≤(wz.alloc (.cells #[.int .i64 vn,.string sv,.int .i64 vr] 47)).heap.size:=by simp only[World.size_alloc];have:=hI.out.bel.size;have:=S3.out;omega
     have t4:=(Blk.new wz 47 [.int .i64 vn,.string sv,.int .i64 vr]).rd
     have t5:=hIz.own.alloc (.cells #[.int .i64 vn,.string sv,.int .i64 vr] 47)
     have HIz:=zZ hIz
     clear hft hmr hov hr9 hs9 hsv hvv hgs HGC pv hIz Hstop Hmore hmr2
     go_wp2_with (first
      | (at_builtin;refine wpList_apps rfl (.tmp 69) (.tmp 71) 48 rfl w1.heap.size 47 k0 (.agg #[.int .i64 0,.string ⟨#[]⟩,.int .i64 0]) 3 32 Tryz.underlying48 hk hx0 hx1 hx2 rfl (by omega) (.slice AF2 k cF2) k ys rfl t5 (some ⟨wz.heap.size,0,none⟩) 1 1 [.int .i64 vn,.string sv,.int .i64 vr] rfl rfl t4 (by simp[Value.oneCell']) t1 t2 t3 ?_;intro v4 w4 hown4 hg4 hv4;obtain⟨bx4,hR4⟩:=hI.out.step (by have:=S3.out;omega) Hz.out hg4 hown4;obtain⟨A4,c4,hv4e⟩:=own_slice3 hown4;subst hv4e;have e4:=bx4.cell (j:=2) rfl;have f4:=bx4.frozen 2;have HR4:=zZ hR4;clear hR4 hown4 hg4 hv4 bx4)
      | fail)
     go_roundw
     case rel=>
      exact⟨k+1,a+gm,_,_,vs++[(vn,vb,vr)],Hkn.out,by go_num,by have:=Hkn.out;have:=Hfl5.out;go_num,Hmr.out,HR4,zZ (hch.out.append (Chunks.one rfl Hvv.out)),zZ (by rw[List.length_append,hvl.out];rfl),zZ (by rw[← Hdr.out];exact Hva2.out)⟩
     case measure=>have:=Hkn.out;have:=Hfl5.out;simp[intOf];omega
  ·have hko:k=fl:=by omega
   subst hko
   have hva9:=hva.out
   rw[List.drop_of_length_le (by have:=Hfl.out;omega),valsL] at hva9
   simp only[Option.map_some,List.append_nil] at hva9
   have hq:=HQ1.out _ _ hva9
   have Hda:=zZ (drop_all (b:=bs) (a:=a) (by rw[Hn.out];exact hap))
   have c0:=hI.out.bx.cell (j:=0) rfl
   have c2:=hI.out.bx.cell (j:=2) rfl
   have q2:=HQ2.out wr (zA _ wr)
   have e0:=q2.cell (j:=0) rfl
   have e1:=q2.cell (j:=1) rfl
   have e2:=q2.cell (j:=2) rfl
   have z0:=q2.frozen 0
   have z1:=q2.frozen 1
   have z2:=q2.frozen 2
   have QQ:=zZ q2
   have hv9:=own_vals hI.out.own hvl.out hch.out
   have Hv9:=zZ hv9
   have HBw:=zZ hBw
   have Hs9:Hid (w.heap.size+1+1+1≤wr.heap.size):=zZ (by omega)
   have hil:¬ ((k:Int)<(k:Int)):=by omega
   by_cases hae:a=pn
   ·have Hq:=zZ (hq.trans (if_pos (Hda.out.2 (by rw[Hn.out];exact hae))))
    subst hae
    clear hva9 hq hv9 hBw hsr hs3 hsG hk' hkn q2 hap HQ2 HSF
    go_wp2
    have P9:=((QQ.out.set 0 (.int .i64 (id:Int))).set 1 (.int .i64 (t:Int))).set 2 (.slice AF2 k cF2)
    refine ret_cell1 (d:=.struct _) (cs:=[.int .i64 (id:Int),.int .i64 (t:Int),.slice AF2 k cF2]) rfl P9 rfl rfl rfl rfl rfl ?_
    unfold RObjSays
    refine⟨(id:Int),(t:Int),AF2,k,cF2,true,rfl,((HBw.out.setCell (p:=⟨w.heap.size+1,0,none⟩) (by simp) _).setCell (p:=⟨w.heap.size+1,1,none⟩) (by simp) _).setCell (p:=⟨w.heap.size+1,2,none⟩) (by simp) _,.inl ⟨((id:Int),(t:Int),vs),Hq.out,rfl,rfl,rfl,?_⟩⟩
    refine rOb_mk (o:=((id:Int),(t:Int),vs)) hid9.out ht9.out (rVals_stays.to (fun b hb=>⟨⟨?_,?_⟩,?_⟩) Hv9.out)
    ·have:=(hI.out.own.lt b hb).1;have:=S3.out;have:=SG.out;omega
    ·have:=(hI.out.own.lt b hb).2;simpa using this
    ·have hne:b≠w.heap.size+1:=by have:=(hI.out.own.lt b hb).1;have:=S3.out;have:=SG.out;omega
     rw[Below.heap_setCell _ _ _ _ hne,Below.heap_setCell _ _ _ _ hne,Below.heap_setCell _ _ _ _ hne]
   ·have Hq:=zZ (hq.trans (if_neg (fun h=>hae (by rw[Hda.out.1 h,Hn.out]))))
    have hb1:((a:Int) == (pn:Int))=false:=beq_eq_false_iff_ne.2 (by omega)
    have hb2:(a == pn)=false:=by simpa using hae
    clear hva9 hq hv9 hBw hsr hs3 hsG hk' hkn q2 hap hae HQ2 HSF
    go_wp2
    have P9:=((QQ.out.set 0 (.int .i64 (id:Int))).set 1 (.int .i64 (t:Int))).set 2 (.slice AF2 k cF2)
    refine ret_cell1 (d:=.struct _) (cs:=[.int .i64 (id:Int),.int .i64 (t:Int),.slice AF2 k cF2]) rfl P9 rfl rfl rfl rfl rfl ?_
    unfold RObjSays
    exact⟨(id:Int),(t:Int),AF2,k,cF2,false,rfl,((HBw.out.setCell (p:=⟨w.heap.size+1,0,none⟩) (by simp) _).setCell (p:=⟨w.heap.size+1,1,none⟩) (by simp) _).setCell (p:=⟨w.heap.size+1,2,none⟩) (by simp) _,.inr ⟨Hq.out,rfl⟩⟩
end Go.Proofs.YtdlkmjfbmenedaaGreatDoor
