/- The contracts of code's rootsPart and objPart: roots, and an object, as bytes. Conditions: what each lemma names; they hold of a graph that may be. -/
import Derived.Test.YtdlkmjfbmenedaaGreatDoorCoErr
import Derived.Test.YtdlkmjfbmenedaaGreatDoorCoSum
import Derived.Test.YtdlkmjfbmenedaaGreatDoorGVari
import Derived.Test.YtdlkmjfbmenedaaGreatDoorGValue
import Derived.Test.YtdlkmjfbmenedaaGreatDoorAl
set_option maxRecDepth 100000
set_option maxHeartbeats 2000000
namespace Go.Proofs.YtdlkmjfbmenedaaGreatDoor
open Go.RowKit
theorem rootsB_take {l:List Int} {i:Nat} {x:Int} (h:l[i]?=some x):rootsB (l.take (i+1))=rootsB (l.take i)++vputL (x+1).toNat:=by
 rw[List.take_add_one,h]
 simp only[Option.toList,rootsB,List.map_append,List.map_cons,List.map_nil]
 induction (l.take i).map fun r=>(r+1).toNat with
 | nil=>simp[catV]
 | cons a t ih=>rw[List.cons_append,catV,catV,ih,List.append_assoc]
theorem rootsPart_any (C:Option Addr) (K e:Nat) (l:List Int) (w:World) (h:rIds (All w) w [.slice C K e] l) (hb:∀ r∈l,-1≤r∧r≤1073741824) (hK3:K≤100):
  Calls Tryz.prog 73 #[.slice C K e] w fun r w'=>∃ v,r=.returned v∧w'.ownsRow w.heap.size 5 1 v (rootsB l).length (u8s (rootsB l))∧Below w.heap.size w w':=by
 obtain⟨hK,-,-⟩:=slice_len h
 obtain⟨i0,hi,hz0,hz1,hz2⟩:=info_parts info_u8
 have hlen:∀ i,(rootsB (l.take i)).length≤5 * K:=fun i=>by
  have:=catV_len5 (l:=(l.take i).map fun r=>(r+1).toNat) (fun n hn=>by
   obtain⟨r,hr,rfl⟩:=List.mem_map.1 hn
   have:=hb r (List.mem_of_mem_take hr)
   omega)
  rw[List.length_map,List.length_take] at this
  rw[rootsB]
  omega
 have Hh:=zZ h
 have Hb:=zZ hb
 have Hlen:=zZ hlen
 clear h hb hlen
 go_enter Tryz.func73,Tryz.ntmps73
 go_wp2
 go_loopw [3,8] (fun v iv wr=>∃ i:Nat,i≤K∧iv=.int .i64 (i:Int)∧wr.ownsRow w.heap.size 5 1 v (rootsB (l.take i)).length (u8s (rootsB (l.take i)))∧Below w.heap.size w wr) (fun _ iv _=>K - (intOf iv).toNat)
 case atStart=>exact⟨0,by omega,rfl,World.ownsRow_nil _ _ _ _,zA _ _⟩
 case round=>
  rename World=>wr
  obtain⟨i,hi',rfl,hown,hB⟩:=hrel
  by_cases hin:i<K
  ·obtain⟨x,hx⟩:∃ x,l[i]?=some x:=⟨_,zV (by omega)⟩
   obtain⟨b,off,rfl,hbb,x0,hxb⟩:=id_at Hh.out hx
   have x0':=(hB.cell (p:=⟨b,off+i,none⟩) hbb).trans x0
   have htk:=rootsB_take hx
   have hxr:=Hb.out x (List.mem_of_getElem? hx)
   obtain⟨n,hn⟩:=Int.eq_ofNat_of_zero_le (show 0≤x+1 by omega)
   rw[hn,Int.toNat_natCast] at htk
   have hl1:=Hlen.out i
   have hl2:=putL_len10 n (by omega)
   have e1:wrap64 (x+1)=(n:Int):=by rw[hn];unfold wrap64;omega
   have P1:=zZ (fun W=>vput_any n W (by omega))
   have Htk:=zZ htk
   have HB:=zZ hB
   have hil:(i:Int)<(K:Int):=by omega
   have hi0:(0:Int)≤(i:Int):=by omega
   clear htk hB x0 hx
   generalize rootsB (l.take i)=pre at *
   go_wp2_with fail
   refine (P1.out wr).mono ?_
   rintro r w3 ⟨v3,rfl,hv3,hB3⟩
   obtain⟨A3,c3,rfl,hc3,hr3,-⟩:=own_slice hv3
   have hown3:=own_below hown hB3
   have HB3:=zZ (HB.out.trans (hB3.mono HB.out.size))
   have hsz:=HB3.out.size
   clear P1 hown hv3 hB3
   go_wp2_with (first
    | (at_builtin;refine wpList_app rfl (.tmp 12) (.tmp 16) 29 rfl w.heap.size 5 i0 (.int .u8 0) 1 Tryz.underlying29 hi hz0 hz1 hz2 rfl _ pre.length (u8s pre) rfl hown3 A3 (vputL n).length c3 (u8s (vputL n)) rfl (by simp) hr3 (u8s_one _) (by simp only[maxLen];omega) (by omega) hsz ?_;intro v5 w5 hown5 hg5 _)
    | fail)
   go_roundw
   case rel=>
    refine⟨i+1,by omega,by go_num,?_,HB3.out.grown hg5 hsz (fun k hk=>(hown3.lt k hk).1)⟩
    rw[Htk.out,u8s_append,List.length_append]
    exact hown5
   case measure=>simp[intOf];omega
  ·have hiK:i=K:=by omega
   rw[List.take_of_length_le (by omega)] at hown
   clear hiK
   go_wp2
   go_ret
   exact⟨_,rfl,hown,hB⟩
theorem valsB_take {fs:List Fld} {vs:List Vl} {k:Nat} {f:Fld} {v:Vl} (hf:fs[k]?=some f) (hv:vs[k]?=some v):valsB (fs.take (k+1)) (vs.take (k+1))=valsB (fs.take k) (vs.take k)++putVF f.2.1 v:=by
 induction k generalizing fs vs with
 | zero=>
  match fs,vs,hf,hv with
  | a :: fs,b :: vs,hf,hv=>
   simp at hf hv
   subst hf hv
   simp[valsB]
 | succ k ih=>
  match fs,vs,hf,hv with
  | a :: fs,b :: vs,hf,hv=>
   simp only[List.take_succ_cons,valsB,List.append_assoc]
   rw[ih (by simpa using hf) (by simpa using hv)]
theorem objPart_any (A F:Option Addr) (N c ol fc:Nat) (g:Gr) (o:Ob) (w:World) (hm:mayG g=true) (ho:o∈g.2.1) (hs:rSch (All w) w [.slice A N c] g.1) (hv:rVals (All w) w [.slice F ol fc] o.2.2):
  Calls Tryz.prog 74 #[.agg #[.slice A N c],.agg #[.int .i64 o.1,.int .i64 o.2.1,.slice F ol fc]] w fun r w'=>∃ v,r=.returned v∧w'.ownsRow w.heap.size 5 1 v (objB g.1 o).length (u8s (objB g.1 o))∧Below w.heap.size w w':=by
 obtain⟨i0,hi,hz0,hz1,hz2⟩:=info_parts info_u8
 obtain⟨hN,-,-⟩:=sch_len hs
 obtain⟨hol,-,-⟩:=slice_len hv
 have hmo:=mayG_obj hm ho
 have hlen:=hmo.len
 have h5:=fldsG_few (mayG_parts hm).1 o.2.1
 obtain⟨t,ht⟩:=Int.eq_ofNat_of_zero_le hmo.t0
 have hS4:=((mayS_iff g.1).1 (mayG_parts hm).1).1
 have htN:t<N:=by have:=hmo.t1;omega
 have hgt:g.1[t]?=some g.1[t]:=zV (by omega)
 obtain⟨bt,offt,st,AF,cF,rfl,hbt,-,y1,-,-,hfs⟩:=typ_at hs hgt
 have hFe:=fldsG_at ht hgt
 rw[← hFe] at y1 hfs
 rw[hlen,hol] at y1 hfs
 have hok:=vals_ok hv
 have hpl:∀ k,(valsB ((fldsG g.1 o.2.1).take k) (o.2.2.take k)).length≤65:=fun k=>by
  have h1:=vals_len (fs:=(fldsG g.1 o.2.1).take k) (vs:=o.2.2.take k) (fun v hv=>hok v (List.mem_of_mem_take hv))
  rw[List.length_take] at h1
  omega
 have hob:objB g.1 o=vputL t++valsB (fldsG g.1 o.2.1) o.2.2:=by rw[objB,ht];rfl
 obtain⟨p1,p2⟩:=blk_two w 24 50 [.slice (some ⟨bt,offt,none⟩) N c] [.int .i64 o.1,.int .i64 o.2.1,.slice F ol fc]
 have hB0:Below w.heap.size w ((w.alloc (.cells #[.slice (some ⟨bt,offt,none⟩) N c] 24)).alloc (.cells #[.int .i64 o.1,.int .i64 o.2.1,.slice F ol fc] 50)):=((zA _ w).alloc (zW _) _).alloc (by simp) _
 have s0:((w.alloc (.cells #[.slice (some ⟨bt,offt,none⟩) N c] 24)).alloc (.cells #[.int .i64 o.1,.int .i64 o.2.1,.slice F ol fc] 50)).heap.size=w.heap.size+1+1:=by simp
 have T1:=zZ (fun W=>vput_any t W (by omega))
 have HY:=zZ (fun W (hW:Below w.heap.size w W)=>(hW.cell (p:=⟨bt,offt+t * 2+1,none⟩) hbt).trans y1)
 have HF:=zZ (fun W (hW:Below w.heap.size w W)=>flds_below hW hfs)
 have HV:=zZ (fun W (hW:Below w.heap.size w W)=>vals_below hW hv)
 have hlen2:(fldsG g.1 o.2.1).length=ol:=by rw[hlen,hol]
 have hol5:ol≤5:=by omega
 have Hol5:=zZ hol5
 rw[ht] at p1 p2 hB0 s0
 have P1:=zZ p1
 have eu:IntKind.u64.wrap (t:Int)=(t:Int):=by have:IntKind.u64.wrap (t:Int)=(t:Int) % 18446744073709551616:=rfl;omega
 have H0:=zZ hB0
 have P2:=zZ p2
 have S0:=zZ s0
 have Hob:=zZ hob
 have Hpl:=zZ hpl
 have Hl2:=zZ hlen2
 have hl10:=putL_len10 t (by omega)
 have htl:(t:Int)<(N:Int):=by omega
 have ht0:(0:Int)≤(t:Int):=by omega
 have a0:=p1.cell (j:=0) rfl
 have b1:=p2.cell (j:=1) rfl
 clear hs hv hmo hlen h5 hS4 hgt hFe y1 hfs hok hpl hob hB0 p1 p2 s0 hlen2 hm ho
 rw[ht]
 generalize fldsG g.1 o.2.1=fs at *
 generalize o.2.2=vs at *
 generalize o.1=id at *
 generalize objB g.1 o=ob at *
 clear ht
 go_enter Tryz.func74,Tryz.ntmps74
 go_wp2_with fail
 generalize (w.alloc (.cells #[.slice (some ⟨bt,offt,none⟩) N c] 24)).alloc (.cells #[.int .i64 id,.int .i64 (t:Int),.slice F ol fc] 50)=w1 at *
 refine (T1.out _).mono ?_
 rintro r w2 ⟨v2,rfl,hv2,hB2⟩
 have H2:=zZ (H0.out.trans (hB2.mono H0.out.size))
 have Q1:=zZ (P1.out.to hB2)
 have Q2:=zZ (P2.out.to hB2)
 rw[S0.out] at hv2
 have hs2:w.heap.size+1+1≤w2.heap.size:=by have:=hB2.size;have:=S0.out;omega
 have y1:=HY.out _ H2.out
 have a0:=Q1.out.cell (j:=0) rfl
 have b1:=Q2.out.cell (j:=1) rfl
 have Hv2:=zZ hv2
 clear T1 H0 P1 P2 S0 hB2 eu hv2
 go_wp2
 clear a0 b1 y1
 go_loopw [5,22] (fun v iv wr=>∃ k:Nat,k≤ol∧iv=.int .i64 (k:Int)∧wr.ownsRow (w.heap.size+1+1) 5 1 v (vputL t++valsB (fs.take k) (vs.take k)).length (u8s (vputL t++valsB (fs.take k) (vs.take k)))∧Below (w.heap.size+1+1) w2 wr) (fun _ iv _=>ol - (intOf iv).toNat)
 case atStart=>exact⟨0,by omega,rfl,by simpa [valsB] using Hv2.out,zA _ _⟩
 case round=>
  rename World=>wr
  obtain⟨k,hk',rfl,hown,hB⟩:=hrel
  have hsr:=hB.size
  have hBw:Below w.heap.size w wr:=H2.out.trans (hB.mono (by omega))
  by_cases hin:k<ol
  ·obtain⟨f,hf⟩:∃ f,fs[k]?=some f:=⟨_,zV (by have:=Hl2.out;omega)⟩
   obtain⟨v,hv⟩:∃ v,vs[k]?=some v:=⟨_,zV (by omega)⟩
   obtain⟨bf,offf,sa,sb,hA1,hbf,f0,f1,f2,hsa,hsb,-,-,-⟩:=fld_at (HF.out wr hBw) hf
   obtain⟨bv,offv,sv,hA2,hbv,v0,v1,v2',hsv,-,hvn,hvr⟩:=val_at (HV.out wr hBw) hv
   subst hA1 hA2
   have Htk:=zZ (valsB_take hf hv)
   have hl1:=Hpl.out k
   obtain⟨vn,vb,vr⟩:=v
   obtain⟨fa,fk,fb⟩:=f
   simp only at f1 v0 v2' hsv hvn hvr Htk
   subst hsv
   have hl2:=putVF_len (k:=fk) (v:=(vn,byt sv,vr)) ⟨hvn,byt_lt sv⟩
   have P1:=zZ (fun W=>vlput_any sa sb sv fk vn vr W hvn.1 hvn.2)
   have hB3:Below wr.heap.size wr (wr.alloc (.cells #[.string sa,.int .i64 fk,.string sb] 81)):=(zA _ wr).alloc (zW _) _
   have p3:=Blk.new wr 81 [.string sa,.int .i64 fk,.string sb]
   have hB4:Below (w.heap.size+1+1) w2 (wr.alloc (.cells #[.string sa,.int .i64 fk,.string sb] 81)):=hB.trans (hB3.mono (by omega))
   have hown3:=own_below hown hB3
   have q2:=(hB4.cell (p:=⟨w.heap.size+1,2,none⟩) (by show w.heap.size+1<_;omega)).trans (Q2.out.cell (j:=2) rfl)
   have HB4:=zZ hB4
   have HSF:=zZ (fun W (hW:Below (wr.alloc (.cells #[.string sa,.int .i64 fk,.string sb] 81)).heap.size (wr.alloc (.cells #[.string sa,.int .i64 fk,.string sb] 81)) W)=>And.intro ((hW.cell (p:=⟨wr.heap.size,0,none⟩) (by simp)).trans (p3.cell (j:=0) rfl)) (And.intro ((hW.cell (p:=⟨wr.heap.size,1,none⟩) (by simp)).trans (p3.cell (j:=1) rfl)) (And.intro ((hW.cell (p:=⟨wr.heap.size,2,none⟩) (by simp)).trans (p3.cell (j:=2) rfl))
    (And.intro ((hW.cell (p:=⟨w.heap.size+1,2,none⟩) (by simp;omega)).trans q2) (And.intro ((hW.cell (p:=⟨bv,offv+k * 3,none⟩) (by have:bv<wr.heap.size:=hbv;simp;omega)).trans ((hB3.cell (p:=⟨bv,offv+k * 3,none⟩) hbv).trans v0)) (And.intro ((hW.cell (p:=⟨bv,offv+k * 3+1,none⟩) (by have:bv<wr.heap.size:=hbv;simp;omega)).trans ((hB3.cell (p:=⟨bv,offv+k * 3+1,none⟩) hbv).trans v1)) ((hW.cell (p:=⟨bv,offv+k * 3+2,none⟩) (by have:bv<wr.heap.size:=hbv;simp;omega)).trans ((hB3.cell (p:=⟨bv,offv+k * 3+2,none⟩) hbv).trans v2'))))))))
   have hkl:(k:Int)<(ol:Int):=by omega
   have hk0:(0:Int)≤(k:Int):=by omega
   have Hin:=zZ hin
   clear hf hv v0 v1 v2' hB hBw hown hB3 p3 hB4 q2 hbv hsa hsb hvn hvr Hv2
   generalize valsB (fs.take k) (vs.take k)=pre at *
   go_wp2
   generalize wr.alloc (.cells #[.string sa,.int .i64 fk,.string sb] 81)=w3 at *
   refine sch_start [(0,true),(1,true),(2,true),(3,true),(4,true),(5,true),(6,false),(7,true),(8,true),(9,true),(10,true),(11,true)] (fun W=>Below w3.heap.size w3 W) (by kernel_rfl) rfl (by kernel_rfl) (fun _ _ _ _ _ h=>h) ((zA _ w3).drew) (fun hH=>?_)
   repeat (first | (refine sch_yes (v:=?_) rfl rfl ?_ hH ?_;rotate_left;(focus ((intro W hW;obtain⟨c0,c1,c2,c3,c4,c5,c6⟩:=HSF.out W hW;go_simp) <;> with_reducible rfl));simp only[Act.put,zY,zX,zQ]) | (refine sch_no rfl rfl hH ?_;simp only[Act.put,zY,zX,zQ]))
   refine sch_call rfl rfl (fun K' hK=>?_)
   go_wp2_with (go_at_call 106;refine (P1.out _).mono ?_;rintro e w4 ⟨v4,rfl,hv4,hB4⟩)
   have hD:=hH.trans (hB4.mono hH.size)
   obtain⟨A4,c4,rfl,hc4,hr4,-⟩:=own_slice hv4
   have hown4:=own_below hown3 (show Below w3.heap.size w3 w4 from hD)
   have HB5:=zZ (HB4.out.trans (hD.mono (by have:=HB4.out.size;omega)))
   have hs5:w.heap.size+1+1≤w4.heap.size:=by have:=HB5.out.size;omega
   refine hK.out _ _ hD ?_
   clear hK hH hB4 hv4 hown3 HB4 P1 HSF
   have hH:=hD
   clear hD
   repeat (first | (refine sch_yes (v:=?_) rfl rfl ?_ hH ?_;rotate_left;(focus ((intro W hW;go_simp) <;> with_reducible rfl));simp only[Act.put,zY,zX,zQ]) | (refine sch_no rfl rfl hH ?_;simp only[Act.put,zY,zX,zQ]))
   refine sch_done ?_
   generalize putVF fk (vn,byt sv,vr)=pv at *
   go_wp2_with (first
    | (at_builtin;refine wpList_app rfl (.tmp 37) (.tmp 38) 29 rfl (w.heap.size+1+1) 5 i0 (.int .u8 0) 1 Tryz.underlying29 hi hz0 hz1 hz2 rfl _ (vputL t++pre).length (u8s (vputL t++pre)) rfl hown4 A4 pv.length c4 (u8s pv) rfl (by simp) hr4 (u8s_one _) (by simp only[maxLen,List.length_append];omega) (by simp only[List.length_append];omega) hs5 ?_;intro v5 w5 hown5 hg5 _)
    | fail)
   go_roundw
   case rel=>
    refine⟨k+1,Hin.out,by have:=Hin.out;have:=Hol5.out;go_num,?_,HB5.out.grown hg5 hs5 (fun j hj=>(hown4.lt j hj).1)⟩
    rw[Htk.out,← List.append_assoc,u8s_append _ pv,List.length_append]
    exact hown5
   case measure=>have:=Hin.out;have:=Hol5.out;simp[intOf];omega
  ·have hko:k=ol:=by omega
   rw[List.take_of_length_le (by have:=Hl2.out;omega),List.take_of_length_le (by omega),← Hob.out] at hown
   clear hko
   go_wp2
   go_ret
   exact⟨_,rfl,own_mono hown (by omega),hBw⟩
end Go.Proofs.YtdlkmjfbmenedaaGreatDoor
