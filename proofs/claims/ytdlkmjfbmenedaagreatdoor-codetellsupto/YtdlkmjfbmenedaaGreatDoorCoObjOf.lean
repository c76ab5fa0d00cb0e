/- The contract of code's objOf: the object of bytes, or a panic. Conditions: few types and fields; at most 1048576 bytes. -/
import Derived.Test.YtdlkmjfbmenedaaGreatDoorCoErr
import Derived.Test.YtdlkmjfbmenedaaGreatDoorCoSum
import Derived.Test.YtdlkmjfbmenedaaGreatDoorGVari
import Derived.Test.YtdlkmjfbmenedaaGreatDoorGValue
import Derived.Test.YtdlkmjfbmenedaaGreatDoorGCanon
import Derived.Test.YtdlkmjfbmenedaaGreatDoorCoRow
import Derived.Test.YtdlkmjfbmenedaaGreatDoorAl
set_option maxRecDepth 100000
set_option maxHeartbeats 4000000
namespace Go.Proofs.YtdlkmjfbmenedaaGreatDoor
open Go.RowKit
theorem run_rest8 (A:Option Addr) (n c l:Nat) (hl:l≤n) (W:World):
  (Instr.slice 29 (.slice A n c) (some (.int .i64 (l:Int))) none none).run Tryz.prog W=.ok (.slice (slA A c l) (n - l) (c - l)) W:=by
 obtain⟨i0,hi,hz0,hz1,hz2⟩:=info_parts info_u8
 have h2:(0:Int)≤(l:Int)∧(l:Int)≤(n:Int):=by omega
 simp[Instr.slice,Instr.sliceBounds,Instr.sliceBound,asIntOf,run_underlying Tryz.underlying29,sizeOf,typeInfo,hi,hz1,hl,slA]
theorem fits_r {k:Int} {v:Vl} (h:fitsV k v=true):-1≤v.2.2∧v.2.2≤1073741824:=by
 rw[fitsV] at h
 repeat' split at h
 all_goals first | (simp only[decide_eq_true_eq] at h;omega) | cases h
theorem fits_s {k:Int} {v:Vl} (h:fitsV k v=true):v.2.1.length≤12:=by
 rw[fitsV] at h
 repeat' split at h
 all_goals first | (simp only[decide_eq_true_eq] at h;first | (rw[h.2.2.1];simp) | (rw[h.1];simp) | exact h.1 | (rw[h.2.2.2];simp)) | cases h
theorem valsL_drop {fs:List Fld} {k:Nat} {f:Fld} (hf:fs[k]?=some f) (rs:List Nat):valsL (fs.drop k) rs=(getV f.2.1 rs).bind fun p=>(valsL (fs.drop (k+1)) (rs.drop p.2)).map fun q=>(p.1 :: q.1,q.2):=by
 have:fs.drop k=f :: fs.drop (k+1):=by
  have hk:=(List.getElem?_eq_some_iff.1 hf)
  rw[List.drop_eq_getElem_cons hk.1,hk.2]
 rw[this,valsL]
theorem valsL_more {fs:List Fld} {k:Nat} {f:Fld} (hf:fs[k]?=some f) {b rs:List Nat} {vs:List Vl} {v:Vl} {m:Nat} (h:valsL fs b=(valsL (fs.drop k) rs).map fun q=>(vs++q.1,q.2)) (hg:getV f.2.1 rs=some (v,m)):
  valsL fs b=(valsL (fs.drop (k+1)) (rs.drop m)).map fun q=>((vs++[v])++q.1,q.2):=by
 rw[h,valsL_drop hf,hg]
 simp only[Option.bind_some,Option.map_map]
 congr 1
 funext q
 simp
theorem valsL_stop {fs:List Fld} {k:Nat} {f:Fld} (hf:fs[k]?=some f) {b rs:List Nat} {vs:List Vl} (h:valsL fs b=(valsL (fs.drop k) rs).map fun q=>(vs++q.1,q.2)) (hg:getV f.2.1 rs=none):valsL fs b=none:=by
 rw[h,valsL_drop hf,hg]
 rfl
theorem objQ_some {s:Sch} {id:Nat} {b:List Nat} {p:List Vl × List Nat} (h1:(getL b).2≠0) (h2:(getL b).1<s.length) (h:valsL (fldsG s ((getL b).1:Int)) (b.drop (getL b).2)=some p):objQ s id b=some ((id:Int),((getL b).1:Int),p.1):=by
 rw[objQ,if_neg (by omega),h]
 rfl
theorem objQ_none {s:Sch} {id:Nat} {b:List Nat} (h:valsL (fldsG s ((getL b).1:Int)) (b.drop (getL b).2)=none):objQ s id b=none:=by
 rw[objQ]
 split
 ·rfl
 ·rw[h];rfl
theorem objOf_any (A P:Option Addr) (N c pn pc:Nat) (s:Sch) (id:Nat) (bs:List Nat) (w:World) (hs:rSch (All w) w [.slice A N c] s) (hid:id≤1000) (hn:bs.length=pn) (hpc:pn≤pc) (hb:∀ x∈bs,x<256) (hr:Rd w P (u8s bs)) (hlen:pn≤1048576)
  (hfew:∀ t,(fldsG s t).length≤5) (hN4:N≤100):
  Calls Tryz.prog 86 #[.agg #[.slice A N c],.int .i64 (id:Int),.slice P pn pc] w fun r w'=>Below w.heap.size w w'∧((∃ o A1 n1 c1,objQ s id bs=some o∧r=.returned (.agg #[.int .i64 o.1,.int .i64 o.2.1,.slice A1 n1 c1])∧rOb (fun b=>w.heap.size≤b∧b<w'.heap.size) w' [.int .i64 o.1,.int .i64 o.2.1,.slice A1 n1 c1] o)∨(objQ s id bs=none∧r=Wrong 2)):=by
 obtain⟨k0,hk,hx0,hx1,hx2⟩:=info_parts info_vals
 obtain⟨hN,-,-⟩:=sch_len hs
 obtain⟨hg1,hg2,hg3⟩:=getL_le bs hb
 have hB0:Below w.heap.size w ((w.alloc (.cells #[.slice A N c] 24)).alloc (.cells #[.int .i64 0,.int .i64 0,.slice none 0 0] 50)):=((zA _ w).alloc (zW _) _).alloc (by simp) _
 obtain⟨p1,p2⟩:=blk_two w 24 50 [.slice A N c] [.int .i64 0,.int .i64 0,.slice none 0 0]
 have V1:=zZ (fun W (hW:Below w.heap.size w W)=>vget_any P pc bs W hb (hr.below hW) (by omega))
 rw[hn] at V1
 have H0:=zZ hB0
 have P1:=zZ p1
 have P2:=zZ p2
 have Hs:=zZ hs
 have Hr:=zZ hr
 have Hb:=zZ hb
 have a0:=p1.cell (j:=0) rfl
 have s0:((w.alloc (.cells #[.slice A N c] 24)).alloc (.cells #[.int .i64 0,.int .i64 0,.slice none 0 0] 50)).heap.size=w.heap.size+1+1:=by simp
 have S0:=zZ s0
 have HQ:=zZ (fun h2 h3 p h=>objQ_some (s:=s) (id:=id) (b:=bs) (p:=p) h2 h3 h)
 have HQ0:Hid ((getL bs).2=0∨N≤(getL bs).1→objQ s id bs=none):=zZ (fun h=>by rw[objQ,if_pos (by rw[hN];exact h)])
 have HQn:=zZ (fun h=>objQ_none (s:=s) (id:=id) (b:=bs) h)
 clear hs hr hB0 p1 p2 s0
 generalize hgt:(getL bs).1=t at *
 generalize hgm:(getL bs).2=m at *
 clear hgt hgm
 have eN:IntKind.u64.wrap (N:Int)=(N:Int):=by have:IntKind.u64.wrap (N:Int)=(N:Int) % 18446744073709551616:=rfl;omega
 by_cases hm0:m=0
 ·have HQ1:=zZ (HQ0.out (.inl hm0))
  subst hm0
  go_enter Tryz.func86,Tryz.ntmps86
  go_wp2_with fail
  refine (V1.out _ H0.out).mono ?_
  rintro r w1 ⟨rfl,hw⟩
  replace hw:=hw.symm
  subst hw
  go_wp2_with fail
  refine (must_no 2 _).mono ?_
  rintro r w1 ⟨rfl,hw⟩
  replace hw:=hw.symm
  subst hw
  unfold Wrong
  go_wp2_with fail
  exact⟨rfl,H0.out,.inr ⟨HQ1.out,rfl⟩⟩
 have hmp:(0:Int)<(m:Int):=by omega
 by_cases htN:t<N
 rotate_left
 ·have HQ1:=zZ (HQ0.out (.inr (by omega)))
  have hc2:decide (t<N)=false:=zK htN
  clear htN
  go_enter Tryz.func86,Tryz.ntmps86
  go_wp2_with fail
  refine (V1.out _ H0.out).mono ?_
  rintro r w1 ⟨rfl,hw⟩
  replace hw:=hw.symm
  subst hw
  go_wp2_with fail
  refine (must_no 2 _).mono ?_
  rintro r w1 ⟨rfl,hw⟩
  replace hw:=hw.symm
  subst hw
  unfold Wrong
  go_wp2_with fail
  exact⟨rfl,H0.out,.inr ⟨HQ1.out,rfl⟩⟩
 have hc2:(t:Int)<(N:Int):=by omega
 have hc4:decide (t<N)=true:=zJ htN
 have hc3:(0:Int)≤(t:Int):=by omega
 have hN100:(N:Int)≤100:=by omega
 have ht9:Hid ((Lit.int .i64 (t:Int)).wf=true):=zZ (WalkArith.wf_i64 ⟨Int.le_trans (by decide) hc3,Int.le_trans (Int.le_of_lt hc2) (Int.le_trans hN100 (by decide))⟩)
 have hgs:s[t]?=some s[t]:=zV (by omega)
 obtain⟨bt,offt,st,AF,cF,rfl,hbt,-,y1,-,-,hfs⟩:=typ_at Hs.out hgs
 have hFe:=fldsG_at (s:=s) (t:=(t:Int)) rfl hgs
 rw[← hFe] at y1 hfs
 have hfl5:=hfew (t:Int)
 obtain⟨fl,hfl⟩:∃ fl,fl=(fldsG s (t:Int)).length:=⟨_,rfl⟩
 rw[← hfl] at y1 hfs hfl5
 have HY:=zZ (fun W (hW:Below w.heap.size w W)=>(hW.cell (p:=⟨bt,offt+t * 2+1,none⟩) hbt).trans y1)
 have HF:=zZ (fun W (hW:Below w.heap.size w W)=>flds_below hW hfs)
 have HQ1:=zZ (fun p h=>HQ.out (by omega) (by omega) p h)
 have Hfl:=zZ hfl
 have hcut:=fun W=>run_rest8 P pn pc m (by omega) W
 have hrd:=Hr.out.cut (c:=pc) (by simp;omega) m
 rw[u8s_drop] at hrd
 have e1:wrap64 (t:Int)=(t:Int):=by unfold wrap64;omega
 have p1:=P1.out
 have p2:=P2.out
 have p3:=Blk.new ((w.alloc (.cells #[.slice (some ⟨bt,offt,none⟩) N c] 24)).alloc (.cells #[.int .i64 0,.int .i64 0,.slice none 0 0] 50)) 50 [.int .i64 (id:Int),.int .i64 (t:Int),.slice none 0 0]
 rw[S0.out] at p3
 have hB3:=H0.out.alloc (o:=.cells #[.int .i64 (id:Int),.int .i64 (t:Int),.slice none 0 0] 50) H0.out.size
 have s3:(((w.alloc (.cells #[.slice (some ⟨bt,offt,none⟩) N c] 24)).alloc (.cells #[.int .i64 0,.int .i64 0,.slice none 0 0] 50)).alloc (.cells #[.int .i64 (id:Int),.int .i64 (t:Int),.slice none 0 0] 50)).heap.size=w.heap.size+1+1+1:=by simp
 replace p1:=p1.alloc (.cells #[.int .i64 (id:Int),.int .i64 (t:Int),.slice none 0 0] 50)
 replace p2:=p2.alloc (.cells #[.int .i64 (id:Int),.int .i64 (t:Int),.slice none 0 0] 50)
 have b0:=p1.cell (j:=0) rfl
 have y3:=HY.out _ hB3
 have HB3:=zZ hB3
 have Q1:=zZ p1
 have Q2:=zZ p2
 have Q3:=zZ p3
 have S3:=zZ s3
 have HR1:=zZ hrd
 have Hb1:Hid (∀ x∈bs.drop m,x<256):=zZ (fun x hx=>Hb.out x (List.mem_of_mem_drop hx))
 have Hl1:Hid ((bs.drop m).length=pn - m):=zZ (by rw[List.length_drop,hn])
 have hpm:pn - m≤1048576:=by omega
 have hpmc:pn - m≤pc - m:=by omega
 have hid9:Hid ((Lit.int .i64 (id:Int)).wf=true):=zZ (WalkArith.wf_i64 ⟨by omega,by omega⟩)
 clear hB3 p1 p2 p3 s3 hrd y1 hfs hfl hgs hFe HQ HQ0 hb hfew
 generalize bs.drop m=r0 at *
 generalize fldsG s (t:Int)=fs at *
 go_enter Tryz.func86,Tryz.ntmps86
 go_wp2_with fail
 refine (V1.out _ H0.out).mono ?_
 rintro r w1 ⟨rfl,hw⟩
 replace hw:=hw.symm
 subst hw
 go_wp2_with fail
 refine (must_yes 2 _).mono ?_
 rintro r w1 ⟨rfl,hw⟩
 replace hw:=hw.symm
 subst hw
 have Hpm:=zZ (And.intro hpm hpmc)
 have Hfl5:=zZ hfl5
 clear eN hc4 hm0 htN hpc hn hlen hN4 hid hN hpm hpmc hN100 V1 P1 P2 H0 S0 Hs hfl5
 go_wp2
 generalize ((w.alloc (.cells #[.slice (some ⟨bt,offt,none⟩) N c] 24)).alloc (.cells #[.int .i64 0,.int .i64 0,.slice none 0 0] 50)).alloc (.cells #[.int .i64 (id:Int),.int .i64 (t:Int),.slice none 0 0] 50)=w1 at *
 clear a0 b0 y3 hcut hbt e1 hc2 hc3 hmp hg1 hg2 hg3
 go_loopw [10,46] (fun v10 iv wr=>∃ (k:Nat) (R:Option Addr) (rn rc:Nat) (rs:List Nat) (vF:Value) (ys:List Value) (vs:List Vl),k≤fl∧v10=.slice R rn rc∧iv=.int .i64 (k:Int)∧Hid (rs.length=rn∧rn≤rc∧rn≤1048576∧(∀ x∈rs,x<256)∧Rd w R (u8s rs)) ∧
  Hid (RowIn (w.heap.size+1+1) 2 50 47 3 [.int .i64 (id:Int),.int .i64 (t:Int),.slice none 0 0] w1 vF k ys wr)∧Hid (Chunks 3 (fun cs x=>∀ S W,rVal S W cs x) ys vs)∧Hid (vs.length=k)∧Hid (valsL fs r0=(valsL (fs.drop k) rs).map fun q=>(vs++q.1,q.2))) (fun _ iv _=>fl - (intOf iv).toNat)
 case atStart=>exact⟨0,_,_,_,r0,.slice none 0 0,[],[],by omega,rfl,rfl,zZ ⟨Hl1.out,Hpm.out.2,Hpm.out.1,Hb1.out,HR1.out⟩,zZ (RowIn.start Q3.out rfl),zZ Chunks.nil,zZ rfl,zZ (by simp)⟩
 case round=>
  rename World=>wr
  obtain⟨k,R,rn,rc,rs,vF,ys,vs,hk',rfl,rfl,hrs,hI,hch,hvl,hva⟩:=hrel
  have hs3:=S3.out
  have hsr:=hI.out.bel.size
  have hBw:Below w.heap.size w wr:=HB3.out.trans (hI.out.bel.mono (by omega))
  obtain⟨AF2,cF2,hvF⟩:=own_slice3 hI.out.own
  subst hvF
  by_cases hkn:k<fl
  ·obtain⟨f,hf⟩:∃ f,fs[k]?=some f:=⟨_,zV (by have:=Hfl.out;omega)⟩
   obtain⟨bf,offf,sa,sb,hA1,hbf,f0,f1,f2,-,-,-,-,-⟩:=fld_at (HF.out wr hBw) hf
   subst hA1
   have Hmore:=zZ (fun v m hg=>valsL_more (v:=v) (m:=m) hf hva.out hg)
   have Hstop:=zZ (fun hg=>valsL_stop hf hva.out hg)
   obtain⟨fa,fk,fb⟩:=f
   simp only at f1 Hmore Hstop
   have hBf:Below wr.heap.size wr (wr.alloc (.cells #[.string sa,.int .i64 fk,.string sb] 81)):=(zA _ wr).alloc (zW _) _
   have pf:=Blk.new wr 81 [.string sa,.int .i64 fk,.string sb]
   have g0:=pf.cell (j:=0) rfl
   have g1:=pf.cell (j:=1) rfl
   have g2:=pf.cell (j:=2) rfl
   have T1:=zZ (vlget_any sa sb fk R rn rc rs _ hrs.out.1 hrs.out.2.1 hrs.out.2.2.2.1 (hrs.out.2.2.2.2.below (hBw.trans (hBf.mono hBw.size))) (by have:=hrs.out.2.2.1;omega))
   have HBf:=zZ hBf
   have Hkn:=zZ hkn
   have HBw:=zZ hBw
   have hkl:(k:Int)<(fl:Int):=by omega
   have hk0:(0:Int)≤(k:Int):=by omega
   clear hf hbf hBf pf hBw hkn hs3
   go_wp2_with fail
   generalize wr.alloc (.cells #[.string sa,.int .i64 fk,.string sb] 81)=wf at *
   clear f0 f1 f2 g0 g1 g2
   refine T1.out.mono ?_
   rintro r wg ⟨sv,hsv,rfl,hBg⟩
   have HBg:=zZ (HBf.out.trans (hBg.mono HBf.out.size))
   clear T1 hBg
   cases hg:getV fk rs with
   | none=>
    have hn1:=HQn.out (Hstop.out hg)
    have HN:=zZ hn1
    have e1:gotB fk rs=false:=by rw[gotB,hg];rfl
    have HB9:=zZ (HBw.out.trans (HBg.out.mono HBw.out.size))
    have HB8:=zZ (HB9.out.alloc HB9.out.size (.cells #[.int .i64 (gotV fk rs).1,.string sv,.int .i64 (gotV fk rs).2.2] 47))
    clear hg hn1 hsv
    generalize gotM fk rs=gm at *
    generalize gotV fk rs=gv at *
    rw[e1]
    go_wp2_with fail
    refine (must_no 2 _).mono ?_
    rintro r wz ⟨rfl,hw⟩
    replace hw:=hw.symm
    subst hw
    unfold Wrong
    go_wp2_with fail
    exact⟨rfl,HB8.out,.inr ⟨HN.out,rfl⟩⟩
   | some p=>
    obtain⟨⟨vn,vb,vr⟩,mm⟩:=p
    have e1:gotB fk rs=true:=by rw[gotB,hg];rfl
    have e2:gotV fk rs=(vn,vb,vr):=by rw[gotV,hg];rfl
    have e3:gotM fk rs=mm:=by rw[gotM,hg];rfl
    obtain⟨hft,hmr,-,hov⟩:=vl_get_back hrs.out.2.2.2.1 hg
    have hva2:=Hmore.out _ _ hg
    have hr9:=fits_r hft
    have hs9:=fits_s hft
    rw[e2] at hsv
    simp only at hsv hr9 hs9
    rw[e1,e2,e3]
    have hvv:∀ S W,rVal S W [.int .i64 vn,.string sv,.int .i64 vr] (vn,vb,vr):=fun S W=>rVal_mk (v:=(vn,vb,vr)) hsv (by have:sv.size≤12:=(by rw[← byt_length,hsv];exact hs9);simp only[maxLen];omega) (WalkArith.wf_i64 hov.1) (WalkArith.wf_i64 ⟨by show _≤vr;omega,by show vr≤_;omega⟩)
    have Hvv:=zZ hvv
    have Hva2:=zZ hva2
    have Hmr:=zZ hmr
    clear hg hft hmr hov hva2 hr9 hs9 e1 e2 e3 hsv hvv Hmore Hstop
    dsimp only
    have hIv:=hI.out.more (by have:=S3.out;omega) (HBg.out.alloc (o:=.cells #[.int .i64 vn,.string sv,.int .i64 vr] 47) HBg.out.size)
    have pv:=Blk.new wg 47 [.int .i64 vn,.string sv,.int .i64 vr]
    have HBv:=zZ (HBg.out.alloc (o:=.cells #[.int .i64 vn,.string sv,.int .i64 vr] 47) HBg.out.size)
    have hsg:=HBg.out.size
    have Pv:=zZ pv
    have HIv:=zZ hIv
    have sv1:(wg.alloc (.cells #[.int .i64 vn,.string sv,.int .i64 vr] 47)).heap.size=wg.heap.size+1:=by simp
    have SV1:=zZ sv1
    have hcut:=fun W=>run_rest8 R rn rc mm (by have:=hrs.out.1;have:=Hmr.out;omega) W
    have hcut2:=fun W=>(show (Instr.sliceAt 29 (.slice R rn rc) (some (.int .i64 (mm:Int))) none none).run Tryz.prog W=.ok (.slice (slA R rc mm) (rn - mm) (rc - mm)) W from by simp[Instr.sliceAt,Sem.run_bind,Result.andThen,underlying,Tryz.underlying29,hcut W])
    clear pv hIv sv1
    go_wp2_with fail
    generalize wg.alloc (.cells #[.int .i64 vn,.string sv,.int .i64 vr] 47)=wv at *
    refine (must_yes 2 _).mono ?_
    rintro r wz ⟨rfl,hw⟩
    subst hw
    go_wp2_with fail
    have hdr:Below wv.heap.size wv wv.drew:=(zA _ wv).drew
    have HId:=zZ (HIv.out.more (by have:=S3.out;omega) ((zA _ wv).drew))
    have Pd:=zZ (Pv.out.to hdr)
    have hsd:wv.drew.heap.size=wv.heap.size:=by simp
    have HBd:=zZ (HBv.out.trans (hdr.mono HBv.out.size))
    clear hdr
    refine fr_start (fun W=>Blk W wg.heap.size 47 [.int .i64 vn,.string sv,.int .i64 vr]) 11 (by kernel_rfl) rfl (fun _ _ _ _ _ h=>h) Pd.out (fun hH=>?_)
    generalize wv.drew=wd at *
    (refine fr_yes 0 (v:=?_) rfl (by kernel_rfl) rfl ?_ hH ?_;rotate_left;(focus ((intro W hW;have u0:=hW.cell (j:=0) rfl;have u1:=hW.cell (j:=1) rfl;have u2:=hW.cell (j:=2) rfl;go_simp) <;> with_reducible rfl));simp only[Act.put,zY,zX,zQ]);(refine fr_yes 2 (v:=?_) rfl (by kernel_rfl) rfl ?_ hH ?_;rotate_left;(focus ((intro W hW;have u0:=hW.cell (j:=0) rfl;have u1:=hW.cell (j:=1) rfl;have u2:=hW.cell (j:=2) rfl;go_simp) <;> with_reducible rfl));simp only[Act.put,zY,zX,zQ]);(refine fr_yes 5 (v:=?_) rfl (by kernel_rfl) rfl ?_ hH ?_;rotate_left;(focus ((intro W hW;have u0:=hW.cell (j:=0) rfl;have u1:=hW.cell (j:=1) rfl;have u2:=hW.cell (j:=2) rfl;go_simp) <;> with_reducible rfl));simp only[Act.put,zY,zX,zQ]);(refine fr_yes 6 (v:=?_) rfl (by kernel_rfl) rfl ?_ hH ?_;rotate_left;(focus ((intro W hW;have u0:=hW.cell (j:=0) rfl;have u1:=hW.cell (j:=1) rfl;have u2:=hW.cell (j:=2) rfl;go_simp) <;> with_reducible rfl));simp only[Act.put,zY,zX,zQ]);(refine fr_yes 7 (v:=?_) rfl (by kernel_rfl) rfl ?_ hH ?_;rotate_left;(focus ((intro W hW;have u0:=hW.cell (j:=0) rfl;have u1:=hW.cell (j:=1) rfl;have u2:=hW.cell (j:=2) rfl;go_simp) <;> with_reducible rfl));simp only[Act.put,zY,zX,zQ])
    clear hcut hcut2
    have hgd:wg.heap.size<wd.heap.size:=by have:=SV1.out;omega
    clear hsd
    have t1:k+1≤maxLen:=by have:=Hkn.out;have:=Hfl5.out;simp only[maxLen];omega
    have t2:(k+1) * 32≤140737488355328:=by have:=Hkn.out;have:=Hfl5.out;omega
    have hown0:=HId.out.own
    have d2:=HId.out.bx.cell (j:=2) rfl
    have t3:w1.heap.size≤(wd.alloc (.cells #[.int .i64 vn,.string sv,.int .i64 vr] 47)).heap.size:=by simp only[World.size_alloc];omega
    have t4:=(Blk.new wd 47 [.int .i64 vn,.string sv,.int .i64 vr]).rd
    have t5:=hown0.alloc (.cells #[.int .i64 vn,.string sv,.int .i64 vr] 47)
    have d3:=(HId.out.bx.alloc (.cells #[.int .i64 vn,.string sv,.int .i64 vr] 47)).cell (j:=2) rfl
    have PA:=zZ (hH.alloc (.cells #[.int .i64 vn,.string sv,.int .i64 vr] 47))
    have hs3:=S3.out
    have hlo:∀ b,(Value.slice AF2 k cF2).ownBlock=some b→b<wr.heap.size:=fun b hb=>(hI.out.own.lt b hb).2
    refine fr_op [1,3] (by kernel_rfl) (by simp) ?_;intro jj hjj;simp only[List.mem_cons,List.not_mem_nil,or_false] at hjj;rcases hjj with rfl | rfl
    ·refine⟨_,rfl,rfl,fun K hK=>?_⟩
     go_wp2
     refine hK.out _ _ hH ?_
     clear hK
     refine fr_op [3] (by kernel_rfl) (by simp) ?_;intro jj hjj;simp only[List.mem_cons,List.not_mem_nil,or_false] at hjj;subst hjj;refine⟨_,rfl,rfl,fun K hK=>?_⟩
     go_wp2
     refine hK.out _ _ PA.out ?_
     clear hK hH d2 d3
     have hH:=PA.out
     refine fr_op [4] (by kernel_rfl) (by simp) ?_;intro jj hjj;simp only[List.mem_cons,List.not_mem_nil,or_false] at hjj;subst hjj;refine⟨_,rfl,rfl,fun K hK=>?_⟩
     refine wp_apps (.tmp 60) (.tmp 62) 48 rfl w1.heap.size 47 k0 (.agg #[.int .i64 0,.string ⟨#[]⟩,.int .i64 0]) 3 32 Tryz.underlying48 hk hx0 hx1 hx2 rfl (by omega) (.slice AF2 k cF2) k ys rfl t5 (some ⟨wd.heap.size,0,none⟩) 1 1 [.int .i64 vn,.string sv,.int .i64 vr] rfl rfl t4 (by simp[Value.oneCell']) t1 t2 t3 ?_
     intro v4 w4 hown4 hg4 hv4
     have PB:=zZ (show Blk w4 wg.heap.size 47 [.int .i64 vn,.string sv,.int .i64 vr] from (hg4.block wg.heap.size (by simp only[World.size_alloc];omega) (fun e=>by have:=hlo _ e.symm;omega)).trans PA.out)
     obtain⟨bx4,hR4⟩:=hI.out.step (by omega) HBd.out hg4 hown4
     obtain⟨A4,c4,rfl⟩:=own_slice3 hown4
     have e4:=bx4.cell (j:=2) rfl
     have f4:=bx4.frozen 2
     have HR4:=zZ hR4
     have PC:=zZ (PB.out.other ⟨w.heap.size+1+1,2,none⟩ (.slice A4 (k+1) c4) (by show wg.heap.size≠w.heap.size+1+1;omega))
     refine hK.out _ _ PB.out ?_
     clear hK hR4 hown4 hg4 hv4 bx4 hH
     have hH:=PB.out
     (refine fr_yes 8 (v:=?_) rfl (by kernel_rfl) rfl ?_ hH ?_;rotate_left;(focus ((intro W hW;go_simp) <;> with_reducible rfl));simp only[Act.put,zY,zX,zQ])
     refine fr_op [9] (by kernel_rfl) (by simp) ?_;intro jj hjj;simp only[List.mem_cons,List.not_mem_nil,or_false] at hjj;subst hjj;refine⟨_,rfl,rfl,fun K hK=>?_⟩
     go_wp2
     refine hK.out _ _ PC.out ?_
     clear hK hH
     have hH:=PC.out
     (refine fr_yes 10 (v:=?_) rfl (by kernel_rfl) rfl ?_ hH ?_;rotate_left;(focus ((intro W hW;go_simp) <;> with_reducible rfl));simp only[Act.put,zY,zX,zQ])
     refine fr_done (by kernel_rfl) ?_
     go_wp2
     go_roundw
     case rel=>
      refine⟨k+1,_,_,_,rs.drop mm,_,_,vs++[(vn,vb,vr)],Hkn.out,rfl,by have:=Hkn.out;have:=Hfl5.out;go_num,zZ ⟨by rw[List.length_drop,hrs.out.1],by have:=hrs.out.2.1;omega,by have:=hrs.out.2.2.1;omega,fun x hx=>hrs.out.2.2.2.1 x (List.mem_of_mem_drop hx),?_⟩,HR4,zZ (hch.out.append (Chunks.one rfl Hvv.out)),zZ (by rw[List.length_append,hvl.out];rfl),Hva2⟩
      have:=hrs.out.2.2.2.2.cut (c:=rc) (by rw[u8s_length,hrs.out.1];exact hrs.out.2.1) mm
      rwa [u8s_drop] at this
     case measure=>have:=Hkn.out;have:=Hfl5.out;simp[intOf];omega
    ·refine⟨_,rfl,rfl,fun K hK=>?_⟩
     go_wp2
     refine hK.out _ _ PA.out ?_
     clear hK hH
     have hH:=PA.out
     refine fr_op [1] (by kernel_rfl) (by simp) ?_;intro jj hjj;simp only[List.mem_cons,List.not_mem_nil,or_false] at hjj;subst hjj;refine⟨_,rfl,rfl,fun K hK=>?_⟩
     go_wp2
     refine hK.out _ _ hH ?_
     clear hK d2 d3
     refine fr_op [4] (by kernel_rfl) (by simp) ?_;intro jj hjj;simp only[List.mem_cons,List.not_mem_nil,or_false] at hjj;subst hjj;refine⟨_,rfl,rfl,fun K hK=>?_⟩
     refine wp_apps (.tmp 60) (.tmp 62) 48 rfl w1.heap.size 47 k0 (.agg #[.int .i64 0,.string ⟨#[]⟩,.int .i64 0]) 3 32 Tryz.underlying48 hk hx0 hx1 hx2 rfl (by omega) (.slice AF2 k cF2) k ys rfl t5 (some ⟨wd.heap.size,0,none⟩) 1 1 [.int .i64 vn,.string sv,.int .i64 vr] rfl rfl t4 (by simp[Value.oneCell']) t1 t2 t3 ?_
     intro v4 w4 hown4 hg4 hv4
     have PB:=zZ (show Blk w4 wg.heap.size 47 [.int .i64 vn,.string sv,.int .i64 vr] from (hg4.block wg.heap.size (by simp only[World.size_alloc];omega) (fun e=>by have:=hlo _ e.symm;omega)).trans PA.out)
     obtain⟨bx4,hR4⟩:=hI.out.step (by omega) HBd.out hg4 hown4
     obtain⟨A4,c4,rfl⟩:=own_slice3 hown4
     have e4:=bx4.cell (j:=2) rfl
     have f4:=bx4.frozen 2
     have HR4:=zZ hR4
     have PC:=zZ (PB.out.other ⟨w.heap.size+1+1,2,none⟩ (.slice A4 (k+1) c4) (by show wg.heap.size≠w.heap.size+1+1;omega))
     refine hK.out _ _ PB.out ?_
     clear hK hR4 hown4 hg4 hv4 bx4 hH
     have hH:=PB.out
     (refine fr_yes 8 (v:=?_) rfl (by kernel_rfl) rfl ?_ hH ?_;rotate_left;(focus ((intro W hW;go_simp) <;> with_reducible rfl));simp only[Act.put,zY,zX,zQ])
     refine fr_op [9] (by kernel_rfl) (by simp) ?_;intro jj hjj;simp only[List.mem_cons,List.not_mem_nil,or_false] at hjj;subst hjj;refine⟨_,rfl,rfl,fun K hK=>?_⟩
     go_wp2
     refine hK.out _ _ PC.out ?_
     clear hK hH
     have hH:=PC.out
     (refine fr_yes 10 (v:=?_) rfl (by kernel_rfl) rfl ?_ hH ?_;rotate_left;(focus ((intro W hW;go_simp) <;> with_reducible rfl));simp only[Act.put,zY,zX,zQ])
     refine fr_done (by kernel_rfl) ?_
     go_wp2
     go_roundw
     case rel=>
      refine⟨k+1,_,_,_,rs.drop mm,_,_,vs++[(vn,vb,vr)],Hkn.out,rfl,by have:=Hkn.out;have:=Hfl5.out;go_num,zZ ⟨by rw[List.length_drop,hrs.out.1],by have:=hrs.out.2.1;omega,by have:=hrs.out.2.2.1;omega,fun x hx=>hrs.out.2.2.2.1 x (List.mem_of_mem_drop hx),?_⟩,HR4,zZ (hch.out.append (Chunks.one rfl Hvv.out)),zZ (by rw[List.length_append,hvl.out];rfl),Hva2⟩
      have:=hrs.out.2.2.2.2.cut (c:=rc) (by rw[u8s_length,hrs.out.1];exact hrs.out.2.1) mm
      rwa [u8s_drop] at this
     case measure=>have:=Hkn.out;have:=Hfl5.out;simp[intOf];omega
  ·have hko:k=fl:=by omega
   subst hko
   have hva9:=hva.out
   rw[List.drop_of_length_le (by have:=Hfl.out;omega),valsL] at hva9
   simp only[Option.map_some,List.append_nil] at hva9
   have hq:=HQ1.out _ hva9
   have Hq:=zZ hq
   have c0:=hI.out.bx.cell (j:=0) rfl
   have c1:=hI.out.bx.cell (j:=1) rfl
   have c2:=hI.out.bx.cell (j:=2) rfl
   have q2:Blk wr (w.heap.size+1) 50 [.int .i64 0,.int .i64 0,.slice none 0 0]:=(hI.out.bel.block (w.heap.size+1) (by omega)).trans Q2.out
   have e0:=q2.cell (j:=0) rfl
   have e1:=q2.cell (j:=1) rfl
   have e2:=q2.cell (j:=2) rfl
   have z0:=q2.frozen 0
   have z1:=q2.frozen 1
   have z2:=q2.frozen 2
   have hv9:=own_vals hI.out.own hvl.out hch.out
   have Hv9:=zZ hv9
   have HBw:=zZ hBw
   have hs3:=S3.out
   have Hs9:Hid (w.heap.size+1+1+1≤wr.heap.size):=zZ (by omega)
   clear hva9 hq hv9 hBw hsr hs3 hk' hkn
   have hil:¬ ((k:Int)<(k:Int)):=by omega
   go_wp2
   have P9:=((q2.set 0 (.int .i64 (id:Int))).set 1 (.int .i64 (t:Int))).set 2 (.slice AF2 k cF2)
   refine ret_cell0 (d:=.struct _) (cs:=[.int .i64 (id:Int),.int .i64 (t:Int),.slice AF2 k cF2]) rfl P9 rfl rfl rfl rfl rfl ?_
   refine⟨((HBw.out.setCell (p:=⟨w.heap.size+1,0,none⟩) (by simp) _).setCell (p:=⟨w.heap.size+1,1,none⟩) (by simp) _).setCell (p:=⟨w.heap.size+1,2,none⟩) (by simp) _,.inl ⟨(id:Int),(t:Int),vs,Hq.out,AF2,k,cF2,rfl,?_⟩⟩
   refine rOb_mk (o:=((id:Int),(t:Int),vs)) hid9.out ht9.out (rVals_stays.to (fun b hb=>⟨⟨?_,?_⟩,?_⟩) Hv9.out)
   ·have:=(hI.out.own.lt b hb).1;have:=S3.out;omega
   ·have:=(hI.out.own.lt b hb).2;simpa using this
   ·have hne:b≠w.heap.size+1:=by have:=(hI.out.own.lt b hb).1;have:=S3.out;omega
    rw[Below.heap_setCell _ _ _ _ hne,Below.heap_setCell _ _ _ _ hne,Below.heap_setCell _ _ _ _ hne]
end Go.Proofs.YtdlkmjfbmenedaaGreatDoor
