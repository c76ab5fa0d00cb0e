/- The texts CoRef1, CoRef2, CoRef3, CoRef4, CoRef5, CoRef6, CoRef7, CoRef8 in one (as far as the seat has what they speak of); what each proves, and its conditions, stands before it. -/
import Derived.Test.YtnljjnkindjeoaaGreatDoorGCode
import Derived.Test.YtnljjnkindjeoaaGreatDoorGVlRef
import Derived.Test.YtnljjnkindjeoaaGreatDoorGScRef
import Derived.Test.YtnljjnkindjeoaaGreatDoorCoSum
import Derived.Test.YtnljjnkindjeoaaGreatDoorGFlRef
import Derived.Test.YtnljjnkindjeoaaGreatDoorGRef
import Derived.Test.YtnljjnkindjeoaaGreatDoorGCrc
import Derived.Test.YtnljjnkindjeoaaGreatDoorGBytes
import Derived.Test.YtnljjnkindjeoaaGreatDoorAl
set_option maxRecDepth 100000
set_option maxHeartbeats 4000000
namespace Go.Proofs.YtnljjnkindjeoaaGreatDoor
open Go.RowKit
theorem rtextb_any (s:ByteArray) (w:World) (hs:s.size≤1000000):
  Calls Tryz.prog 108 #[.string s] w fun r w'=>∃ v,r=.returned v∧w'.ownsRow w.heap.size 5 1 v (byt s).length (u8s (byt s))∧Below w.heap.size w w':=by
 obtain⟨i0,hi,hz0,hz1,hz2⟩:=info_parts info_u8
 go_enter Tryz.func108,Tryz.ntmps108
 go_wp2
 go_loopw [3,4] (fun v iv wr=>∃ (i:Nat) (pre:List Nat),i≤s.size∧iv=.int .i64 (i:Int)∧pre=(byt s).take i∧wr.ownsRow w.heap.size 5 1 v pre.length (u8s pre)∧Below w.heap.size w wr) (fun _ iv _=>s.size - (intOf iv).toNat)
 case atStart=>exact⟨0,[],by omega,rfl,by simp,World.ownsRow_nil _ _ _ _,zA _ _⟩
 case round=>
  rename World=>wr
  obtain⟨i,pre,hi1,rfl,hpre,hown,hBr⟩:=hrel
  have hsz:=hBr.size
  have hprel:pre.length≤1000000:=by rw[hpre,List.length_take,byt_length];omega
  have Hpre:=zZ hpre
  clear hpre
  by_cases hin:i<s.size
  ·have hd:decide ((i:Int)<(s.size:Int))=true:=zJ (by omega)
   have Hnext:=zZ (byt_take_succ s i hin)
   go_wp2_with (at_builtin;refine wpList_append_own _ rfl _ _ 98 rfl w.heap.size 5 i0 (.int .u8 0) 1 1 Tryz.underlying98 hi hz0 hz1 hz2 rfl (by decide) _ _ _ rfl (hown.alloc _) ⟨wr.heap.size,0,none⟩ 1 1 [.int .u8 (((s[i]'hin).toNat:Nat):Int)] rfl rfl (cell_one_new _ _ _) (by simp[Value.oneCell']) (by simp only[maxLen];omega) (by omega) (by simp;omega) ?_;intro v' w4 hown' hgrow _)
   have R:=own_step hBr hown hsz hown' hgrow
   refine⟨⟨i+1,pre++[(s[i]'hin).toNat],by omega,by go_num,by rw[Hpre.out,Hnext.out],R.1,R.2⟩,?_⟩
   simp[intOf];omega
  ·have hd:decide ((i:Int)<(s.size:Int))=false:=zK (by omega)
   go_wp2
   go_ret
   have he:pre=byt s:=by rw[Hpre.out,List.take_of_length_le (by rw[byt_length];omega)]
   rw[he] at hown
   exact⟨_,rfl,hown,hBr⟩
theorem rroots_any (C:Option Addr) (K e:Nat) (l:List Int) (w:World) (h:rIds (All w) w [.slice C K e] l) (hb:∀ r∈l,-1≤r∧r≤1073741824) (hK3:K≤100):
  Calls Tryz.prog 110 #[.slice C K e] w fun r w'=>∃ v,r=.returned v∧w'.ownsRow w.heap.size 5 1 v (rootsB l).length (u8s (rootsB l))∧Below w.heap.size w w':=by
 obtain⟨hK,-,-⟩:=slice_len h
 obtain⟨i0,hi,hz0,hz1,hz2⟩:=info_parts info_u8
 have hlen:∀ i,(rootsB (l.take i)).length≤5 * K:=fun i=>by
  have:=catV_len5 (l:=(l.take i).map fun r=>(r+1).toNat) (fun n hn=>by
   obtain⟨r,hr,rfl⟩:=List.mem_map.1 hn
   have:=hb r (List.mem_of_mem_take hr)
   omega)
  rw[List.length_map,List.length_take] at this
  rw[rootsB]
  omega
 have Hh:=zZ h
 have Hb:=zZ hb
 have Hlen:=zZ hlen
 clear h hb hlen
 go_enter Tryz.func110,Tryz.ntmps110
 go_wp2
 go_loopw [3,4] (fun v iv wr=>∃ i:Nat,i≤K∧iv=.int .i64 (i:Int)∧wr.ownsRow w.heap.size 5 1 v (rootsB (l.take i)).length (u8s (rootsB (l.take i)))∧Below w.heap.size w wr) (fun _ iv _=>K - (intOf iv).toNat)
 case atStart=>exact⟨0,by omega,rfl,World.ownsRow_nil _ _ _ _,zA _ _⟩
 case round=>
  rename World=>wr
  obtain⟨i,hi',rfl,hown,hB⟩:=hrel
  by_cases hin:i<K
  ·obtain⟨x,hx⟩:∃ x,l[i]?=some x:=⟨_,zV (by omega)⟩
   obtain⟨b,off,rfl,hbb,x0,hxb⟩:=id_at Hh.out hx
   have x0':=(hB.cell (p:=⟨b,off+i,none⟩) hbb).trans x0
   have htk:=rootsB_take hx
   have hxr:=Hb.out x (List.mem_of_getElem? hx)
   obtain⟨n,hn⟩:=Int.eq_ofNat_of_zero_le (show 0≤x+1 by omega)
   rw[hn,Int.toNat_natCast] at htk
   have hl1:=Hlen.out i
   have hl2:=putL_len10 n (by omega)
   have e1:wrap64 (x+1)=(n:Int):=by rw[hn];unfold wrap64;omega
   have P1:=zZ (fun W=>vrput_any n W (by omega))
   have Htk:=zZ htk
   have HB:=zZ hB
   have hil:(i:Int)<(K:Int):=by omega
   have hi0:(0:Int)≤(i:Int):=by omega
   clear htk hB x0 hx
   generalize rootsB (l.take i)=pre at *
   go_wp2_with fail
   refine (P1.out wr).mono ?_
   rintro r w3 ⟨v3,rfl,hv3,hB3⟩
   obtain⟨A3,c3,rfl,hc3,hr3,-⟩:=own_slice hv3
   have hown3:=own_below hown hB3
   have HB3:=zZ (HB.out.trans (hB3.mono HB.out.size))
   have hsz:=HB3.out.size
   clear P1 hown hv3 hB3
   go_wp2_with (first
    | (at_builtin;refine wpList_app rfl (.tmp 11) (.tmp 18) 98 rfl w.heap.size 5 i0 (.int .u8 0) 1 Tryz.underlying98 hi hz0 hz1 hz2 rfl _ pre.length (u8s pre) rfl hown3 A3 (vputL n).length c3 (u8s (vputL n)) rfl (by simp) hr3 (u8s_one _) (by simp only[maxLen];omega) (by omega) hsz ?_;intro v5 w5 hown5 hg5 _)
    | fail)
   go_roundw
   case rel=>
    refine⟨i+1,by omega,by go_num,?_,HB3.out.grown hg5 hsz (fun k hk=>(hown3.lt k hk).1)⟩
    rw[Htk.out,u8s_append,List.length_append]
    exact hown5
   case measure=>simp[intOf];omega
  ·have hiK:i=K:=by omega
   rw[List.take_of_length_le (by omega)] at hown
   clear hiK
   go_wp2
   go_ret
   exact⟨_,rfl,hown,hB⟩
theorem fsText_len:∀ {fs:List Fld},(∀ f∈fs,smallF f)→(fsText fs).length≤37 * fs.length
 | [],_=>by simp[fsText]
 | [f],h=>by
  obtain⟨-,h1,h2⟩:=h f (by simp)
  have:=kindT_len f.2.1
  simp only[fsText,fText,List.length_append,List.length_cons,List.length_nil]
  omega
 | f :: f' :: fs,h=>by
  obtain⟨-,h1,h2⟩:=h f (by simp)
  have:=kindT_len f.2.1
  have ih:=fsText_len (fs:=f' :: fs) (fun f hf=>h f (by simp only[List.mem_cons] at hf ⊢;exact .inr hf))
  rw[fsText]
  simp only[fText,List.length_append,List.length_cons] at ih ⊢
  omega
theorem sText_len:∀ {s:Sch},(∀ t∈s,smallT t)→(sText s).length≤203 * s.length
 | [],_=>by simp[sText]
 | t :: s,h=>by
  obtain⟨h1,h2,h3⟩:=h t (by simp)
  have hf:=fsText_len h3
  have ih:=sText_len (s:=s) (fun t ht=>h t (by simp[ht]))
  simp only[sText,tText,List.length_append,List.length_cons,List.length_nil]
  omega
theorem rparts_any (A B C:Option Addr) (N c M d K e:Nat) (g:Gr) (w:World) (hm:mayG g=true) (htame:tameS g.1) (h:rGr (All w) w [.slice A N c,.slice B M d,.slice C K e] g):
  Calls Tryz.prog 64 #[.agg #[.slice A N c,.slice B M d,.slice C K e]] w fun r w'=>∃ A n c,r=.returned (.slice A n c)∧rPts (All w') w' [.slice A n c] (partsG g)∧Below w.heap.size w w':=by
 obtain⟨hN,-,-⟩:=slice_len (rGr_open h).1
 obtain⟨hM,-,-⟩:=slice_len (rGr_open h).2.1
 obtain⟨hK,-,-⟩:=slice_len (rGr_open h).2.2
 subst hN hM hK
 obtain⟨xs,xo,xr⟩:=g
 simp only at h htame ⊢
 obtain⟨i0,hi,hz0,hz1,hz2⟩:=info_parts info_pt1
 obtain⟨j0,hj,hy0,hy1,hy2⟩:=info_parts info_u8
 have hok:=gr_ok h
 have hM8:=(mayG_parts hm).2.1
 have hK3:=(mayG_parts hm).2.2.2.1
 have hS4:=((mayS_iff xs).1 (mayG_parts hm).1).1
 have Htx:=zZ (show textS xs=sText xs from if_pos (mayG_parts hm).1)
 have Htl:=zZ (show (sText xs).length≤1000000 by
  have h1:mayS xs=true:=(mayG_parts hm).1
  have h2:=mayS_small h1
  have h3:=sText_len h2.2
  have h4:=h2.1
  omega)
 have Hrr:=zZ (root_range hm)
 have HPl:=zZ (show (partsG (xs,xo,xr)).length=xo.length+2 by rw[partsG,List.length_cons,List.length_cons,List.length_map])
 have HPb:=zZ (parts_byte hm hok)
 have Hmo:=zZ (fun o (ho:o∈xo)=>mayG_obj hm ho)
 have H5:=zZ (fun t=>fldsG_few (mayG_parts hm).1 t)
 have hB0:Below w.heap.size w (w.alloc (.cells #[.slice A xs.length c,.slice B xo.length d,.slice C xr.length e] 28)):=(zA _ w).alloc (zW _) _
 have p0:=Blk.new w 28 [.slice A xs.length c,.slice B xo.length d,.slice C xr.length e]
 have hg0:=gr_below hB0 h
 have Hgs:=zZ (rGr_open hg0).1
 have Hgo:=zZ (rGr_open hg0).2.1
 have Hgr:=zZ (rGr_open hg0).2.2
 have H0:=zZ hB0
 have P0:=zZ p0
 have hs0:(w.alloc (.cells #[.slice A xs.length c,.slice B xo.length d,.slice C xr.length e] 28)).heap.size=w.heap.size+1:=by simp
 have HS0:=zZ hs0
 have Htame:=zZ htame
 clear h hg0 hB0 p0 hs0 hok hm htame
 go_enter Tryz.func64,Tryz.ntmps64
 go_wp2_with fail
 generalize w.alloc (.cells #[.slice A xs.length c,.slice B xo.length d,.slice C xr.length e] 28)=w4 at *
 go_cut [3] (fun v3 wx=>∃ (gL:Nat) (ys:List Value),v3=.slice (some ⟨gL,0,none⟩) 2 2∧wx.ownsRow w4.heap.size 98 1 (.slice (some ⟨gL,0,none⟩) 2 2) 2 ys∧Hid (Chunks 1 (rBytes (fun k=>k<wx.heap.size∧some k≠(Value.slice (some ⟨gL,0,none⟩) 2 2).ownBlock) wx) ys [sText xs,rootsB xr])∧Hid (Below w4.heap.size w4 wx))
 case first=>
  have HSF:=zZ (fun W (hW:Below w4.heap.size w4 W)=>And.intro ((P0.out.to hW).cell (j:=0) rfl) ((P0.out.to hW).cell (j:=2) rfl))
  refine sch_start [(0,true),(1,true),(4,true),(5,true),(2,false),(3,false),(6,false),(7,false),(8,true)] (fun W=>Below w4.heap.size w4 W) (by kernel_rfl) rfl (by kernel_rfl) (fun _ _ _ _ _ h=>h) ((zA _ w4).drew) (fun hH=>?_)
  repeat (first | (refine sch_yes (v:=?_) rfl rfl ?_ hH ?_;rotate_left;(focus ((intro W hW;obtain⟨u0,u1⟩:=HSF.out W hW;go_simp) <;> with_reducible rfl));simp only[Act.put,zY,zX,zQ]) | (refine sch_no rfl rfl hH ?_;simp only[Act.put,zY,zX,zQ]))
  refine sch_call rfl rfl (fun K' hK=>?_)
  go_wp2_with (go_at_call 109;refine (rtext_any A xs.length c xs _ (sch_below hH Hgs.out) Htame.out).mono ?_;rintro e w5 ⟨tx,rfl,htx,hB5⟩)
  have hD5:=hH.trans (hB5.mono hH.size)
  rw[Htx.out] at htx
  have htz:tx.size≤1000000:=by rw[← byt_length,htx];exact Htl.out
  refine hK.out _ _ hD5 ?_
  clear hK hH hB5
  have hH:=hD5
  refine sch_call rfl rfl (fun K' hK=>?_)
  go_wp2_with (go_at_call 108;refine (rtextb_any tx _ htz).mono ?_;rintro e w6 ⟨v6,rfl,hv6,hB6⟩)
  obtain⟨A6,c6,rfl,hr6⟩:=bytes_own hv6 (byt_lt tx)
  rw[htx] at hr6
  have hD6:=hD5.trans (hB6.mono hD5.size)
  have hs5:=hD5.size
  refine hK.out _ _ hD6 ?_
  clear hK hH hv6 hB6
  refine sch_call rfl rfl (fun K' hK=>?_)
  go_wp2_with (go_at_call 110;refine (rroots_any C xr.length e xr _ (ids_below hD6 Hgr.out) Hrr.out (by omega)).mono ?_;rintro e w7 ⟨v7,rfl,hv7,hB7⟩)
  obtain⟨A7,c7,rfl,hr7⟩:=bytes_own hv7 (catV_byte _)
  have hD7:=hD6.trans (hB7.mono hD6.size)
  have hs6:=hD6.size
  have hr6':rBytes (fun k=>w4.heap.size≤k∧k<w7.heap.size) w7 _ (sText xs):=rBytes_stays.to (fun k hk=>⟨⟨by omega,by have:=hB7.size;omega⟩,hB7.block k hk.2⟩) hr6
  have hr7':rBytes (fun k=>w4.heap.size≤k∧k<w7.heap.size) w7 _ (rootsB xr):=rBytes_stays.to (Keeps.mono fun k hk=>⟨by omega,hk.2⟩) hr7
  refine hK.out _ _ hD7 ?_
  clear hK hr6 hr7 hv7 hB7
  refine sch_call rfl rfl (fun K' hK=>?_)
  go_wp2
  obtain⟨hoL,hcL,hD8⟩:=lit_two hD7 hr6' hr7'
  refine hK.out _ _ hD8 ?_
  clear hK
  have HcL:=zZ hcL
  have HD8:=zZ hD8
  clear hcL hr6' hr7' HSF
  have hH:=HD8.out
  repeat (first | (refine sch_yes (v:=?_) rfl rfl ?_ hH ?_;rotate_left;(focus ((intro W hW;go_simp) <;> with_reducible rfl));simp only[Act.put,zY,zX,zQ]) | (refine sch_no rfl rfl hH ?_;simp only[Act.put,zY,zX,zQ]))
  refine sch_done ?_
  go_wp2
  go_meet
  case rel=>exact⟨_,_,rfl,hoL,HcL,HD8⟩
 case rest=>
  rename World=>wx
  obtain⟨gL,ys,rfl,hoL,HcL,HDx⟩:=hcut
  have HoL:=zZ hoL
  clear hoL Htx Htl Hrr Hgr Htame
  generalize hMo:xo.length=M1 at *
  go_wp2
  go_loopw [3,4] (fun v iv wr=>∃ (i:Nat) (zs:List Value),i≤M1∧iv=.int .i64 (i:Int)∧Hid (wr.ownsRow w4.heap.size 98 1 v (i+2) zs)∧Hid (Chunks 1 (rBytes (fun k=>k<wr.heap.size∧some k≠v.ownBlock) wr) zs ((partsG (xs,xo,xr)).take (i+2)))∧Hid (Below w4.heap.size w4 wr)) (fun _ iv _=>M1 - (intOf iv).toNat)
  case atStart=>exact⟨0,ys,by omega,rfl,HoL,HcL,HDx⟩
  case round=>
   rename World=>wr
   obtain⟨i,zs,hi',rfl,hown,hch,hB⟩:=hrel
   have hsr:=hB.out.size
   obtain⟨AL,cL,hvL,-⟩:=own_slice hown.out
   subst hvL
   have b1:=(P0.out.to hB.out).cell (j:=1) rfl
   by_cases hin:i<M1
   ·obtain⟨o,ho⟩:∃ o,xo[i]?=some o:=⟨_,zV (by omega)⟩
    have hom:o∈xo:=List.mem_of_getElem? ho
    have htk:=parts_at (c:=(xs,xo,xr)) ho
    have hby:∀ y∈objB xs o,y<256:=HPb.out _ (by rw[partsG];simp only[List.mem_cons];exact .inr (.inr (List.mem_map.2 ⟨o,hom,rfl⟩)))
    obtain⟨bo,offo,F,fc,hBe,hbo,x0,x1,x2,hov,-,-⟩:=ob_at (obs_below hB.out Hgo.out) ho
    have hmo:=Hmo.out o hom
    have hlen:(fldsG xs o.2.1).length=o.2.2.length:=hmo.len
    have h5:=H5.out o.2.1
    obtain⟨t,ht⟩:=Int.eq_ofNat_of_zero_le hmo.t0
    have htN:t<xs.length:=by have:o.2.1<(xs.length:Int):=hmo.t1;omega
    have hgt:xs[t]?=some xs[t]:=zV (by omega)
    obtain⟨bt,offt,st,AF,cF,hAe,hbt,-,y1,-,-,hfs⟩:=typ_at (sch_below hB.out Hgs.out) hgt
    have hFe:=fldsG_at ht hgt
    rw[← hFe,hlen] at y1 hfs
    have hob:objB xs o=vputL t++valsB (fldsG xs o.2.1) o.2.2:=by rw[objB,ht];rfl
    have hokv:=vals_ok hov
    have hpl:∀ k,(valsB ((fldsG xs o.2.1).take k) (o.2.2.take k)).length≤65:=fun k=>by
     have h1:=vals_len (fs:=(fldsG xs o.2.1).take k) (vs:=o.2.2.take k) (fun v hv=>hokv v (List.mem_of_mem_take hv))
     rw[List.length_take] at h1
     have:(fldsG xs o.2.1).length≤5:=h5
     omega
    rw[ht] at x1
    have hBa:Below wr.heap.size wr (wr.alloc (.cells #[.int .i64 o.1,.int .i64 (t:Int),.slice F o.2.2.length fc] 53)):=(zA _ wr).alloc (zW _) _
    have pa:=Blk.new wr 53 [.int .i64 o.1,.int .i64 (t:Int),.slice F o.2.2.length fc]
    subst hBe hAe
    have HSF:=zZ (fun W (hW:Below (wr.alloc (.cells #[.int .i64 o.1,.int .i64 (t:Int),.slice F o.2.2.length fc] 53)).heap.size (wr.alloc (.cells #[.int .i64 o.1,.int .i64 (t:Int),.slice F o.2.2.length fc] 53)) W)=>And.intro ((P0.out.to (hB.out.trans ((hBa.trans (hW.mono hBa.size)).mono hsr))).cell (j:=0) rfl) (And.intro ((pa.to hW).cell (j:=1) rfl) (And.intro ((pa.to hW).cell (j:=2) rfl) (((hBa.trans (hW.mono hBa.size)).cell (p:=⟨bt,offt+t * 2+1,none⟩) hbt).trans y1))))
    have HF:=zZ (fun W (hW:Below (wr.alloc (.cells #[.int .i64 o.1,.int .i64 (t:Int),.slice F o.2.2.length fc] 53)).heap.size (wr.alloc (.cells #[.int .i64 o.1,.int .i64 (t:Int),.slice F o.2.2.length fc] 53)) W)=>And.intro (flds_below (hBa.trans (hW.mono hBa.size)) hfs) (vals_below (hBa.trans (hW.mono hBa.size)) hov))
    have q1:=pa.cell (j:=1) rfl
    have T1:=zZ (fun W=>vrput_any t W (by omega))
    have eu:IntKind.u64.wrap (t:Int)=(t:Int):=by have:IntKind.u64.wrap (t:Int)=(t:Int) % 18446744073709551616:=rfl;omega
    have HBa:=zZ hBa
    have Htk:=zZ htk
    have Hby:=zZ hby
    have Hob:=zZ hob
    have Hpl:=zZ hpl
    have Hlen:=zZ hlen
    have hl10:=putL_len10 t (by omega)
    have hil:(i:Int)<(M1:Int):=by omega
    have hi0:(0:Int)≤(i:Int):=by omega
    have htl:(t:Int)<(xs.length:Int):=by omega
    have ht0:(0:Int)≤(t:Int):=by omega
    have hol5:o.2.2.length≤5:=by omega
    have Hol5:=zZ hol5
    have Hin:=zZ hin
    clear ho hom htk hby hov hmo hlen h5 hgt y1 hfs hFe hob hokv hpl hBa pa hbo
    generalize hfsg:fldsG xs o.2.1=fs at *
    generalize o.1=oid at *
    generalize objB xs o=ob at *
    generalize o.2.2=vs at *
    generalize holg:vs.length=ol at *
    have Holg:=zZ holg
    clear hfsg ht holg
    go_wp2_with fail
    generalize wr.alloc (.cells #[.int .i64 oid,.int .i64 (t:Int),.slice F ol fc] 53)=wo at *
    refine (T1.out _).mono ?_
    rintro r w2 ⟨v2,rfl,hv2,hB2⟩
    have Hv2:=zZ hv2
    have HB2:=zZ hB2
    clear T1 eu hv2 hB2 x0 x1 x2 b1 q1
    go_wp2
    go_loopw [6,7] (fun v iv wq=>∃ k:Nat,k≤ol∧iv=.int .i64 (k:Int)∧Hid (wq.ownsRow wo.heap.size 5 1 v (vputL t++valsB (fs.take k) (vs.take k)).length (u8s (vputL t++valsB (fs.take k) (vs.take k))))∧Hid (Below wo.heap.size wo wq)) (fun _ iv _=>ol - (intOf iv).toNat)
    case atStart=>exact⟨0,by omega,rfl,zZ (by simpa [valsB] using Hv2.out),HB2⟩
    case round=>
     rename World=>wq
     obtain⟨k,hk',rfl,hownq,hBq⟩:=hrel
     obtain⟨a0,q1,q2,y1⟩:=HSF.out wq hBq.out
     have hl1:=Hpl.out k
     by_cases hkn:k<ol
     ·obtain⟨f,hf⟩:∃ f,fs[k]?=some f:=⟨_,zV (by have:=Hlen.out;omega)⟩
      obtain⟨v,hv⟩:∃ v,vs[k]?=some v:=⟨_,zV (by have:=Holg.out;omega)⟩
      obtain⟨hfq,hvq⟩:=HF.out wq hBq.out
      obtain⟨bf,offf,sa,sb,hA1,hbf,f0,f1,f2,-,-,-,-,-⟩:=fld_at hfq hf
      obtain⟨bv,offv,sv,hA2,hbv,v0,v1,v2',hsv,-,hvn,hvr⟩:=val_at hvq hv
      subst hA1 hA2
      have Htkq:=zZ (valsB_take hf hv)
      obtain⟨vn,vb,vr⟩:=v
      obtain⟨fa,fk,fb⟩:=f
      simp only at f1 v0 v2' hsv hvn hvr Htkq
      subst hsv
      have hl2:=putVF_len (k:=fk) (v:=(vn,byt sv,vr)) ⟨hvn,byt_lt sv⟩
      have P1:=zZ (fun W=>rvlput_any sa sb sv fk vn vr W hvn.1 hvn.2)
      have HSQ:=zZ (fun W (hW:Below wq.heap.size wq W)=>And.intro (HSF.out W (hBq.out.trans (hW.mono hBq.out.size))) (And.intro ((hW.cell (p:=⟨bf,offf+k * 3,none⟩) hbf).trans f0) (And.intro ((hW.cell (p:=⟨bf,offf+k * 3+1,none⟩) hbf).trans f1) (And.intro ((hW.cell (p:=⟨bf,offf+k * 3+2,none⟩) hbf).trans f2)
       (And.intro ((hW.cell (p:=⟨bv,offv+k * 3,none⟩) hbv).trans v0) (And.intro ((hW.cell (p:=⟨bv,offv+k * 3+1,none⟩) hbv).trans v1) ((hW.cell (p:=⟨bv,offv+k * 3+2,none⟩) hbv).trans v2')))))))
      have hkl:(k:Int)<(ol:Int):=by omega
      have hk0:(0:Int)≤(k:Int):=by omega
      have Hkn:=zZ hkn
      have hown3:=hownq.out
      clear hf hv v0 v1 v2' f0 f1 f2 hfq hvq hbf hbv hvn hvr hkn hownq
      generalize valsB (fs.take k) (vs.take k)=pre at *
      go_wp2
      clear a0 q1 q2 y1
      refine sch_start [(0,true),(1,true),(2,true),(3,true),(4,true),(5,true),(6,true),(7,true),(8,true),(9,true),(10,true),(11,true),(12,true),(13,true),(14,true),(15,true),(16,false),(17,true),(18,true),(19,true),(20,true),(21,true)] (fun W=>Below wq.heap.size wq W) (by kernel_rfl) rfl (by kernel_rfl) (fun _ _ _ _ _ h=>h) ((zA _ wq).drew) (fun hH=>?_)
      repeat (first | (refine sch_yes (v:=?_) rfl rfl ?_ hH ?_;rotate_left;(focus ((intro W hW;obtain⟨⟨a0,q1,q2,y1⟩,f0,f1,f2,v0,v1,v2⟩:=HSQ.out W hW;go_simp) <;> with_reducible rfl));simp only[Act.put,zY,zX,zQ]) | (refine sch_no rfl rfl hH ?_;simp only[Act.put,zY,zX,zQ]))
      refine sch_call rfl rfl (fun K' hK=>?_)
      go_wp2_with (go_at_call 111;refine (P1.out _).mono ?_;rintro e w3 ⟨v3,rfl,hv3,hB3⟩)
      have hD:=hH.trans (hB3.mono hH.size)
      obtain⟨A3,c3,rfl,hc3,hr3,-⟩:=own_slice hv3
      have hown4:=own_below hown3 (show Below wq.heap.size wq w3 from hD)
      have HB5:=zZ (hBq.out.trans (hD.mono hBq.out.size))
      have hs5:=HB5.out.size
      refine hK.out _ _ hD ?_
      clear hK hH hB3 hv3 hown3 P1 HSQ
      have hH:=hD
      clear hD
      repeat (first | (refine sch_yes (v:=?_) rfl rfl ?_ hH ?_;rotate_left;(focus ((intro W hW;go_simp) <;> with_reducible rfl));simp only[Act.put,zY,zX,zQ]) | (refine sch_no rfl rfl hH ?_;simp only[Act.put,zY,zX,zQ]))
      refine sch_done ?_
      generalize putVF fk (vn,byt sv,vr)=pv at *
      go_wp2_with (first
       | (at_builtin;refine wpList_app rfl (.tmp 61) (.tmp 62) 98 rfl wo.heap.size 5 j0 (.int .u8 0) 1 Tryz.underlying98 hj hy0 hy1 hy2 rfl _ (vputL t++pre).length (u8s (vputL t++pre)) rfl hown4 A3 pv.length c3 (u8s pv) rfl (by simp) hr3 (u8s_one _) (by simp only[maxLen,List.length_append];omega) (by simp only[List.length_append];omega) hs5 ?_;intro v5 w5 hown5 hg5 _)
       | fail)
      go_roundw
      case rel=>
       refine⟨k+1,Hkn.out,by have:=Hkn.out;have:=Hol5.out;go_num,zZ ?_,zZ (HB5.out.grown hg5 hs5 (fun j hj=>(hown4.lt j hj).1))⟩
       rw[Htkq.out,← List.append_assoc,u8s_append _ pv,List.length_append]
       exact hown5
      case measure=>have:=Hkn.out;have:=Hol5.out;simp[intOf];omega
     ·have hko:k=ol:=by omega
      have hownb:=hownq.out
      rw[List.take_of_length_le (by have:=Hlen.out;omega),List.take_of_length_le (by have:=Holg.out;omega),← Hob.out] at hownb
      have hkl:¬ ((k:Int)<(ol:Int)):=by omega
      obtain⟨A5,c5,hv5e,hr5⟩:=bytes_own hownb Hby.out
      subst hv5e
      have hr5':rBytes (fun k=>wr.heap.size≤k∧k<wq.heap.size) wq _ ob:=rBytes_stays.to (Keeps.mono fun k hk=>⟨by have:=HBa.out.size;omega,hk.2⟩) hr5
      have hB5w:=HBa.out.trans (hBq.out.mono HBa.out.size)
      obtain⟨hown6,hrd6,hB6,hch6⟩:=row_step (t:=98) rBytes_stays hB.out hown.out hch.out hB5w hr5' rfl
      have hs6:=hB6.size
      have Hch6:=zZ hch6
      have HB6:=zZ hB6
      clear hko hownb hr5 hr5' hB5w hch6 hB6 hownq hl1
      go_wp2_with (first
       | (at_builtin;refine wpList_apps rfl (.tmp 64) (.tmp 66) 101 rfl w4.heap.size 98 i0 (.slice none 0 0) 1 24 Tryz.underlying101 hi hz0 hz1 hz2 rfl (by omega) _ (i+2) zs rfl hown6 (some ⟨wq.heap.size,0,none⟩) 1 1 [.slice A5 ob.length c5] rfl rfl hrd6 (by simp[Value.oneCell']) (by simp only[maxLen];omega) (by omega) hs6 ?_;intro v7 w7 hown7 hg7 hv7)
       | fail)
      go_roundw
      case rel=>
       refine⟨i+1,_,Hin.out,by have:=Hin.out;go_num,zZ (by rw[show i+1+2=i+2+1 by omega];exact hown7),zZ ?_,zZ (HB6.out.grown hg7 hs6 (fun k hk=>(hown6.lt k hk).1))⟩
       rw[Htk.out]
       exact Hch6.out.imp (fun cs a h=>rBytes_stays.to (Keeps.grown hg7 hv7) h)
      case measure=>have:=Hin.out;simp[intOf];omega
   ·have hiM:i=M1:=by omega
    have hil:¬ ((i:Int)<(M1:Int)):=by omega
    have hall:(partsG (xs,xo,xr)).take (i+2)=partsG (xs,xo,xr):=List.take_of_length_le (by rw[HPl.out];omega)
    rw[hall] at hch
    have hpts:=own_rSlice rBytes_stays hown.out (by rw[HPl.out];omega) hch.out
    have Hpts:=zZ hpts
    have HBw:=zZ (H0.out.trans (hB.out.mono H0.out.size))
    clear hpts hall hown hch hB hiM
    go_wp2
    go_ret
    exact⟨_,_,_,rfl,Hpts.out,HBw.out⟩
theorem rcput_any (A B C:Option Addr) (N c M d K e:Nat) (g:Gr) (w:World) (htame:tameS g.1) (h:rGr (All w) w [.slice A N c,.slice B M d,.slice C K e] g):
  Calls Tryz.prog 63 #[.agg #[.slice A N c,.slice B M d,.slice C K e]] w fun r w'=>∃ B1 m cap,r=.returned (.tuple #[.slice B1 m cap,.int .i64 (codeE g)])∧m=(codeB g).length∧m≤cap∧Rd w' B1 (u8s (codeB g))∧Below w.heap.size w w':=by
 have hB0:Below w.heap.size w (w.alloc (.cells #[.slice A N c,.slice B M d,.slice C K e] 28)):=(zA _ w).alloc (zW _) _
 have p0:=Blk.new w 28 [.slice A N c,.slice B M d,.slice C K e]
 have T1:=zZ (rgmay_any A B C N c M d K e g _ (gr_below hB0 h) htame)
 have T2:=zZ (fun W (hW:Below w.heap.size w W)=>rcanon_any A B C N c M d K e g W (gr_below hW h) htame)
 have Hok:=zZ (gr_ok h)
 have H0:=zZ hB0
 have Ht:=zZ htame
 clear h hB0 htame
 cases hm:mayG g with
 | false=>
  rw[hm] at T1
  have H1:=zZ (codeE_arg.2 hm)
  have H2:=zZ (codeB_no (g:=g) (by rw[H1.out];decide))
  clear hm
  go_enter Tryz.func63,Tryz.ntmps63
  go_wp2_with fail
  refine T1.out.mono ?_
  rintro r w1 ⟨rfl,hB1⟩
  go_wp2
  go_ret2
  exact⟨none,0,0,(show Ending.returned (.tuple #[.slice none 0 0,.int .i64 1])=_ by rw[H1.out]),by rw[H2.out];rfl,zW _,by rw[H2.out];exact .inl rfl,H0.out.trans (hB1.mono H0.out.size)⟩
 | true=>
  rw[hm] at T1
  have Hcm:=zZ (canon_may hm)
  have Hct:=zZ (show tameS (canonG g).1 by rw[canon_sch hm];exact Ht.out)
  have Hpb:=zZ (parts_byte (canon_may hm) (canon_ok Hok.out))
  have HE:=zZ (show codeE g=if mayB (codeF g)=true then 0 else 5 from if_pos hm)
  clear hm
  go_enter Tryz.func63,Tryz.ntmps63
  go_wp2_with fail
  refine T1.out.mono ?_
  rintro r w1 ⟨rfl,hB1⟩
  have H1:=zZ (H0.out.trans (hB1.mono H0.out.size))
  have p1:=p0.to hB1
  have a0:=p1.cell (j:=0) rfl
  have a1:=p1.cell (j:=1) rfl
  have a2:=p1.cell (j:=2) rfl
  clear hB1 H0 T1 p0
  go_wp2_with fail
  refine (T2.out _ H1.out).mono ?_
  rintro r w2 ⟨A1,c1,B1,d1,C1,e1,rfl,hg2,hB2⟩
  have H2:=zZ (H1.out.trans (hB2.mono H1.out.size))
  have T3:=zZ (rparts_any A1 B1 C1 (canonG g).1.length c1 (canonG g).2.1.length d1 (canonG g).2.2.length e1 (canonG g) w2 Hcm.out Hct.out hg2)
  clear hg2 hB2 H1 T2 a0 a1 a2 p1
  go_wp2_with fail
  refine T3.out.mono ?_
  rintro r w3 ⟨A3,n3,c3,rfl,hp3,hB3⟩
  have H3:=zZ (H2.out.trans (hB3.mono H2.out.size))
  have T4:=rfput_any A3 n3 c3 0 (partsG (canonG g)) w3 (by decide) hp3 Hpb.out
  rw[show ((0:Nat):Int)=0 from rfl] at T4
  have HT4:=zZ T4
  clear T3 T4 hp3 hB3 H2
  go_wp2_with fail
  refine HT4.out.mono ?_
  rintro r w4 ⟨B4,m4,cap4,E,rfl,hs,hB4⟩
  have H4:=zZ (H3.out.trans (hB4.mono H3.out.size))
  rcases hs with⟨hmb,hE0,hm4,hmc,hcm,hr4⟩ | ⟨hmb,hE1,hn,hz,hcz⟩
  ·have h0:codeE g=0:=HE.out.trans (if_pos hmb)
   have hb:codeB g=flowB (codeF g):=if_pos h0
   subst hE0
   have HX:=zZ (And.intro h0 (And.intro (show m4=(codeB g).length by rw[hb];exact hm4) (And.intro hmc (show Rd w4 B4 (u8s (codeB g)) by rw[hb];exact hr4))))
   clear hmb hm4 hmc hcm hr4 h0 hb hB4
   go_wp2
   go_ret2
   exact⟨B4,m4,cap4,(show Ending.returned (.tuple #[.slice B4 m4 cap4,.int .i64 0])=_ by rw[HX.out.1]),HX.out.2.1,HX.out.2.2.1,HX.out.2.2.2,H4.out⟩
  ·have h5:codeE g=5:=HE.out.trans (if_neg (by show ¬ mayB (0,partsG (canonG g))=true;exact fun h=>by simp[h] at hmb))
   have hb:codeB g=[]:=codeB_no (by rw[h5];decide)
   subst hE1
   have HX:=zZ (And.intro h5 hb)
   clear hmb hn hz hcz h5 hb hB4
   go_wp2
   go_ret2
   exact⟨none,0,0,(show Ending.returned (.tuple #[.slice none 0 0,.int .i64 5])=_ by rw[HX.out.1]),by rw[HX.out.2];rfl,zW _,by rw[HX.out.2];exact .inl rfl,H4.out⟩
theorem rcsum_any (A B C:Option Addr) (N c M d K e:Nat) (g:Gr) (w:World) (htame:tameS g.1) (h:rGr (All w) w [.slice A N c,.slice B M d,.slice C K e] g):
  Calls Tryz.prog 27 #[.agg #[.slice A N c,.slice B M d,.slice C K e]] w fun r w'=>r=.returned (.tuple #[.int .u32 (codeS g:Int),.int .i64 (codeE g)])∧Below w.heap.size w w':=by
 obtain⟨i0,hi,hz0,hz1,hz2⟩:=info_parts info_u8
 have hB0:Below w.heap.size w (w.alloc (.cells #[.slice A N c,.slice B M d,.slice C K e] 28)):=(zA _ w).alloc (zW _) _
 have p0:=Blk.new w 28 [.slice A N c,.slice B M d,.slice C K e]
 have T1:=zZ (rcput_any A B C N c M d K e g _ htame (gr_below hB0 h))
 have T2:=zZ (fun W (hW:Below w.heap.size w W)=>rcanon_any A B C N c M d K e g W (gr_below hW h) htame)
 have H0:=zZ hB0
 have Hok:=zZ (gr_ok h)
 have Ht:=zZ htame
 have a0:=p0.cell (j:=0) rfl
 have a1:=p0.cell (j:=1) rfl
 have a2:=p0.cell (j:=2) rfl
 clear h hB0 htame
 go_enter Tryz.func27,Tryz.ntmps27
 go_wp2_with fail
 refine T1.out.mono ?_
 rintro r w1 ⟨B1,m1,cap1,rfl,-,-,-,hB1⟩
 have H1:=zZ (H0.out.trans (hB1.mono H0.out.size))
 replace p0:=p0.to hB1
 clear hB1 H0 a0 a1 a2 T1
 by_cases h0:codeE g=0
 ·rw[h0]
  have hm:=codeE_may h0
  have Hcm:=zZ (canon_may hm)
  have Hct:=zZ (show tameS (canonG g).1 by rw[canon_sch hm];exact Ht.out)
  have hokF:=code_okF Hok.out h0
  have hS:codeS g=sumL (lensB (partsG (canonG g))):=if_pos h0
  have HS:=zZ hS
  have hfew:(partsG (canonG g)).length≤40:=hokF.few
  have hsh:∀ p∈partsG (canonG g),p.length≤200:=hokF.short
  have hby:∀ p∈partsG (canonG g),∀ x∈p,x<256:=hokF.byte
  have Hpb:=zZ (lensB_byte hby)
  have hpl:∀ i,(lensB ((partsG (canonG g)).take i)).length≤8400:=fun i=>by
   have:=lensB_len (l:=(partsG (canonG g)).take i) (fun p hp=>hsh p (List.mem_of_mem_take hp))
   rw[List.length_take] at this
   omega
  have Hpl:=zZ hpl
  have Hsh:=zZ hsh
  have Hfew:=zZ hfew
  have Hc0:=zZ h0
  have a0:=p0.cell (j:=0) rfl
  have a1:=p0.cell (j:=1) rfl
  have a2:=p0.cell (j:=2) rfl
  clear h0 hm hokF hS hfew hsh hby hpl Hok Ht
  go_wp2_with fail
  refine (T2.out _ H1.out).mono ?_
  rintro r w2 ⟨A2,c2,B2,d2,C2,e2,rfl,hg2,hB2⟩
  have H2:=zZ (H1.out.trans (hB2.mono H1.out.size))
  have T3:=zZ (rparts_any A2 B2 C2 (canonG g).1.length c2 (canonG g).2.1.length d2 (canonG g).2.2.length e2 (canonG g) w2 Hcm.out Hct.out hg2)
  clear hg2 hB2 H1 T2 a0 a1 a2 p0 Hcm Hct
  generalize partsG (canonG g)=ps at *
  go_wp2_with fail
  refine T3.out.mono ?_
  rintro r w4 ⟨A4,n,c4,rfl,hp4,hB4⟩
  have H4:=zZ (H2.out.trans (hB4.mono H2.out.size))
  obtain⟨hn,-,-⟩:=pts_len hp4
  have Hn:=zZ hn
  have Hp:=zZ hp4
  have hfew:n≤40:=by have:=Hfew.out;omega
  clear hn hp4 hB4 T3 H2 Hfew
  go_wp2
  go_loopw [7,8] (fun v iv wr=>∃ i:Nat,i≤n∧iv=.int .i64 (i:Int)∧wr.ownsRow w4.heap.size 5 1 v (lensB (ps.take i)).length (u8s (lensB (ps.take i)))∧Below w4.heap.size w4 wr) (fun _ iv _=>n - (intOf iv).toNat)
  case atStart=>exact⟨0,by omega,rfl,World.ownsRow_nil _ _ _ _,zA _ _⟩
  case round=>
   rename World=>wr
   obtain⟨i,hi',rfl,hown,hB⟩:=hrel
   have hsr:=hB.size
   by_cases hin:i<n
   ·obtain⟨p,hp⟩:∃ p,ps[i]?=some p:=⟨_,zV (by have:=Hn.out;omega)⟩
    obtain⟨b,off,A9,c9,rfl,hb,x0,-,-,hpb,hrd⟩:=pts_at Hp.out hp
    have x0':=(hB.cell (p:=⟨b,off+i,none⟩) hb).trans x0
    have HX0:=zZ x0
    have HbX:=zZ hb
    have hp200:=Hsh.out p (List.mem_of_getElem? hp)
    have htk:lensB (ps.take (i+1))=lensB (ps.take i)++vputL p.length++p:=by rw[take_at hp,lensB_one]
    have hl1:=Hpl.out i
    have hl2:=putL_len10 p.length (by omega)
    have P1:=zZ (fun W=>vrput_any p.length W (by omega))
    have eu:IntKind.u64.wrap (p.length:Int)=(p.length:Int):=by have:IntKind.u64.wrap (p.length:Int)=(p.length:Int) % 18446744073709551616:=rfl;omega
    have Htk:=zZ htk
    have HB:=zZ hB
    have Hrd:=zZ (RdIn.rd hrd)
    have hil:(i:Int)<(n:Int):=by omega
    have hi0:(0:Int)≤(i:Int):=by omega
    have Hin:=zZ hin
    have Hpe:Hid ((u8s p).length=p.length):=zZ (by simp)
    clear htk hB x0 hp hrd hpb
    generalize lensB (ps.take i)=pre at *
    generalize hpn:p.length=pn at *
    go_wp2_with fail
    refine (P1.out wr).mono ?_
    rintro r w3 ⟨v3,rfl,hv3,hB3⟩
    obtain⟨A3,c3,rfl,hc3,hr3,-⟩:=own_slice hv3
    have hown3:=own_below hown hB3
    have HB3:=zZ (HB.out.trans (hB3.mono hsr))
    have hsz:=HB3.out.size
    have Hown3:=zZ hown3
    clear P1 hown hv3 hB3 HB x0' eu
    generalize vputL pn=pv at *
    go_wp2_with (first
     | (at_builtin;refine wpList_app rfl (.tmp 26) (.tmp 33) 98 rfl w4.heap.size 5 i0 (.int .u8 0) 1 Tryz.underlying98 hi hz0 hz1 hz2 rfl _ pre.length (u8s pre) rfl hown3 A3 pv.length c3 (u8s pv) rfl (by simp) hr3 (u8s_one _) (by simp only[maxLen];omega) (by omega) hsz ?_;intro v5 w5 hown5 hg5 _;have HB5:=zZ (HB3.out.grown hg5 hsz (fun k hk=>(Hown3.out.lt k hk).1));have hs5:=HB5.out.size;have hr5:=Hrd.out.below HB5.out;have x5:=(HB5.out.cell (p:=⟨b,off+i,none⟩) HbX.out).trans HX0.out;have Hg5:=zZ hg5;clear hg5)
     | (at_builtin;refine wpList_app rfl (.tmp 35) (.tmp 39) 98 rfl w4.heap.size 5 i0 (.int .u8 0) 1 Tryz.underlying98 hi hz0 hz1 hz2 rfl _ (pre.length+pv.length) (u8s pre++u8s pv) rfl hown5 A9 pn c9 (u8s p) rfl Hpe.out hr5 (u8s_one _) (by simp only[maxLen];omega) (by omega) hs5 ?_;intro v6 w6 hown6 hg6 _)
     | fail)
    go_roundw
    case rel=>
     refine⟨i+1,Hin.out,by have:=Hin.out;go_num,?_,HB5.out.grown hg6 hs5 (fun k hk=>(hown5.lt k hk).1)⟩
     rw[Htk.out,List.length_append,List.length_append,hpn,u8s_append,u8s_append]
     exact hown6
    case measure=>have:=Hin.out;simp[intOf];omega
   ·have hiK:i=n:=by omega
    rw[List.take_of_length_le (by have:=Hn.out;omega)] at hown
    obtain⟨A5,c5,rfl,hc5,hr5,-⟩:=own_slice hown
    have hpl:=Hpl.out n
    rw[List.take_of_length_le (by have:=Hn.out;omega)] at hpl
    have T9:=zZ (rsum_any A5 c5 _ (lensB ps) wr rfl Hpb.out hr5 (by omega))
    have HB9:=zZ (H4.out.trans (hB.mono H4.out.size))
    have hil:¬ ((i:Int)<(n:Int)):=by omega
    clear hiK hown hr5 hB
    rw[← HS.out] at T9
    generalize lensB ps=lb at *
    go_wp2_with fail
    refine T9.out.mono ?_
    rintro r w9 ⟨rfl,hw9⟩
    replace hw9:=hw9.symm
    subst hw9
    go_wp2
    go_ret2
    exact⟨(show Ending.returned (.tuple #[.int .u32 (codeS g:Int),.int .i64 0])=_ by rw[Hc0.out]),HB9.out⟩
 ·have HS:=zZ (codeS_no h0)
  have h0':(codeE g != 0)=true:=by simpa using h0
  clear h0
  have HX:Hid (Ending.returned (.tuple #[.int .u32 0,.int .i64 (codeE g)])=Ending.returned (.tuple #[.int .u32 (codeS g:Int),.int .i64 (codeE g)])):=zZ (by rw[HS.out];rfl)
  go_wp2
  go_ret2
  exact⟨HX.out,H1.out⟩
end Go.Proofs.YtnljjnkindjeoaaGreatDoor
