/- The contract of code's partsOf: the parts of a graph's Canon, or a panic by why there are none. Condition: the table of kinds' texts is laid. -/
import Derived.Test.YtdlkmjfbmenedaaGreatDoorCoPart
import Derived.Test.YtdlkmjfbmenedaaGreatDoorCoRow
import Derived.Test.YtdlkmjfbmenedaaGreatDoorGText
import Derived.Test.YtdlkmjfbmenedaaGreatDoorGCanon
import Derived.Test.YtdlkmjfbmenedaaGreatDoorGFlow
import Derived.Test.YtdlkmjfbmenedaaGreatDoorAl
set_option maxRecDepth 100000
set_option maxHeartbeats 2000000
namespace Go.Proofs.YtdlkmjfbmenedaaGreatDoor
open Go.RowKit
theorem info_pt1:(Tryz.prog.info? 29).map (fun i=>(i.zero,i.size,i.bytes))=some (some (.slice none 0 0),1,24):=by kernel_rfl
theorem codeE_all {g:Gr} (hm:mayG g=true) (h:∀ p∈partsG (canonG g),p.length≤200):codeE g=0:=by
 have h8:=(mayG_parts (canon_may hm)).2.1
 have h40:(partsG (canonG g)).length≤40:=by
  rw[partsG,List.length_cons,List.length_cons,List.length_map]
  omega
 have hb:mayB (codeF g)=true:=by
  show (decide ((partsG (canonG g)).length≤40) && (partsG (canonG g)).all fun p=>decide (p.length≤200))=true
  rw[zJ h40,Bool.true_and,List.all_eq_true]
  exact fun p hp=>zJ (h p hp)
 rw[codeE,if_pos hm,if_pos hb]
theorem codeE_long {g:Gr} (hm:mayG g=true) {p:List Nat} (hp:p∈partsG (canonG g)) (h:200<p.length):codeE g=5:=by
 have hb:¬ mayB (codeF g)=true:=fun hb=>by
  replace hb:(decide ((partsG (canonG g)).length≤40) && (partsG (canonG g)).all fun p=>decide (p.length≤200))=true:=hb
  rw[Bool.and_eq_true,List.all_eq_true] at hb
  have:=of_decide_eq_true (hb.2 p hp)
  omega
 rw[codeE,if_pos hm,if_neg hb]
theorem textS_canon {g:Gr} (hm:mayG g=true):textS (canonG g).1=sText (canonG g).1:=by
 rw[textS,if_pos (mayG_parts (canon_may hm)).1]
theorem parts_at {c:Gr} {i:Nat} {o:Ob} (h:c.2.1[i]?=some o):(partsG c).take (i+1+2)=(partsG c).take (i+2)++[objB c.1 o]:=by
 have:(partsG c)[i+2]?=some (objB c.1 o):=by
  rw[partsG]
  simp[h]
 rw[show i+1+2=(i+2)+1 by omega,List.take_add_one,this]
 rfl
theorem bytes_below {w w':World} {lo:Nat} {cs:List Value} {b:List Nat} (h:rBytes (fun k=>lo≤k∧k<w.heap.size) w cs b) (hB:Below w.heap.size w w'):rBytes (fun k=>lo≤k∧k<w.heap.size) w' cs b:=
 rBytes_stays.to (fun k hk=>⟨hk,hB.block k hk.2⟩) h
theorem lit_two {w wz:World} {x y:Value} {a b:List Nat} (hB:Below w.heap.size w wz) (hx:rBytes (fun k=>w.heap.size≤k∧k<wz.heap.size) wz [x] a) (hy:rBytes (fun k=>w.heap.size≤k∧k<wz.heap.size) wz [y] b):
  (wz.alloc (.cells #[x,y] 29)).ownsRow w.heap.size 29 1 (.slice (some ⟨wz.heap.size,0,none⟩) 2 2) 2 [x,y] ∧
  Chunks 1 (rBytes (fun k=>k<(wz.alloc (.cells #[x,y] 29)).heap.size∧some k≠(Value.slice (some ⟨wz.heap.size,0,none⟩) 2 2).ownBlock) (wz.alloc (.cells #[x,y] 29))) [x,y] [a,b]∧Below w.heap.size w (wz.alloc (.cells #[x,y] 29)):=by
 have hA:Below wz.heap.size wz (wz.alloc (.cells #[x,y] 29)):=(zA _ wz).alloc (zW _) _
 have hk:Keeps (fun k=>w.heap.size≤k∧k<wz.heap.size) (fun k=>k<(wz.alloc (.cells #[x,y] 29)).heap.size∧some k≠(Value.slice (some ⟨wz.heap.size,0,none⟩) 2 2).ownBlock) wz (wz.alloc (.cells #[x,y] 29)):=fun k hk=>
  ⟨⟨by rw[World.size_alloc];omega,by simp[Value.ownBlock];omega⟩,hA.block k hk.2⟩
 refine⟨World.ownsRow_lit (base:=w.heap.size) (e:=29) (size:=1) wz #[x,y] 2 hB.size (by simp[maxLen]) rfl,?_,hB.trans (hA.mono hB.size)⟩
 exact Chunks.append (size:=1) (xs:=[x]) (ys:=[y]) (l:=[a]) (m:=[b]) (Chunks.one rfl (rBytes_stays.to hk hx)) (Chunks.one rfl (rBytes_stays.to hk hy))
def PartsSays (g:Gr) (r:Ending) (w':World):Prop:=
 (codeE g=0∧∃ A n c,r=.returned (.slice A n c)∧rPts (All w') w' [.slice A n c] (partsG (canonG g)))∨(codeE g≠0∧r=Wrong (codeE g))
theorem partsOf_any (A B C:Option Addr) (N c M d K e:Nat) (g:Gr) (w:World) (hKt:Kt w) (h:rGr (All w) w [.slice A N c,.slice B M d,.slice C K e] g):
  Calls Tryz.prog 38 #[.agg #[.slice A N c,.slice B M d,.slice C K e]] w fun r w'=>PartsSays g r w'∧Below w.heap.size w w':=by
 obtain⟨i0,hi,hz0,hz1,hz2⟩:=info_parts info_pt1
 have hB0:Below w.heap.size w (w.alloc (.cells #[.slice A N c,.slice B M d,.slice C K e] 28)):=(zA _ w).alloc (zW _) _
 have p0:=Blk.new w 28 [.slice A N c,.slice B M d,.slice C K e]
 have T1:=zZ (gmay_any A B C N c M d K e g _ (gr_below hB0 h))
 have T2:=zZ (fun W (hW:Below w.heap.size w W)=>canon_any A B C N c M d K e g W (gr_below hW h))
 have HKt:=zZ (fun W (hW:Below w.heap.size w W)=>hKt.below hW)
 have H0:=zZ hB0
 have P0:=zZ p0
 have Hok:=zZ (gr_ok h)
 have HX:Hid (∀ r w',PartsSays g r w'→Below w.heap.size w w'→PartsSays g r w'∧Below w.heap.size w w'):=zZ (fun _ _ a b=>⟨a,b⟩)
 clear h hKt hB0 p0
 cases hm:mayG g with
 | false=>
  rw[hm] at T1
  have h1:=codeE_arg.2 hm
  have H1:=zZ h1
  clear hm h1
  go_enter Tryz.func38,Tryz.ntmps38
  go_wp2_with fail
  refine T1.out.mono ?_
  rintro r w1 ⟨rfl,hB1⟩
  go_wp2_with fail
  refine (must_no 1 _).mono ?_
  rintro r w2 ⟨rfl,rfl⟩
  unfold Wrong
  go_wp2_with fail
  refine⟨rfl,.inr ⟨by rw[H1.out];decide,by rw[H1.out];rfl⟩,H0.out.trans (hB1.mono H0.out.size)⟩
 | true=>
  rw[hm] at T1
  have hc:=canon_may hm
  have Hm:=zZ hm
  have Hc:=zZ hc
  have Htx:=zZ (textS_canon hm)
  have Hrr:=zZ (root_range hc)
  have Hcok:=zZ (canon_ok Hok.out)
  have hM8:=(mayG_parts hc).2.1
  have hK3:=(mayG_parts hc).2.2.2.1
  have h0:∀ h:∀ p∈partsG (canonG g),p.length≤200,codeE g=0:=fun h=>codeE_all hm h
  have h5:∀ p∈partsG (canonG g),200<p.length→codeE g=5:=fun p hp hl=>codeE_long hm hp hl
  have Hc0:=zZ h0
  have Hc5:=zZ h5
  have hPl:(partsG (canonG g)).length=(canonG g).2.1.length+2:=by rw[partsG,List.length_cons,List.length_cons,List.length_map]
  have HPl:=zZ hPl
  have HPb:=zZ (parts_byte hc (canon_ok Hok.out))
  clear hm hc h0 h5 hPl Hok
  generalize hcg:canonG g=x at *
  obtain⟨xs,xo,xr⟩:=x
  simp only at *
  go_enter Tryz.func38,Tryz.ntmps38
  go_wp2_with fail
  generalize w.alloc (.cells #[.slice A N c,.slice B M d,.slice C K e] 28)=w1 at *
  refine T1.out.mono ?_
  rintro r w2 ⟨rfl,hB1⟩
  have H1:=zZ (H0.out.trans (hB1.mono H0.out.size))
  have P1:=zZ (P0.out.to hB1)
  clear hB1 H0 P0 T1
  go_wp2_with fail
  refine (must_yes 1 _).mono ?_
  rintro r w3 ⟨rfl,rfl⟩
  have a0:=P1.out.cell (j:=0) rfl
  have a1:=P1.out.cell (j:=1) rfl
  have a2:=P1.out.cell (j:=2) rfl
  go_wp2_with fail
  refine (T2.out _ H1.out).mono ?_
  rintro r w3 ⟨A1,c1,B1,d1,C1,e1,rfl,hg,hB2⟩
  have hB3:Below w3.heap.size w3 (w3.alloc (.cells #[.slice A1 xs.length c1,.slice B1 xo.length d1,.slice C1 xr.length e1] 28)):=(zA _ w3).alloc (zW _) _
  have H3:=zZ (H1.out.trans ((hB2.trans (hB3.mono hB2.size)).mono H1.out.size))
  have p3:=Blk.new w3 28 [.slice A1 xs.length c1,.slice B1 xo.length d1,.slice C1 xr.length e1]
  have hg3:=gr_below hB3 hg
  have hKt3:=HKt.out _ H3.out
  have hgs:=(rGr_open hg3).1
  have hgo:=(rGr_open hg3).2.1
  have hgr:=(rGr_open hg3).2.2
  have hs4:(w3.alloc (.cells #[.slice A1 xs.length c1,.slice B1 xo.length d1,.slice C1 xr.length e1] 28)).heap.size=w3.heap.size+1:=by simp
  have P3:=zZ p3
  have Hgs:=zZ hgs
  have Hgo:=zZ hgo
  have Hgr:=zZ hgr
  have HK3:=zZ hKt3
  have HS4:=zZ hs4
  clear a0 a1 a2 T2 H1 P1 hg hB2 hB3 p3 hg3 hKt3 hgs hgo hgr hs4 HKt
  go_wp2
  generalize w3.alloc (.cells #[.slice A1 xs.length c1,.slice B1 xo.length d1,.slice C1 xr.length e1] 28)=w4 at *
  go_cut [4] (fun v4 wx=>∃ (gL:Nat) (ys:List Value),v4=.slice (some ⟨gL,0,none⟩) 2 2∧wx.ownsRow w4.heap.size 29 1 (.slice (some ⟨gL,0,none⟩) 2 2) 2 ys∧Hid (Chunks 1 (rBytes (fun k=>k<wx.heap.size∧some k≠(Value.slice (some ⟨gL,0,none⟩) 2 2).ownBlock) wx) ys [sText xs,rootsB xr])∧Hid (Below w4.heap.size w4 wx))
  case first=>
   have HSF:=zZ (fun W (hW:Below w4.heap.size w4 W)=>And.intro ((P3.out.to hW).cell (j:=0) rfl) ((P3.out.to hW).cell (j:=2) rfl))
   refine fr_start (fun W=>Below w4.heap.size w4 W) 9 (by kernel_rfl) rfl (fun _ _ _ _ _ h=>h) ((zA _ w4).drew) (fun hH=>?_)
   (refine fr_yes 0 (v:=?_) rfl (by kernel_rfl) rfl ?_ hH ?_;rotate_left;(focus ((intro W hW;obtain⟨u0,u1⟩:=HSF.out W hW;go_simp) <;> with_reducible rfl));simp only[Act.put,zY,zX,zQ]);(refine fr_yes 1 (v:=?_) rfl (by kernel_rfl) rfl ?_ hH ?_;rotate_left;(focus ((intro W hW;obtain⟨u0,u1⟩:=HSF.out W hW;go_simp) <;> with_reducible rfl));simp only[Act.put,zY,zX,zQ]);(refine fr_yes 4 (v:=?_) rfl (by kernel_rfl) rfl ?_ hH ?_;rotate_left;(focus ((intro W hW;obtain⟨u0,u1⟩:=HSF.out W hW;go_simp) <;> with_reducible rfl));simp only[Act.put,zY,zX,zQ]);(refine fr_yes 5 (v:=?_) rfl (by kernel_rfl) rfl ?_ hH ?_;rotate_left;(focus ((intro W hW;obtain⟨u0,u1⟩:=HSF.out W hW;go_simp) <;> with_reducible rfl));simp only[Act.put,zY,zX,zQ])
   refine fr_op [2] (by kernel_rfl) (by simp) ?_;intro jj hjj;simp only[List.mem_cons,List.not_mem_nil,or_false] at hjj;subst hjj;refine⟨_,rfl,rfl,fun K hK=>?_⟩
   go_wp2_with (go_at_call 72;refine (text_any A1 xs.length c1 xs _ (HK3.out.below hH) (sch_below hH Hgs.out)).mono ?_;rintro e w5 ⟨tx,rfl,htx,htl,hB5⟩)
   have hD5:=hH.trans (hB5.mono hH.size)
   rw[Htx.out] at htx
   refine hK.out _ _ hD5 ?_
   clear hK hH hB5
   have cv:=fun W=>conv_bytes tx W
   have hD0:=hD5.size
   refine fr_op [3,6] (by kernel_rfl) (by simp) ?_;intro jj hjj;simp only[List.mem_cons,List.not_mem_nil,or_false] at hjj;rcases hjj with rfl | rfl
   ·refine⟨_,rfl,rfl,fun K hK=>?_⟩
    obtain⟨hBc,hrc⟩:=bytesWorld_in tx w5 (by simp only[maxLen];omega) htx
    go_wp2
    have hD6:=hD5.trans (hBc.mono hD0)
    have hr6:rBytes (fun k=>w4.heap.size≤k∧k<(Lib.bytesWorld w5 5 tx).heap.size) (Lib.bytesWorld w5 5 tx) [.slice (some ⟨w5.heap.size,0,none⟩) tx.size (grownCap w5 tx.size 0 5)] (sText xs):=rBytes_stays.to (Keeps.mono fun k hk=>⟨by omega,hk.2⟩) hrc
    refine hK.out _ _ hD6 ?_
    clear hK hrc hBc cv
    generalize Lib.bytesWorld w5 5 tx=w6 at *
    refine fr_op [6] (by kernel_rfl) (by simp) ?_;intro jj hjj;simp only[List.mem_cons,List.not_mem_nil,or_false] at hjj;subst hjj;refine⟨_,rfl,rfl,fun K hK=>?_⟩
    go_wp2_with (go_at_call 73;refine (rootsPart_any C1 xr.length e1 xr _ (ids_below hD6 Hgr.out) Hrr.out (by omega)).mono ?_;rintro e w7 ⟨v7,rfl,hv7,hB7⟩)
    obtain⟨A7,c7,rfl,hr7⟩:=bytes_own hv7 (catV_byte _)
    have hD7:=hD6.trans (hB7.mono hD6.size)
    have hs6:=hD6.size
    have hr6':rBytes (fun k=>w4.heap.size≤k∧k<w7.heap.size) w7 _ (sText xs):=rBytes_stays.to (Keeps.mono fun k hk=>⟨hk.1,by have:=hB7.size;omega⟩) (bytes_below hr6 hB7)
    have hr7':rBytes (fun k=>w4.heap.size≤k∧k<w7.heap.size) w7 _ (rootsB xr):=rBytes_stays.to (Keeps.mono fun k hk=>⟨by omega,hk.2⟩) hr7
    refine hK.out _ _ hD7 ?_
    clear hK hr6 hr7 hv7 hB7
    refine fr_op [7] (by kernel_rfl) (by simp) ?_;intro jj hjj;simp only[List.mem_cons,List.not_mem_nil,or_false] at hjj;subst hjj;refine⟨_,rfl,rfl,fun K hK=>?_⟩
    go_wp2
    obtain⟨hoL,hcL,hD8⟩:=lit_two hD7 hr6' hr7'
    refine hK.out _ _ hD8 ?_
    clear hK
    have HcL:=zZ hcL
    have HD8:=zZ hD8
    clear hcL hr6' hr7' HSF
    have hH:=HD8.out
    (refine fr_yes 8 (v:=?_) rfl (by kernel_rfl) rfl ?_ hH ?_;rotate_left;(focus ((intro W hW;go_simp) <;> with_reducible rfl));simp only[Act.put,zY,zX,zQ])
    refine fr_done (by kernel_rfl) ?_
    go_wp2
    go_meet
    case rel=>exact⟨_,_,rfl,hoL,HcL,HD8⟩
   ·refine⟨_,rfl,rfl,fun K hK=>?_⟩
    go_wp2_with (go_at_call 73;refine (rootsPart_any C1 xr.length e1 xr _ (ids_below hD5 Hgr.out) Hrr.out (by omega)).mono ?_;rintro e w6 ⟨v7,rfl,hv7,hB7⟩)
    obtain⟨A7,c7,rfl,hr7⟩:=bytes_own hv7 (catV_byte _)
    have hD6:=hD5.trans (hB7.mono hD0)
    have hs6:=hD6.size
    obtain⟨hBc,hrc⟩:=bytesWorld_in tx w6 (by simp only[maxLen];omega) htx
    refine hK.out _ _ hD6 ?_
    clear hK hv7 hB7
    refine fr_op [3] (by kernel_rfl) (by simp) ?_;intro jj hjj;simp only[List.mem_cons,List.not_mem_nil,or_false] at hjj;subst hjj;refine⟨_,rfl,rfl,fun K hK=>?_⟩
    go_wp2
    have hD7:=hD6.trans (hBc.mono hs6)
    have hr6':rBytes (fun k=>w4.heap.size≤k∧k<(Lib.bytesWorld w6 5 tx).heap.size) (Lib.bytesWorld w6 5 tx) [.slice (some ⟨w6.heap.size,0,none⟩) tx.size (grownCap w6 tx.size 0 5)] (sText xs):=rBytes_stays.to (Keeps.mono fun k hk=>⟨by omega,hk.2⟩) hrc
    have hr7':rBytes (fun k=>w4.heap.size≤k∧k<(Lib.bytesWorld w6 5 tx).heap.size) (Lib.bytesWorld w6 5 tx) _ (rootsB xr):=rBytes_stays.to (Keeps.mono fun k hk=>⟨by omega,by have:=hBc.size;omega⟩) (bytes_below hr7 hBc)
    refine hK.out _ _ hD7 ?_
    clear hK hrc hBc hr7 cv
    generalize Lib.bytesWorld w6 5 tx=w7 at *
    refine fr_op [7] (by kernel_rfl) (by simp) ?_;intro jj hjj;simp only[List.mem_cons,List.not_mem_nil,or_false] at hjj;subst hjj;refine⟨_,rfl,rfl,fun K hK=>?_⟩
    go_wp2
    obtain⟨hoL,hcL,hD8⟩:=lit_two hD7 hr6' hr7'
    refine hK.out _ _ hD8 ?_
    clear hK
    have HcL:=zZ hcL
    have HD8:=zZ hD8
    clear hcL hr6' hr7' HSF
    have hH:=HD8.out
    (refine fr_yes 8 (v:=?_) rfl (by kernel_rfl) rfl ?_ hH ?_;rotate_left;(focus ((intro W hW;go_simp) <;> with_reducible rfl));simp only[Act.put,zY,zX,zQ])
    refine fr_done (by kernel_rfl) ?_
    go_wp2
    go_meet
    case rel=>exact⟨_,_,rfl,hoL,HcL,HD8⟩
  case rest=>
   rename World=>wx
   obtain⟨gL,ys,rfl,hoL,HcL,HDx⟩:=hcut
   have b1:=(P3.out.to HDx.out).cell (j:=1) rfl
   have HoL:=zZ hoL
   clear hoL hK3
   generalize hMo:xo.length=M1 at *
   go_wp2
   clear b1
   go_loopw [4,25] (fun v iv wr=>∃ (i:Nat) (zs:List Value),i≤M1∧iv=.int .i64 (i:Int)∧Hid (wr.ownsRow w4.heap.size 29 1 v (i+2) zs)∧Hid (Chunks 1 (rBytes (fun k=>k<wr.heap.size∧some k≠v.ownBlock) wr) zs ((partsG (xs,xo,xr)).take (i+2)))∧Hid (Below w4.heap.size w4 wr)) (fun _ iv _=>M1 - (intOf iv).toNat)
   case atStart=>exact⟨0,ys,by omega,rfl,HoL,HcL,HDx⟩
   case round=>
    rename World=>wr
    obtain⟨i,zs,hi',rfl,hown,hch,hB⟩:=hrel
    have hsr:=hB.out.size
    obtain⟨AL,cL,hvL,-⟩:=own_slice hown.out
    subst hvL
    by_cases hin:i<M1
    ·obtain⟨o,ho⟩:∃ o,xo[i]?=some o:=⟨_,zV (by omega)⟩
     have hom:o∈xo:=List.mem_of_getElem? ho
     have htk:=parts_at (c:=(xs,xo,xr)) ho
     have hby:∀ y∈objB xs o,y<256:=HPb.out _ (by rw[partsG];simp only[List.mem_cons];exact .inr (.inr (List.mem_map.2 ⟨o,hom,rfl⟩)))
     obtain⟨bo,offo,F,fc,hBe,hbo,x0,x1,x2,hov,-,-⟩:=ob_at (obs_below hB.out Hgo.out) ho
     subst hBe
     have hBa:Below wr.heap.size wr (wr.alloc (.cells #[.int .i64 o.1,.int .i64 o.2.1,.slice F o.2.2.length fc] 50)):=(zA _ wr).alloc (zW _) _
     have pa:=Blk.new wr 50 [.int .i64 o.1,.int .i64 o.2.1,.slice F o.2.2.length fc]
     have hB4a:=hB.out.trans (hBa.mono hsr)
     have T5:=zZ (objPart_any A1 F xs.length c1 o.2.2.length fc (xs,xo,xr) o _ Hc.out hom (sch_below hB4a Hgs.out) (vals_below hBa hov))
     have b0:=(P3.out.to hB4a).cell (j:=0) rfl
     have q0:=pa.cell (j:=0) rfl
     have q1:=pa.cell (j:=1) rfl
     have q2:=pa.cell (j:=2) rfl
     have HBa:=zZ hBa
     have Htk:=zZ htk
     have Hby:=zZ hby
     have hil:(i:Int)<(M1:Int):=by omega
     have hi0:(0:Int)≤(i:Int):=by omega
     have Hin:=zZ hin
     clear ho hom htk hby hov hBa pa hB4a hbo
     generalize objB xs o=ob at *
     go_wp2_with fail
     generalize wr.alloc (.cells #[.int .i64 o.1,.int .i64 o.2.1,.slice F o.2.2.length fc] 50)=wo at *
     refine T5.out.mono ?_
     rintro r w5 ⟨v5,rfl,hv5,hB5⟩
     have hso:=HBa.out.size
     obtain⟨A5,c5,rfl,hr5⟩:=bytes_own hv5 Hby.out
     have hr5':rBytes (fun k=>wr.heap.size≤k∧k<w5.heap.size) w5 _ ob:=rBytes_stays.to (Keeps.mono fun k hk=>⟨by omega,hk.2⟩) hr5
     have hB5w:=HBa.out.trans (hB5.mono hso)
     obtain⟨hown6,hrd6,hB6,hch6⟩:=row_step (t:=29) rBytes_stays hB.out hown.out hch.out hB5w hr5' rfl
     have hs6:=hB6.size
     have Hch6:=zZ hch6
     have HB6:=zZ hB6
     clear T5 hr5 hr5' hv5 hB5 hB5w hch6 hB6 x0 x1 x2 q0 q1 q2 b0
     go_wp2_with (first
      | (at_builtin;refine wpList_apps rfl (.tmp 29) (.tmp 34) 56 rfl w4.heap.size 29 i0 (.slice none 0 0) 1 24 Tryz.underlying56 hi hz0 hz1 hz2 rfl (by omega) _ (i+2) zs rfl hown6 (some ⟨w5.heap.size,0,none⟩) 1 1 [.slice A5 ob.length c5] rfl rfl hrd6 (by simp[Value.oneCell']) (by simp only[maxLen];omega) (by omega) hs6 ?_;intro v7 w7 hown7 hg7 hv7)
      | fail)
     go_roundw
     case rel=>
      refine⟨i+1,_,Hin.out,by have:=Hin.out;go_num,zZ (by rw[show i+1+2=i+2+1 by omega];exact hown7),zZ ?_,zZ (HB6.out.grown hg7 hs6 (fun k hk=>(hown6.lt k hk).1))⟩
      rw[Htk.out]
      exact Hch6.out.imp (fun cs a h=>rBytes_stays.to (Keeps.grown hg7 hv7) h)
     case measure=>have:=Hin.out;simp[intOf];omega
    ·have hiM:i=M1:=by omega
     subst hiM
     have hall:(partsG (xs,xo,xr)).take (i+2)=partsG (xs,xo,xr):=List.take_of_length_le (by rw[HPl.out];omega)
     rw[hall] at hch
     have hpts:=own_rSlice rBytes_stays hown.out HPl.out hch.out
     have Hpts:=zZ hpts
     have HBw:=zZ (H3.out.trans (hB.out.mono H3.out.size))
     have HPl2:=zZ (show (partsG (xs,xo,xr)).length≤10 by rw[HPl.out];omega)
     have h2n:i+2≤10:=by omega
     clear hpts hall hown hch hB hMo P3 Hgo hi' hin hM8 hsr
     have hil:¬ ((i:Int)<(i:Int)):=by omega
     go_wp2
     go_loopw [39] (fun jv w'=>∃ j:Nat,j≤i+2∧jv=.int .i64 (j:Int)∧w'=wr∧Hid (∀ p∈(partsG (xs,xo,xr)).take j,p.length≤200)) (fun jv _=>i+2 - (intOf jv).toNat)
     case atStart=>exact⟨0,by omega,rfl,rfl,zZ (by simp)⟩
     case round=>
      obtain⟨j,hj',rfl,hw,hsh⟩:=hrel
      replace hw:=hw.symm
      subst hw
      by_cases hjn:j<i+2
      ·obtain⟨p,hp⟩:∃ p,(partsG (xs,xo,xr))[j]?=some p:=⟨_,zV (by rw[HPl.out];exact hjn)⟩
       obtain⟨b,off,A9,c9,rfl,hb,x0,-,-,-,-⟩:=pts_at Hpts.out hp
       have Hpm:=zZ (List.mem_of_getElem? hp)
       have Htk:=zZ (take_at hp)
       have hjl:(j:Int)<(i:Int)+2:=by omega
       have hj0:(0:Int)≤(j:Int):=by omega
       have Hjn:=zZ hjn
       clear hp
       have Hc5p:=zZ (fun hl=>Hc5.out p Hpm.out hl)
       have Hpl:=zZ (fun (hl:p.length≤200) q (hq:q∈(partsG (xs,xo,xr)).take (j+1))=>(show q.length≤200 by
        rw[Htk.out] at hq
        rcases List.mem_append.1 hq with hq | hq
        ·exact hsh.out q hq
        ·rw[List.mem_singleton.1 hq];exact hl))
       clear Hpm
       generalize p.length=pn at *
       by_cases hl:pn≤200
       ·have hl':decide ((pn:Int)≤200)=true:=zJ (by omega)
        have Hl:=zZ hl
        clear hl
        go_wp2_with fail
        refine (must_yes 5 _).mono ?_
        rintro r wz ⟨rfl,hwz⟩
        replace hwz:=hwz.symm
        subst hwz
        go_wp2_with fail
        go_roundw
        case rel=>exact⟨j+1,Hjn.out,by have:=Hjn.out;go_num,by trivial,zZ (Hpl.out Hl.out)⟩
        case measure=>have:=Hjn.out;simp[intOf];omega
       ·have hl':decide ((pn:Int)≤200)=false:=zK (by omega)
        have H5:=zZ (Hc5p.out (by omega))
        clear hl
        go_wp2_with fail
        refine (must_no 5 _).mono ?_
        rintro r wz ⟨rfl,hwz⟩
        replace hwz:=hwz.symm
        subst hwz
        unfold Wrong
        go_wp2_with fail
        exact⟨rfl,.inr ⟨by rw[H5.out];decide,by rw[H5.out];rfl⟩,HBw.out⟩
      ·have hjn':¬ ((j:Int)<(i:Int)+2):=by omega
       rw[List.take_of_length_le (by rw[HPl.out];omega)] at hsh
       have H9:=zZ (Hc0.out hsh.out)
       clear hjn
       go_wp2
       go_ret
       exact⟨.inl ⟨H9.out,_,_,_,rfl,by rw[hcg];exact Hpts.out⟩,HBw.out⟩
end Go.Proofs.YtdlkmjfbmenedaaGreatDoor
