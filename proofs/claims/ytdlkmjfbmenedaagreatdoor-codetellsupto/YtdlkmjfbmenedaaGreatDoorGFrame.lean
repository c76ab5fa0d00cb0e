/- The texts FrMem, FrPut, FrGet, Jump, FrAll, FrRows, FrCutPlain, FrBurstPlain, FrFlip in one (as far as the seat has what they speak of); what each proves, and its conditions, stands before it. -/
import Derived.Test.YtdlkmjfbmenedaaGreatDoorGCrc
import Derived.Test.YtdlkmjfbmenedaaGreatDoorGGen
import Derived.Test.YtdlkmjfbmenedaaGreatDoorGBytes
import Derived.Lib.LazyBuf
import Derived.WalkMore
import Derived.ScopeJumps
import Derived.Test.YtdlkmjfbmenedaaGreatDoorAl
set_option maxRecDepth 100000
set_option maxHeartbeats 1000000
namespace Go.Proofs.YtdlkmjfbmenedaaGreatDoor
open Go.RowKit
abbrev rFra:Reader Fra:=rBoth 1 (rInt .i64) rBytes
theorem rFra_stays:Stays rFra:=rBoth_stays (rInt_stays _) rBytes_stays
theorem rFra_open {S:Nat→Prop} {w:World} {cs:List Value} {f:Fra} (h:rFra S w cs f):∃ A c,cs=[.int .i64 f.1,.slice A f.2.length c]∧f.2.length≤c∧c≤maxLen∧(∀ x∈f.2,x<256)∧(Lit.int .i64 f.1).wf=true∧RdIn S w A (u8s f.2):=by
 obtain⟨_,⟨h1,hw⟩,A,c,h2,h3,h4,h5,h6⟩:=h
 refine⟨A,c,?_,h3,h4,h5,hw,h6⟩
 rw[← List.take_append_drop 1 cs,h1,h2]
 rfl
theorem rFra_mk {S:Nat→Prop} {w:World} {f:Fra} {A:Option Addr} {c:Nat} (hc:f.2.length≤c) (hm:c≤maxLen) (hb:∀ x∈f.2,x<256) (hw:(Lit.int .i64 f.1).wf=true) (hr:RdIn S w A (u8s f.2)):rFra S w [.int .i64 f.1,.slice A f.2.length c] f:=
 ⟨rfl,⟨rfl,hw⟩,A,c,rfl,hc,hm,hb,hr⟩
theorem clone_any (A:Option Addr) (c n:Nat) (bs:List Nat) (w:World) (hn:bs.length=n) (hr:Rd w A (u8s bs)) (hlen:n≤140737488355328):
  Calls Tryz.prog 177 #[.slice A n c] w fun e w'=>∃ A' c',e=.returned (.slice A' n c')∧n≤c'∧c'≤maxLen∧RdIn (fun b=>w.heap.size≤b∧b<w'.heap.size) w' A' (u8s bs)∧Below w.heap.size w w':=by
 obtain⟨i0,hi,hz0,hz1,hz2⟩:=info_parts info_u8
 cases A with
 | none=>
  have h0:bs=[]:=by
   rcases hr with h | ⟨_,_,h,_⟩
   ·exact List.eq_nil_of_length_eq_zero (by simpa using congrArg List.length h)
   ·cases h
  subst h0
  obtain rfl:n=0:=by simpa using hn.symm
  have hnil:∀ W:World,(binOp .eql 29 (.slice none 0 c) (.slice none 0 0)).run Tryz.prog W=.ok (.bool true) W:=fun W=>run_eql_slice_nil W _ _ _ _ _ Tryz.underlying29
  go_enter Tryz.func177,Tryz.ntmps177
  go_wp2
  go_ret
  exact⟨none,0,rfl,zW _,Nat.zero_le _,.inl rfl,zA _ _⟩
 | some ad=>
  have hown:(w.alloc (.cells #[] 5)).ownsRow w.heap.size 5 1 (.slice (some ⟨w.heap.size,0,none⟩) 0 0) 0 []:=World.ownsRow_made w #[] 0 (zW _) (by simp[maxLen]) rfl
  have hB0:Below w.heap.size w (w.alloc (.cells #[] 5)):=(zA _ w).alloc (zW _) _
  have hr0:=hr.below hB0
  have hnil:∀ W:World,(binOp .eql 29 (.slice (some ad) n c) (.slice none 0 0)).run Tryz.prog W=.ok (.bool false) W:=fun W=>run_eql_slice_nil W _ _ _ _ _ Tryz.underlying29
  go_enter Tryz.func177,Tryz.ntmps177
  go_wp2_with (first
   | (at_builtin;refine wpList_app rfl (.tmp 5) (.tmp 6) 29 rfl w.heap.size 5 i0 (.int .u8 0) 1 Tryz.underlying29 hi hz0 hz1 hz2 rfl (.slice (some ⟨w.heap.size,0,none⟩) 0 0) 0 [] rfl hown (some ad) n c (u8s bs) rfl (by rw[u8s_length,hn]) hr0 (u8s_one _) (by simp only[maxLen];omega) (by omega) (by simp) ?_;intro v3 w3 hown3 hg3 _;simp only[Nat.zero_add,List.nil_append] at hown3)
   | fail)
  go_ret
  have hB:Below w.heap.size w w3:=hB0.grown hg3 (by simp) (fun k hk=>by simp[Value.ownBlock] at hk;omega)
  rcases hown3.2 with⟨rfl,h0⟩ | ⟨g,cap,cur,rfl,hgb,hgc,hnc,hm,_⟩
  ·subst h0
   exact⟨none,0,rfl,zW _,Nat.zero_le _,.inl (List.eq_nil_of_length_eq_zero (by rw[u8s_length,hn])),hB⟩
  ·refine⟨some ⟨g,0,none⟩,cap,rfl,hnc,hm,?_,hB⟩
   rcases Rd.own hown3 with h | ⟨b,off,e,hb,hc⟩
   ·exact .inl h
   ·injection e with e
    injection e with e1 e2
    subst e1 e2
    exact .inr ⟨g,0,rfl,⟨hgb,hb⟩,hc⟩
theorem put_ok (k:Nat) (A:Option Addr) (n c:Nat) (bs:List Nat) (w:World) (hk:k<256) (hn:bs.length=n) (hn2:n<256) (hb:∀ x∈bs,x<256) (hr:Rd w A (u8s bs)):
  Calls Tryz.prog 69 #[.agg #[.int .i64 (k:Int),.slice A n c]] w fun e w'=>∃ g cap,e=.returned (.tuple #[.slice (some ⟨g,0,none⟩) (n+10) cap,.int .i64 0])∧n+10≤cap∧w.heap.size≤g∧g<w'.heap.size∧Rd w' (some ⟨g,0,none⟩) (u8s (putL k bs))∧Below w.heap.size w w':=by
 have hk0:decide ((k:Int)<0)=false:=by rw[decide_eq_false_iff_not];omega
 have hk1:decide ((255:Int)<(k:Int))=false:=by rw[decide_eq_false_iff_not];omega
 have hk2:decide ((255:Int)<(n:Int))=false:=by rw[decide_eq_false_iff_not];omega
 have hk3:(k:Int) % 256=(k:Int):=by omega
 have hk4:(n:Int) % 256=(n:Int):=by omega
 have hB0:Below w.heap.size w ((w.alloc (.cells #[.int .i64 (k:Int),.slice A n c] 88)).alloc (.cells #[.int .u8 (k:Int),.int .u8 (n:Int)] 5)):=((zA _ w).alloc (zW _) _).alloc (by simp) _
 have hr0:=hr.below hB0
 have hlit:Rd ((w.alloc (.cells #[.int .i64 (k:Int),.slice A n c] 88)).alloc (.cells #[.int .u8 (k:Int),.int .u8 (n:Int)] 5)) (some ⟨w.heap.size+1,0,none⟩) (u8s [k,n]):=by
  have:=lit_rd (w.alloc (.cells #[.int .i64 (k:Int),.slice A n c] 88)) [k,n]
  rw[show (w.alloc (.cells #[.int .i64 (k:Int),.slice A n c] 88)).heap.size=w.heap.size+1 by simp] at this
  exact this
 have hbx:=(Blk.new w 88 [.int .i64 (k:Int),.slice A n c]).alloc (.cells #[.int .u8 (k:Int),.int .u8 (n:Int)] 5)
 have hcell:=hbx.cell (j:=1) rfl
 have P1:=zZ (fun (W:World) (a:Option Addr) (h:Rd W a (u8s [k,n]))=>seal_form a 2 2 [k,n] W rfl (by intro x hx;simp at hx;omega) h (by omega))
 have P2:=zZ (fun (W:World) (h:Rd W A (u8s bs))=>seal_form A c n bs W hn hb h (by omega))
 have hput:putL k bs=sealL [k,n]++sealL bs:=by unfold putL;rw[hn]
 have hl1:(sealL [k,n]).length=6:=head_length k n
 have hl2:(sealL bs).length=n+4:=by rw[sealL_length,hn]
 have P3:=zZ (fun (W:World) (G a b c1 c2:Nat) (h0:G<W.heap.size) (h1:Rd W (some ⟨a,0,none⟩) (u8s (sealL [k,n]))) (h2:Rd W (some ⟨b,0,none⟩) (u8s (sealL bs))) (h3:W.cell? ⟨G,0,none⟩=some (.slice (some ⟨a,0,none⟩) 6 c1)) (h4:W.cell? ⟨G,1,none⟩=some (.slice (some ⟨b,0,none⟩) (n+4) c2))=>
  concat2_any G (some ⟨a,0,none⟩) (some ⟨b,0,none⟩) 6 c1 (n+4) c2 (sealL [k,n]) (sealL bs) W hl1 hl2 (by omega) (by omega) h1 h2 h0 h3 h4)
 have hl3:(sealL [k,n]++sealL bs).length=n+10:=by rw[List.length_append,hl1,hl2];omega
 rw[hl3] at P3
 rw[hput]
 generalize sealL [k,n]=s1 at *
 generalize sealL bs=s2 at *
 have Hl3:=zZ hl3
 have Hcell:=zZ hcell
 clear hl3 hput hl1 hl2 hbx hcell
 go_enter Tryz.func69,Tryz.ntmps69
 go_wp2_with fail
 refine sch_start [(0,true),(2,true),(3,true),(1,false),(4,false),(5,false),(6,false),(7,true),(8,true)]
  (fun W=>W.cell? ⟨w.heap.size,1,none⟩=some (.slice A n c)) (by kernel_rfl) rfl (by kernel_rfl) (fun _ _ _ _ _ h=>h) Hcell.out (fun hH=>?_)
 repeat (first | (refine sch_yes (v:=?_) rfl rfl ?_ hH ?_;rotate_left;(focus ((intro W hW;go_simp) <;> with_reducible rfl));simp only[Act.put,zY,zX,zQ]) | (refine sch_no rfl rfl hH ?_;simp only[Act.put,zY,zX,zQ]))
 refine sch_call rfl rfl (fun K hK=>?_)
 go_wp2_with (go_at_call 98;refine (P1.out _ _ ?_).mono ?_;exact hlit;rintro e w1 ⟨g1,cap1,rfl,hcap1,hg1,hgl1,hrs1,hB1⟩)
 have hB1':Below w.heap.size w w1:=hB0.drew.trans (hB1.mono hB0.size)
 have hc1:w1.cell? ⟨w.heap.size,1,none⟩=some (.slice A n c):=(hB1.cell (p:=⟨w.heap.size,1,none⟩) (by simp;omega)).trans Hcell.out
 have hr1:Rd w1 A (u8s bs):=hr.below hB1'
 refine hK.out _ _ hc1 ?_
 clear hK hB1 hB0 hH Hcell hr0 hlit
 have hH:=hc1
 repeat (first | (refine sch_yes (v:=?_) rfl rfl ?_ hH ?_;rotate_left;(focus ((intro W hW;go_simp) <;> with_reducible rfl));simp only[Act.put,zY,zX,zQ]) | (refine sch_no rfl rfl hH ?_;simp only[Act.put,zY,zX,zQ]))
 refine sch_call rfl rfl (fun K hK=>?_)
 go_wp2_with (go_at_call 98;refine (P2.out _ hr1).mono ?_;rintro e w2 ⟨g2,cap2,rfl,hcap2,hg2,hgl2,hrs2,hB2⟩)
 have hB2':Below w.heap.size w w2:=hB1'.trans (hB2.mono hB1'.size)
 have hgw:w.heap.size<w1.heap.size:=by have:=hg1;simp at this;omega
 have hc2:w2.cell? ⟨w.heap.size,1,none⟩=some (.slice A n c):=(hB2.cell (p:=⟨w.heap.size,1,none⟩) hgw).trans hc1
 have hrs1':=hrs1.below hB2
 have hgw2:w.heap.size<w2.heap.size:=Nat.lt_of_lt_of_le hgw hB2.size
 refine hK.out _ _ hc2 ?_
 clear hK hB2 hB1' hH hc1 hr1 hrs1 hr P1 P2 hg1 hgl1 hg2 hgl2 hgw
 have hH:=hc2
 have hbl:=Blk.new w2 29 [.slice (some ⟨g1,0,none⟩) 6 cap1,.slice (some ⟨g2,0,none⟩) (n+4) cap2]
 have hA:Below w2.heap.size w2 (w2.alloc (.cells #[.slice (some ⟨g1,0,none⟩) 6 cap1,.slice (some ⟨g2,0,none⟩) (n+4) cap2] 29)):=(zA _ w2).alloc (zW _) _
 have hc3:=(hA.cell (p:=⟨w.heap.size,1,none⟩) hgw2).trans hc2
 have hB3':=hB2'.trans (hA.mono hB2'.size)
 have C3:=zZ (P3.out _ w2.heap.size g1 g2 cap1 cap2 (by simp) (hrs1'.below hA) (hrs2.below hA) (hbl.cell (j:=0) rfl) (hbl.cell (j:=1) rfl))
 have Hc3:=zZ hc3
 clear hc3 hbl P3
 refine sch_call rfl rfl (fun K hK=>?_)
 go_wp2_with fail
 refine hK.out _ _ Hc3.out ?_
 clear hK hH
 refine sch_call rfl rfl (fun K hK=>?_)
 go_wp2_with (go_at_call 97;refine C3.out.mono ?_;rintro e w4 ⟨v,rfl,hown,hB4⟩)
 have hc4:w4.cell? ⟨w.heap.size,1,none⟩=some (.slice A n c):=(hB4.cell (p:=⟨w.heap.size,1,none⟩) (by simp;omega)).trans Hc3.out
 have hB4':=hB3'.trans (hB4.mono hB3'.size)
 obtain⟨g,cap,rfl,hg,hlt,hcap,_⟩:=own_open hown (by omega)
 refine hK.out _ _ hc4 ?_
 clear hK
 have hH:=hc4
 repeat (first | (refine sch_yes (v:=?_) rfl rfl ?_ hH ?_;rotate_left;(focus ((intro W hW;go_simp) <;> with_reducible rfl));simp only[Act.put,zY,zX,zQ]) | (refine sch_no rfl rfl hH ?_;simp only[Act.put,zY,zX,zQ]))
 refine sch_done ?_
 go_wp2
 go_ret2
 exact⟨g,cap,rfl,hcap,Nat.le_trans hB3'.size hg,hlt,Rd.own hown,hB4'⟩
theorem info_fr:(Tryz.prog.info? 88).map (fun i=>(i.zero,i.size))=some (some (.agg #[.int .i64 0,.slice none 0 0]),2):=by kernel_rfl
theorem get_any (A:Option Addr) (c n:Nat) (bs:List Nat) (w:World) (hn:bs.length=n) (hc:n≤c) (hb:∀ x∈bs,x<256) (hr:Rd w A (u8s bs)) (hlen:n≤140737488355328):
  Calls Tryz.prog 145 #[.slice A n c] w fun e w'=>∃ A' c',e=.returned (.tuple #[.agg #[.int .i64 (getF bs).1,.slice A' (getF bs).2.length c'],.int .i64 (getN bs:Int),.int .i64 (getE bs:Int)])∧(getF bs).2.length≤c'∧c'≤maxLen∧RdIn (fun b=>w.heap.size≤b∧b<w'.heap.size) w' A' (u8s (getF bs).2)∧Below w.heap.size w w':=by
 obtain⟨hz,hsz⟩:=zero_of_info info_fr
 have HE:=zZ (rfl:getE bs=getE bs)
 have HF:=zZ (rfl:getF bs=getF bs)
 have HN:=zZ (rfl:getN bs=getN bs)
 generalize hE:getE bs=E at *
 generalize hF:getF bs=F at *
 generalize hN:getN bs=N at *
 have hbad:E≠0→F=(0,[])∧N=0:=fun h=>by subst hE hF hN;exact get_bad h
 clear HE HF HN
 have Hbad:=zZ hbad
 clear hbad
 by_cases h6:n<6
 ·obtain rfl:E=2:=by rw[← hE];exact getE_short (by omega)
  have h1:decide ((n:Int)<6)=true:=by rw[decide_eq_true_eq];omega
  clear hE hF hN
  go_enter Tryz.func145,Tryz.ntmps145
  go_wp2
  refine ret_cell2 rfl (Blk.new w 88 [.int .i64 0,.slice none 0 0]) Tryz.underlying88 rfl hsz rfl rfl ?_
  obtain⟨rfl,rfl⟩:=Hbad.out (by omega)
  exact⟨none,0,rfl,zW _,Nat.zero_le _,.inl rfl,(zA _ w).alloc (zW _) _⟩
 ·obtain⟨b,off,rfl,hblt,hcs⟩:=hr.at (k:=0) (by simp;omega)
  have HE:=zZ hE
  have HF:=zZ hF
  have HN:=zZ hN
  clear hE hF hN
  have h1:decide ((n:Int)<6)=false:=by rw[decide_eq_false_iff_not];omega
  have h2:6≤c:=by omega
  have h2':(6:Int)≤(c:Int):=by omega
  have hB0:Below w.heap.size w (w.alloc (.cells #[.int .i64 0,.slice none 0 0] 88)):=(zA _ w).alloc (zW _) _
  have hblk:=Blk.new w 88 [.int .i64 0,.slice none 0 0]
  have G1:=good_any (some ⟨b,off,none⟩) 6 6 (bs.take 6) _ (by rw[List.length_take];omega) (by omega) (fun x hx=>hb x (List.mem_of_mem_take hx)) (by rw[← u8s_take];exact (hr.below hB0).take 6) (by omega)
  have HG1:=zZ G1
  clear G1
  go_enter Tryz.func145,Tryz.ntmps145
  go_wp2_with fail
  refine HG1.out.mono ?_
  rintro e w1 ⟨rfl,hB1⟩
  clear HG1
  have hblk1:=hblk.below hblk.lt hB1
  have hB1':Below w.heap.size w w1:=hB0.trans (hB1.mono hB0.size)
  clear hB1 hB0 hblk
  have hrw1:=(hblk1.set 0 (.int .i64 0)).set 1 (.slice none 0 0)
  have hBr1:=(hB1'.setCell (p:=⟨w.heap.size,0,none⟩) (zW w.heap.size) (.int .i64 0)).setCell (p:=⟨w.heap.size,1,none⟩) (zW w.heap.size) (.slice none 0 0)
  have hc0:=hblk1.cell (j:=0) rfl
  have hc1:=hblk1.cell (j:=1) rfl
  have hf0:=hblk1.frozen 0
  have hf1:=hblk1.frozen 1
  cases hgd:goodL (bs.take 6) with
  | false=>
   obtain rfl:E=3:=by rw[← HE.out];exact getE_head (by omega) hgd
   go_wp2
   refine ret_cell2 rfl hrw1 Tryz.underlying88 rfl hsz rfl rfl ?_
   obtain⟨rfl,rfl⟩:=Hbad.out (by omega)
   exact⟨none,0,rfl,zW _,Nat.zero_le _,.inl rfl,hBr1⟩
  | true=>
   have hr1:=hr.below hB1'
   obtain⟨_,_,e1,_,hcell1⟩:=u8s_at hr1 (k:=1) (by omega)
   injection e1 with e1
   injection e1 with e1 e2
   subst e1 e2
   have hd1:bs.getD 1 0=bs[1]'(by omega):=by simp[show 1<bs.length by omega]
   rw[← hd1] at hcell1
   have hs256:bs.getD 1 0<256:=by rw[hd1];exact hb _ (List.getElem_mem _)
   have hEc:=fun h:bs.length<bs.getD 1 0+10=>getE_cut (bs:=bs) (by omega) hgd h
   have hEs:=fun (h:bs.getD 1 0+10≤bs.length) hg=>getE_sum (bs:=bs) (by omega) hgd h hg
   have hEf:=fun (h:bs.getD 1 0+10≤bs.length) hg=>getE_fine (bs:=bs) (by omega) hgd h hg
   have hfine:=fun h=>get_fine (bs:=bs) h
   rw[HE.out] at hEc hEs hEf hfine
   rw[HF.out,HN.out] at hfine
   have G2:=fun (h:bs.getD 1 0+10≤bs.length)=>good_any (some ⟨b,off+6,none⟩) (bs.getD 1 0+4) (bs.getD 1 0+4) ((bs.drop 6).take (bs.getD 1 0+4)) w1 (by rw[List.length_take,List.length_drop];omega) (by omega) (fun x hx=>hb x (List.mem_of_mem_drop (List.mem_of_mem_take hx))) (by rw[← u8s_take,← u8s_drop];exact (hr1.drop 6).take _) (by omega)
   have HEc:=zZ hEc
   have HEs:=zZ hEs
   have HEf:=zZ hEf
   have Hfine:=zZ hfine
   have HG2:=zZ G2
   clear hEc hEs hEf hfine G2 hd1 hgd
   generalize hsd:bs.getD 1 0=s at *
   by_cases hcut:bs.length<s+10
   ·obtain rfl:E=2:=HEc.out hcut
    have hd2:decide ((n:Int)<6+(s:Int)+4)=true:=by rw[decide_eq_true_eq];omega
    go_wp2
    refine ret_cell2 rfl hrw1 Tryz.underlying88 rfl hsz rfl rfl ?_
    obtain⟨rfl,rfl⟩:=Hbad.out (by omega)
    exact⟨none,0,rfl,zW _,Nat.zero_le _,.inl rfl,hBr1⟩
   ·have hd2:decide ((n:Int)<6+(s:Int)+4)=false:=by rw[decide_eq_false_iff_not];omega
    have h3:s+10≤c:=by omega
    go_wp2_with fail
    simp only[show 6+s+4 - 6=s+4 by omega,show 6+s - 2=s+4 by omega]
    refine (HG2.out (by omega)).mono ?_
    rintro e w2 ⟨rfl,hB2⟩
    have hblk2:=hblk1.below hblk1.lt hB2
    have hg2:w.heap.size<w2.heap.size:=hblk2.lt
    have hB2':Below w.heap.size w w2:=hB1'.trans (hB2.mono hB1'.size)
    clear hc0 hc1 hf0 hf1 hrw1 hBr1 hB2 hblk1 hB1' hcell1 hr1 HG2 HEc
    cases hgb:goodL ((bs.drop 6).take (s+4)) with
    | false=>
     obtain rfl:E=3:=HEs.out (by omega) hgb
     have hrw2:=(hblk2.set 0 (.int .i64 0)).set 1 (.slice none 0 0)
     have hBr2:=(hB2'.setCell (p:=⟨w.heap.size,0,none⟩) (zW w.heap.size) (.int .i64 0)).setCell (p:=⟨w.heap.size,1,none⟩) (zW w.heap.size) (.slice none 0 0)
     have hc0:=hblk2.cell (j:=0) rfl
     have hc1:=hblk2.cell (j:=1) rfl
     have hf0:=hblk2.frozen 0
     have hf1:=hblk2.frozen 1
     go_wp2
     refine ret_cell2 rfl hrw2 Tryz.underlying88 rfl hsz rfl rfl ?_
     obtain⟨rfl,rfl⟩:=Hbad.out (by omega)
     exact⟨none,0,rfl,zW _,Nat.zero_le _,.inl rfl,hBr2⟩
    | true=>
     obtain rfl:E=0:=HEf.out (by omega) hgb
     obtain⟨hF,rfl⟩:=Hfine.out rfl
     have hr2:=hr.below hB2'
     have hlb:((bs.drop 6).take s).length=s:=by rw[List.length_take,List.length_drop];omega
     have C1:=zZ (clone_any (some ⟨b,off+6,none⟩) s s ((bs.drop 6).take s) w2.drew hlb (by rw[← u8s_take,← u8s_drop];exact (hr2.drop 6).take _) (by omega))
     obtain⟨_,_,e1,hb2,hcell0⟩:=u8s_at hr2 (k:=0) (by omega)
     injection e1 with e1
     injection e1 with e1 e2
     subst e1 e2
     have hd0:bs.getD 0 0=bs[0]'(by omega):=by simp[show 0<bs.length by omega]
     rw[← hd0,Nat.add_zero] at hcell0
     have hk0:bs.getD 0 0<256:=by rw[hd0];exact hb _ (List.getElem_mem _)
     have HF2:=zZ hF
     have Hlb:=zZ hlb
     clear hF hd0 hgb HEs HEf Hfine hlb Hbad
     generalize bs.getD 0 0=k0 at *
     generalize (bs.drop 6).take s=body at *
     have hs4:s≤s+4:=by omega
     have hs5:(s:Int)≤(s:Int)+4:=by omega
     have hne:b≠w.heap.size:=by omega
     have hw10:IntKind.i64.wrap (6+(s:Int)+4)=6+(s:Int)+4:=IntWalk.i64_in _ (by omega)
     have hwk:IntKind.i64.wrap (k0:Int)=(k0:Int):=IntWalk.i64_in _ (by omega)
     go_wp2_with fail
     refine sch_start [(0,true),(1,true),(2,true),(3,true),(4,true),(7,true),(5,false),(6,true),(8,false),(9,true),(10,true)]
      (fun W=>W.cell? ⟨b,off,none⟩=some (.int .u8 (k0:Int))) (by kernel_rfl) rfl (by kernel_rfl) (fun _ _ _ _ _ h=>h) hcell0 (fun hH=>?_)
     repeat (first | (refine sch_yes (v:=?_) rfl rfl ?_ hH ?_;rotate_left;(focus ((intro W hW;go_simp) <;> with_reducible rfl));simp only[Act.put,zY,zX,zQ]) | (refine sch_no rfl rfl hH ?_;simp only[Act.put,zY,zX,zQ]))
     refine sch_call rfl rfl (fun K hK=>?_)
     go_wp2_with (go_at_call 177;refine C1.out.mono ?_;rintro e w3 ⟨A',c',rfl,hc',hm',hrd,hB3⟩)
     have hblk3:=Blk.below (w:=w2.drew) hblk2 hg2 hB3
     have hcell3:w3.cell? ⟨b,off,none⟩=some (.int .u8 (k0:Int)):=(hB3.cell (p:=⟨b,off,none⟩) hb2).trans hcell0
     have hB3':Below w.heap.size w w3:=hB2'.drew.trans (hB3.mono hB2'.size)
     refine hK.out _ _ hcell3 ?_
     clear hK hH hblk2 hB3 hcell0 C1
     have hH:=hcell3
     have hrw3:=(hblk3.set 0 (.int .i64 (k0:Int))).set 1 (.slice A' s c')
     have hBr3:=(hB3'.setCell (p:=⟨w.heap.size,0,none⟩) (zW w.heap.size) (.int .i64 (k0:Int))).setCell (p:=⟨w.heap.size,1,none⟩) (zW w.heap.size) (.slice A' s c')
     have hkp:Keeps (fun x=>w2.heap.size≤x∧x<w3.heap.size) (fun x=>w.heap.size≤x∧x<((w3.setCell ⟨w.heap.size,0,none⟩ (.int .i64 (k0:Int))).setCell ⟨w.heap.size,1,none⟩ (.slice A' s c')).heap.size) w3 ((w3.setCell ⟨w.heap.size,0,none⟩ (.int .i64 (k0:Int))).setCell ⟨w.heap.size,1,none⟩ (.slice A' s c')):=fun x ⟨h1,h2⟩=>
      ⟨⟨by omega,by simpa using h2⟩,(heap_setCell_other _ _ x _ (by simp;omega)).trans (heap_setCell_other _ _ x _ (by simp;omega))⟩
     have hrd4:=hrd.keeps hkp
     have hcell4:((w3.setCell ⟨w.heap.size,0,none⟩ (.int .i64 (k0:Int))).setCell ⟨w.heap.size,1,none⟩ (.slice A' s c')).cell? ⟨b,off,none⟩=some (.int .u8 (k0:Int)):=
      (World.cell?_of_block (w:=w3) (a:=⟨b,off,none⟩) ((heap_setCell_other _ _ b _ (by simp;omega)).trans (heap_setCell_other _ _ b _ (by simp;omega)))).trans hcell3
     have hc0:=hblk3.cell (j:=0) rfl
     have hc1:=hblk3.cell (j:=1) rfl
     have hf0:=hblk3.frozen 0
     have hf1:=hblk3.frozen 1
     have Hrd4:=zZ hrd4
     have Hcell4:=zZ hcell4
     clear hrd4 hkp hrd hcell4
     repeat (first | (refine sch_yes (v:=?_) rfl rfl ?_ hH ?_;rotate_left;(focus ((intro W hW;go_simp) <;> with_reducible rfl));simp only[Act.put,zY,zX,zQ]) | (refine sch_no rfl rfl hH ?_;simp only[Act.put,zY,zX,zQ]))
     refine sch_call rfl rfl (fun K hK=>?_)
     go_wp2_with fail
     refine hK.out _ _ Hcell4.out ?_
     clear hK hH
     have hH:=Hcell4.out
     repeat (first | (refine sch_yes (v:=?_) rfl rfl ?_ hH ?_;rotate_left;(focus ((intro W hW;go_simp) <;> with_reducible rfl));simp only[Act.put,zY,zX,zQ]) | (refine sch_no rfl rfl hH ?_;simp only[Act.put,zY,zX,zQ]))
     refine sch_done ?_
     go_wp2
     refine ret_cell2 rfl hrw3 Tryz.underlying88 rfl hsz rfl rfl ?_
     have hF:=HF2.out
     subst hF
     exact⟨A',c',by simp only[Hlb.out];congr 4;go_num,by rw[Hlb.out];exact hc',hm',Hrd4.out,hBr3⟩
end Go.Proofs.YtdlkmjfbmenedaaGreatDoor
namespace Go.Proofs.YtdlkmjfbmenedaaGreatDoor
theorem wp_scope_after {P:Program} {c X:Code} {a:Act} {w:World} {Q:Exit→Act→World→Prop} (l:Nat) (J:Act→World→Prop) (μ:Act→World→Nat) (hf:findLabel (c.seq ((Code.label l).seq X)) l=some (Code.skip.seq X))
  (first:c.wp P (Exit.then J (fun _ _ _=>False)) a w)
  (pass:∀ a w,J a w→X.wp P (Exit.jump l (fun a' w'=>J a' w'∧μ a' w'<μ a w) Q) a w):(Code.scope (c.seq ((Code.label l).seq X))).wp P Q a w:=by
 refine wp_scope_jumps l J μ hf ?_ fun a w hJ=>wp_seq (wp_skip (pass a w hJ))
 have hX:∀ a w,J a w→X.wp P (Exit.jump l J Q) a w:=fun a w hJ=>wp_mono (pass a w hJ) fun e a' w' h=>by
  cases e with
  | goto l'=>exact⟨h.1,h.2.1⟩
  | _=>exact h
 refine wp_seq (wp_mono first fun e a' w' h=>?_)
 cases e with
 | normal=>exact wp_seq (wp_label (hX a' w' h))
 | _=>exact h.elim
end Go.Proofs.YtdlkmjfbmenedaaGreatDoor
namespace Go.Proofs.YtdlkmjfbmenedaaGreatDoor
open Go.RowKit
def lenOf:Value→Nat | .slice _ m _=>m | _=>0
theorem info_fr4:(Tryz.prog.info? 88).map (fun i=>(i.zero,i.size,i.bytes))=some (some (.agg #[.int .i64 0,.slice none 0 0]),2,32):=by kernel_rfl
structure AllAt (w:World) (bs:List Nat) (B:Option Addr) (m d:Nat) (v:Value) (w':World) (bs':List Nat) (pre:List Fra) (xs:List Value):Prop where
 len:bs'.length=m
 cap:m≤d
 room:pre.length+m≤bs.length
 byte:∀ x∈bs',x<256
 rest:Rd w B (u8s bs')
 own:w'.ownsRow w.heap.size 88 2 v pre.length xs
 ahead:Chunks 2 (rFra (fun b=>b<w'.heap.size∧some b≠v.ownBlock) w') xs pre
 all:joinL pre (allL bs')=allL bs
 bel:Below w.heap.size w w'
def AllJ (w:World) (bs:List Nat) (a':Act) (w':World):Prop:=
 ∃ (B:Option Addr) (m d:Nat) (v:Value) (bs':List Nat) (pre:List Fra) (xs:List Value) (u5 u6 u7 u8 u9 u10 u11 u12 u13 u14 u15 u16 u17 u18 u19 u20 u21 u22 u23 u24 u25 u26 u27 u28 u29 u30 u31:Value),a'={ tmps:=#[.slice B m d,undef,.slice none 0 0,.int .i64 0,v,u5,u6,u7,u8,u9,u10,u11,u12,u13,u14,u15,u16,u17,u18,u19,u20,u21,u22,u23,u24,u25,u26,u27,u28,u29,u30,u31],defers:=[] }∧AllAt w bs B m d v w' bs' pre xs
theorem own_slice2 {w:World} {base e size n:Nat} {v:Value} {xs:List Value} (h:w.ownsRow base e size v n xs):∃ A c,v=.slice A n c:=by
 rcases h.2 with⟨rfl,rfl⟩ | ⟨g,cap,cur,rfl,_⟩
 ·exact⟨none,0,rfl⟩
 ·exact⟨_,cap,rfl⟩
theorem all_any (A:Option Addr) (c n:Nat) (bs:List Nat) (w:World) (hn:bs.length=n) (hc:n≤c) (hb:∀ x∈bs,x<256) (hr:Rd w A (u8s bs)) (hlen:n≤1000000000):
  Calls Tryz.prog 111 #[.slice A n c] w fun e w'=>∃ v,e=.returned (.tuple #[v,.int .i64 ((allL bs).1:Int)])∧rSlice 2 rFra (All w') w' [v] (allL bs).2∧Below w.heap.size w w':=by
 have h0:AllAt w bs A n c (.slice none 0 0) w bs [] []:=⟨hn,hc,by simp;omega,hb,hr,World.ownsRow_nil _ _ _ _,Chunks.nil,joinL_nil bs,zA _ _⟩
 obtain⟨hz,hsz⟩:=zero_of_info info_fr
 obtain⟨i0,hi,hz0,hz1,hz2⟩:=info_parts info_fr4
 go_enter Tryz.func111,Tryz.ntmps111
 go_wp2
 refine wp_scope_after 0 (AllJ w bs) (fun a' _=>lenOf (a'.tmps.getD 0 undef)) ?_ ?_ ?_
 ·rfl
 ·go_wp2
  exact⟨_,_,_,_,bs,[],[],_,_,_,_,_,_,_,_,_,_,_,_,_,_,_,_,_,_,_,_,_,_,_,_,_,_,_,rfl,h0⟩
 ·rintro a' w' ⟨B,m,d,v,bs',pre,xs,u5,u6,u7,u8,u9,u10,u11,u12,u13,u14,u15,u16,u17,u18,u19,u20,u21,u22,u23,u24,u25,u26,u27,u28,u29,u30,u31,rfl,H⟩
  clear hr hc hb h0
  obtain⟨hm,hd,hroom,hby,hrd,hown,hch,hall,hB⟩:=H
  by_cases hmz:m=0
  ·subst hmz
   obtain rfl:bs'=[]:=List.eq_nil_of_length_eq_zero hm
   rw[joinL_end] at hall
   have Hall:=zZ hall
   clear hall
   go_wp2
   simp only[Exit.jump]
   go_ret2
   rw[← Hall.out]
   exact⟨v,rfl,own_rSlice rFra_stays hown rfl hch,hB⟩
  ·have hbn:bs'≠[]:=fun h=>hmz (by rw[← hm,h];rfl)
   have hm0:((m:Int) == 0)=false:=by rw[beq_eq_false_iff_ne];omega
   have G:=get_any B d m bs' w' hm hd hby (hrd.below hB) (by omega)
   have hjb:=fun h=>joinL_bad (pre:=pre) hbn h
   have hjs:=fun h=>joinL_step (pre:=pre) hbn h
   have hfb:=getF_byte hby
   have hfl:=getF_len (bs:=bs')
   have hgp:=fun h=>getN_pos (bs:=bs') h
   have hkf:getE bs'=0→(Lit.int .i64 (getF bs').1).wf=true:=fun h=>by
    obtain⟨hf,_⟩:=get_fine h
    rw[hf]
    have:bs'.getD 0 0<256:=by
     have hp:0<bs'.length:=by omega
     simp only[List.getD_eq_getElem?_getD,zV hp,Option.getD_some]
     exact hby _ (List.getElem_mem _)
    generalize bs'.getD 0 0=q at this
    simp[Lit.wf,IntKind.min,IntKind.max,IntKind.signed,IntKind.bits]
    omega
   generalize hE:getE bs'=E at *
   generalize hF:getF bs'=F at *
   generalize hN:getN bs'=N at *
   have Hall:=zZ hall
   have HG:=zZ G
   have Hjb:=zZ hjb
   have Hjs:=zZ hjs
   have Hgp:=zZ hgp
   have Hkf:=zZ hkf
   have Hch:=zZ hch
   clear hall G hjb hjs hgp hE hF hN hkf hch
   go_wp2_with fail
   refine HG.out.mono ?_
   rintro e w1 ⟨A',c',rfl,hc',hm',hrd1,hB1⟩
   clear HG
   by_cases hE:E=0
   ·subst hE
    obtain⟨hN1,hN2⟩:=Hgp.out rfl
    rw[hm] at hN2
    obtain⟨b,off,rfl,hblt,_⟩:=hrd.at (k:=0) (by simp;omega)
    have hA:Below w1.heap.size w1 ((w1.alloc (.cells #[.int .i64 F.1,.slice A' F.2.length c'] 88)).alloc (.cells #[.int .i64 F.1,.slice A' F.2.length c'] 88)):=((zA _ w1).alloc (zW _) _).alloc (by simp) _
    have hB3:Below w'.heap.size w' _:=hB1.trans (hA.mono hB1.size)
    have hbx:Rd ((w1.alloc (.cells #[.int .i64 F.1,.slice A' F.2.length c'] 88)).alloc (.cells #[.int .i64 F.1,.slice A' F.2.length c'] 88)) (some ⟨w1.heap.size+1,0,none⟩) [.int .i64 F.1,.slice A' F.2.length c']:=by
     have:=(Blk.new (w1.alloc (.cells #[.int .i64 F.1,.slice A' F.2.length c'] 88)) 88 [.int .i64 F.1,.slice A' F.2.length c']).rd
     rw[show (w1.alloc (.cells #[.int .i64 F.1,.slice A' F.2.length c'] 88)).heap.size=w1.heap.size+1 by simp] at this
     exact this
    have hown3:=own_below hown hB3
    have hvl:=hown.lt
    have hkn:Keeps (fun x=>w'.heap.size≤x∧x<w1.heap.size) (fun x=>x<((w1.alloc (.cells #[.int .i64 F.1,.slice A' F.2.length c'] 88)).alloc (.cells #[.int .i64 F.1,.slice A' F.2.length c'] 88)).heap.size∧some x≠v.ownBlock) w1 _:=fun x ⟨h1,h2⟩=>
     ⟨⟨Nat.lt_of_lt_of_le h2 hA.size,fun e=>by have:=(hvl x e.symm).2;omega⟩,hA.block x h2⟩
    have hko:Keeps (fun x=>x<w'.heap.size∧some x≠v.ownBlock) (fun x=>x<((w1.alloc (.cells #[.int .i64 F.1,.slice A' F.2.length c'] 88)).alloc (.cells #[.int .i64 F.1,.slice A' F.2.length c'] 88)).heap.size∧some x≠v.ownBlock) w' _:=fun x ⟨h1,h2⟩=>
     ⟨⟨Nat.lt_of_lt_of_le h1 hB3.size,h2⟩,hB3.block x h1⟩
    have hch3:=(Hch.out.imp (fun cs a h=>rFra_stays.to hko h)).append (Chunks.one (size:=2) rfl (rFra_mk (f:=F) hc' hm' hfb (Hkf.out rfl) (hrd1.keeps hkn)))
    have hB3':Below w.heap.size w _:=hB.trans (hB3.mono hB.size)
    have Hch3:=zZ hch3
    have Hjs3:=zZ (Hall.out.symm.trans (Hjs.out rfl)).symm
    clear hch3 hkn hko Hch Hjs Hjb Hgp Hkf hrd1 hB1 hA hown hB3 hB Hall
    have hN3:(N:Int)≤(m:Int):=by omega
    have hN4:(m:Int)≤(d:Int):=by omega
    go_wp2_with (first
     | (at_builtin;refine wpList_apps rfl (.tmp 21) (.tmp 23) 84 rfl w.heap.size 88 i0 (.agg #[.int .i64 0,.slice none 0 0]) 2 32 Tryz.underlying84 hi hz0 hz1 hz2 rfl (by omega) v pre.length xs rfl hown3 (some ⟨w1.heap.size+1,0,none⟩) 1 1 [.int .i64 F.1,.slice A' F.2.length c'] rfl rfl hbx (by simp[Value.oneCell']) (by simp only[maxLen];omega) (by omega) hB3'.size ?_;intro v4 w4 hown4 hg4 hv4)
     | fail)
    all_goals
     go_step3
     have hfin:∀ B4,Rd w B4 (u8s (bs'.drop N))→AllAt w bs B4 (bs'.length - N) (bs'.length - N) v4 w4 (bs'.drop N) (pre++[F]) (xs++[.int .i64 F.1,.slice A' F.2.length c']):=fun B4 hB4=>
      ⟨by rw[List.length_drop],zW _,by rw[List.length_append];simp only[List.length_cons,List.length_nil];omega,fun x hx=>hby x (List.mem_of_mem_drop hx),hB4,by rw[List.length_append];exact hown4,
       Hch3.out.imp (fun cs a h=>rFra_stays.to (Keeps.grown hg4 hv4) h),Hjs3.out,hB3'.grown hg4 hB3'.size (fun k hk=>(hown3.lt k hk).1)⟩
    ·have h4:=hfin (some ⟨b,off,none⟩) (by rw[List.drop_of_length_le (by omega)];exact .inl rfl)
     rw[show bs'.length - N=0 by omega] at h4
     exact⟨rfl,⟨_,_,_,_,_,_,_,_,_,_,_,_,_,_,_,_,_,_,_,_,_,_,_,_,_,_,_,_,_,_,_,_,_,_,rfl,h4⟩,by simp only[lenOf];simp;omega⟩
    ·have h4:=hfin (some ⟨b,off+N,none⟩) (by rw[← u8s_drop];exact hrd.drop N)
     rw[hm] at h4
     exact⟨rfl,⟨_,_,_,_,_,_,_,_,_,_,_,_,_,_,_,_,_,_,_,_,_,_,_,_,_,_,_,_,_,_,_,_,_,_,rfl,h4⟩,by simp only[lenOf];simp;omega⟩
   ·have hE':((E:Int) != 0)=true:=by rw[bne_iff_ne];omega
    go_wp2
    simp only[Exit.jump]
    go_ret2
    rw[← Hall.out,Hjb.out hE]
    exact⟨.slice none 0 0,rfl,⟨none,0,[],rfl,zW _,Nat.zero_le _,.inl rfl,Chunks.nil⟩,(hB.trans (hB1.mono hB.size)).alloc (Nat.le_trans hB.size hB1.size) _⟩
theorem fra_at {S:Nat→Prop} {w:World} {A0:Option Addr} {n c:Nat} {l:List Fra} {i:Nat} {f:Fra} (h:rSlice 2 rFra S w [.slice A0 n c] l) (hi:l[i]?=some f):∃ b off A c',A0=some ⟨b,off,none⟩∧S b∧w.cell? ⟨b,off+i * 2,none⟩=some (.int .i64 f.1)∧w.cell? ⟨b,off+i * 2+1,none⟩=some (.slice A f.2.length c')∧(∀ x∈f.2,x<256)∧(Lit.int .i64 f.1).wf=true∧RdIn S w A (u8s f.2):=by
 obtain⟨A1,c1,xs,hv,hlc,hcm,hr,hl,hch⟩:=h
 obtain⟨A,c',hcs,_,_,hby,hwf,hrd⟩:=rFra_open (hch i f hi)
 have hlt:=(List.getElem?_eq_some_iff.1 hi).1
 have hA:A0=A1:=by simp at hv;exact hv.1
 subst hA
 rcases hr with h | ⟨b,off,rfl,hb,hc⟩
 ·rw[h] at hl;simp at hl;omega
 ·have h0:xs[i * 2]?=some (.int .i64 f.1):=by
   have:=congrArg (fun l:List Value=>l[0]?) hcs
   simpa [List.getElem?_take,List.getElem?_drop] using this
  have h1:xs[i * 2+1]?=some (.slice A f.2.length c'):=by
   have:=congrArg (fun l:List Value=>l[1]?) hcs
   simpa [List.getElem?_take,List.getElem?_drop] using this
  exact⟨b,off,A,c',rfl,hb,hc _ _ h0,by rw[Nat.add_assoc];exact hc _ _ h1,hby,hwf,hrd⟩
theorem rows_len {S:Nat→Prop} {w:World} {A0:Option Addr} {n c:Nat} {l:List Fra} (h:rSlice 2 rFra S w [.slice A0 n c] l):l.length=n∧n≤c∧c≤maxLen:=by
 obtain⟨A1,c1,xs,hv,hlc,hcm,_⟩:=h
 simp at hv
 omega
def PutSays (k:Int) (bs:List Nat) (w':World) (B:Option Addr) (m cap E:Nat):Prop:=
 (0≤k∧k≤255∧bs.length≤255∧E=0∧m=bs.length+10∧m≤cap∧Rd w' B (u8s (putL k.toNat bs)))∨(¬ (0≤k∧k≤255∧bs.length≤255)∧E=1∧B=none∧m=0∧cap=0)
end Go.Proofs.YtdlkmjfbmenedaaGreatDoor
namespace Go.Proofs.YtdlkmjfbmenedaaGreatDoor
end Go.Proofs.YtdlkmjfbmenedaaGreatDoor
