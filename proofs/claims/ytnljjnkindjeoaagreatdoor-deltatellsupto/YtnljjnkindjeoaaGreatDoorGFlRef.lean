/- The texts Held, FlHeld, FlRef1, VaRef, FrRef, FlRef2, FlGuess, FrRefAll, FlRef3, FlRef4, VaSame, VaRefAll in one (as far as the seat has what they speak of); what each proves, and its conditions, stands before it. -/
import Derived.Test.YtnljjnkindjeoaaGreatDoorGGen
import Derived.Test.YtnljjnkindjeoaaGreatDoorGFlow
import Derived.Test.YtnljjnkindjeoaaGreatDoorGVari
import Derived.Test.YtnljjnkindjeoaaGreatDoorGFrame
import Derived.Test.YtnljjnkindjeoaaGreatDoorGBytes
import Derived.Deep.QuietTactic
import Derived.BigQuiet
import Derived.Test.YtnljjnkindjeoaaGreatDoorAl
set_option maxRecDepth 100000
set_option maxHeartbeats 2000000
namespace Go.Proofs.YtnljjnkindjeoaaGreatDoor
open Go.RowKit
section
variable {w0 w w' : World} {rs : List (Option Addr × List Value)} {bl : List (Nat × TypeId × List Value)}
end
section
variable {w0 w w' : World} {k : Nat} {f : Flo} {A : Option Addr} {c : Nat}
end
theorem rmay_any (A:Option Addr) (n c:Nat) (f:Flo) (w:World) (h:rPts (All w) w [.slice A n c] f.2):
  Calls Tryz.prog 140 #[.agg #[.int .u32 f.1,.slice A n c]] w fun e w'=>e=.returned (.bool (mayB f))∧Below w.heap.size w w':=by
 obtain⟨hn,hnc,hcm⟩:=pts_len h
 have hcm2:=hcm
 simp only[maxLen] at hcm2
 have hB:Below w.heap.size w (w.alloc (.cells #[.int .u32 f.1,.slice A n c] 143)):=(zA _ w).alloc (zW _) _
 have hbox:=Blk.new w 143 [.int .u32 f.1,.slice A n c]
 have hm:mayB f=(decide (n≤40) && f.2.all fun p=>decide (p.length≤200)):=by rw[mayB,hn]
 have Hm:=zZ hm
 clear hm
 go_enter Tryz.func140,Tryz.ntmps140
 go_wp2
 generalize hWW:w.alloc (.cells #[.int .u32 f.1,.slice A n c] 143)=wb at *
 have hx1:=hbox.cell (j:=1) rfl
 go_loop [3] (fun iv=>∃ i:Nat,i≤n∧iv=.int .i64 (i:Int)∧∀ p∈f.2.take i,p.length≤200) (fun iv=>n - (intOf iv).toNat)
 case atStart=>exact⟨0,by omega,rfl,by simp⟩
 case round=>
  obtain⟨i,hi,rfl,hall⟩:=hrel
  by_cases hin:i<n
  ·obtain⟨p,hli⟩:∃ p,f.2[i]?=some p:=⟨f.2[i],zV (by omega)⟩
   obtain⟨b,off,A1,c1,rfl,hb,hx,_,_,_,_⟩:=pts_at h hli
   have hx':=(hB.cell (p:=⟨b,off+i,none⟩) hb).trans hx
   have hmem:p∈f.2:=List.mem_of_getElem? hli
   have htk:f.2.take (i+1)=f.2.take i++[p]:=by rw[List.take_add_one,hli];rfl
   have Hmem:=zZ hmem
   have Htk:=zZ htk
   have Hall:=zZ hall
   clear hmem htk hall hli
   have hil:(i:Int)<(n:Int):=by omega
   have hi0:(0:Int)≤(i:Int):=by omega
   by_cases hp:200<p.length
   ·have hp':decide ((200:Int)<(p.length:Int))=true:=by simp;omega
    have hr:mayB f=false:=by
     rw[Hm.out,Bool.and_eq_false_iff]
     right
     rw[List.all_eq_false]
     exact⟨p,Hmem.out,by simpa using hp⟩
    have Hr:=zZ hr
    clear hr
    go_wp2
    go_ret
    exact⟨by rw[Hr.out];rfl,hB⟩
   ·have hp':decide ((200:Int)<(p.length:Int))=false:=by simp;omega
    go_wp2
    go_round
    case rel=>
     refine⟨i+1,by omega,by go_num,fun q hq=>?_⟩
     rw[Htk.out] at hq
     rcases List.mem_append.1 hq with hq | hq
     ·exact Hall.out q hq
     ·simp at hq;subst hq;omega
    case measure=>simp[intOf];omega
  ·obtain rfl:i=n:=by omega
   have hl:f.2.all (fun p=>decide (p.length≤200))=true:=by
    rw[List.all_eq_true]
    intro p hp
    rw[decide_eq_true_iff]
    exact hall p (by rw[List.take_of_length_le (by omega)];exact hp)
   rw[hl,Bool.and_true] at Hm
   clear hl hall
   go_wp2
   go_ret
   refine⟨?_,hB⟩
   rw[Hm.out]
   congr 2
   simp
   omega
theorem rput_form (N:Nat) (w:World) (hN:N<18446744073709551616):
  Calls Tryz.prog 65 #[.int .u64 (N:Int)] w fun e w'=>∃ g cap,e=.returned (.slice (some ⟨g,0,none⟩) (vputL N).length cap)∧Rd w' (some ⟨g,0,none⟩) (u8s (vputL N))∧Below w.heap.size w w':=
 (vrput_any N w hN).mono fun e w' ⟨v,he,hown,hb⟩=>by
  obtain⟨g,cap,rfl,hg,hlt,hcap,hc⟩:=own_open hown (putL_pos N)
  exact⟨g,cap,he,Rd.own hown,hb⟩
theorem rput_any (k:Int) (A:Option Addr) (c:Nat) (bs:List Nat) (w:World) (hb:∀ x∈bs,x<256) (hr:Rd w A (u8s bs)):
  Calls Tryz.prog 142 #[.agg #[.int .i64 k,.slice A bs.length c]] w fun e w'=>∃ B m cap E,e=.returned (.tuple #[.slice B m cap,.int .i64 ((E:Nat):Int)])∧PutSays k bs w' B m cap E∧Below w.heap.size w w':=by
 by_cases h:0≤k∧k≤255∧bs.length≤255
 ·obtain⟨h0,h1,h2⟩:=h
  obtain⟨q,rfl⟩:=Int.eq_ofNat_of_zero_le h0
  obtain⟨i0,hi,hz0,hz1,hz2⟩:=info_parts info_u8
  have hk0:decide ((q:Int)<0)=false:=by rw[decide_eq_false_iff_not];omega
  have hk1:decide ((255:Int)<(q:Int))=false:=by rw[decide_eq_false_iff_not];omega
  have hk2:decide ((255:Int)<(bs.length:Int))=false:=by rw[decide_eq_false_iff_not];omega
  have hk3:(q:Int) % 256=(q:Int):=by omega
  have hk4:(bs.length:Int) % 256=(bs.length:Int):=by omega
  have hB0:Below w.heap.size w ((w.alloc (.cells #[.int .i64 (q:Int),.slice A bs.length c] 173)).alloc (.cells #[.int .u8 (q:Int),.int .u8 (bs.length:Int)] 5)):=((zA _ w).alloc (zW _) _).alloc (by simp) _
  have hlit:Rd ((w.alloc (.cells #[.int .i64 (q:Int),.slice A bs.length c] 173)).alloc (.cells #[.int .u8 (q:Int),.int .u8 (bs.length:Int)] 5)) (some ⟨w.heap.size+1,0,none⟩) (u8s [q,bs.length]):=by
   have:=lit_rd (w.alloc (.cells #[.int .i64 (q:Int),.slice A bs.length c] 173)) [q,bs.length]
   rw[show (w.alloc (.cells #[.int .i64 (q:Int),.slice A bs.length c] 173)).heap.size=w.heap.size+1 by simp] at this
   exact this
  have hbx:=(Blk.new w 173 [.int .i64 (q:Int),.slice A bs.length c]).alloc (.cells #[.int .u8 (q:Int),.int .u8 (bs.length:Int)] 5)
  have P1:=zZ (rseal_any (some ⟨w.heap.size+1,0,none⟩) 2 2 [q,bs.length] _ rfl (by intro x hx;simp at hx;omega) hlit (by omega))
  have P2:=zZ (fun (W:World) (h:Rd W A (u8s bs))=>rseal_form A c bs.length bs W rfl hb h (by omega))
  have hput:putL q bs=sealL [q,bs.length]++sealL bs:=rfl
  have hl1:(sealL [q,bs.length]).length=6:=head_length q bs.length
  have hl2:(u8s (sealL bs)).length=bs.length+4:=by rw[u8s_length,sealL_length]
  have hap:u8s (putL q bs)=u8s (sealL [q,bs.length])++u8s (sealL bs):=by rw[hput,u8s_append]
  have hxo:=u8s_one (sealL bs)
  rw[hl1] at P1
  have Hap:=zZ hap
  clear hap hput hl1
  go_enter Tryz.func142,Tryz.ntmps142
  go_wp2_with fail
  refine P1.out.mono ?_
  rintro e w1 ⟨v1,rfl,hown1,hB1⟩
  have hB1':=hB0.trans (hB1.mono hB0.size)
  have hbx1:=hbx.below hbx.lt hB1
  have hc1:=hbx1.cell (j:=1) rfl
  have hown1':=own_mono hown1 hB0.size
  clear P1 hbx hB1 hlit hown1 hB0 hbx1
  generalize u8s (sealL [q,bs.length])=ps1 at *
  generalize u8s (sealL bs)=ps2 at *
  go_wp2_with fail
  refine (P2.out _ (hr.below hB1')).mono ?_
  rintro e w2 ⟨g2,cap2,rfl,hrs2,hB2⟩
  have hB2':=hB1'.trans (hB2.mono hB1'.size)
  have hown2:=own_below hown1' hB2
  go_wp2_with (first
   | (at_builtin;refine wpList_app rfl (.tmp 28) (.tmp 31) 98 rfl w.heap.size 5 i0 (.int .u8 0) 1 Tryz.underlying98 hi hz0 hz1 hz2 rfl _ 6 ps1 rfl hown2 (some ⟨g2,0,none⟩) (bs.length+4) cap2 ps2 rfl hl2 hrs2 hxo (by simp only[maxLen];omega) (by omega) hB2'.size ?_;intro v3 w3 hown3 hg3 _;obtain⟨A3,c3,hv3e,hc3,hrd3,_⟩:=own_slice hown3;subst hv3e)
   | fail)
  go_ret2
  refine⟨A3,6+(bs.length+4),c3,0,rfl,.inl ⟨h0,h1,h2,rfl,by omega,hc3,?_⟩,hB2'.grown hg3 hB2'.size (fun k hk=>(hown2.lt k hk).1)⟩
  rw[show ((q:Int)).toNat=q by omega,Hap.out]
  exact hrd3
 ·have hor:decide (k<0)=true∨(decide (k<0)=false∧decide (255<k)=true)∨(decide (k<0)=false∧decide (255<k)=false∧decide ((255:Int)<(bs.length:Int))=true):=by
   simp only[decide_eq_true_eq,decide_eq_false_iff_not];omega
  rcases hor with h0 | ⟨h0,h1⟩ | ⟨h0,h1,h2⟩
  all_goals
   go_enter Tryz.func142,Tryz.ntmps142
   go_wp2
   go_ret2
   exact⟨none,0,0,1,rfl,.inr ⟨h,rfl,rfl,rfl,rfl⟩,(zA _ w).alloc (zW _) _⟩
theorem fr_step2 {w wr w3:World} {v:Value} {k B:Nat} {xs:List Value} {pre:List Fra} {F:Fra} {A3:Option Addr} {c3:Nat}
  (hB:Below B w wr) (hown:wr.ownsRow B 173 2 v k xs) (hch:Chunks 2 (rFra (fun b=>b<wr.heap.size∧some b≠v.ownBlock) wr) xs pre) (hBl:B≤wr.heap.size)
  (hB3:Below wr.heap.size wr w3) (hrd:RdIn (fun b=>b<w3.heap.size∧some b≠v.ownBlock) w3 A3 (u8s F.2)) (hc:F.2.length≤c3) (hm:c3≤maxLen) (hby:∀ x∈F.2,x<256) (hw:(Lit.int .i64 F.1).wf=true):
  (w3.alloc (.cells #[.int .i64 F.1,.slice A3 F.2.length c3] 173)).ownsRow B 173 2 v k xs∧Rd (w3.alloc (.cells #[.int .i64 F.1,.slice A3 F.2.length c3] 173)) (some ⟨w3.heap.size,0,none⟩) [.int .i64 F.1,.slice A3 F.2.length c3] ∧
  Below B w (w3.alloc (.cells #[.int .i64 F.1,.slice A3 F.2.length c3] 173))∧B≤(w3.alloc (.cells #[.int .i64 F.1,.slice A3 F.2.length c3] 173)).heap.size ∧
  Chunks 2 (rFra (fun b=>b<(w3.alloc (.cells #[.int .i64 F.1,.slice A3 F.2.length c3] 173)).heap.size∧some b≠v.ownBlock) (w3.alloc (.cells #[.int .i64 F.1,.slice A3 F.2.length c3] 173))) (xs++[.int .i64 F.1,.slice A3 F.2.length c3]) (pre++[F]):=by
 have hA:Below w3.heap.size w3 (w3.alloc (.cells #[.int .i64 F.1,.slice A3 F.2.length c3] 173)):=(zA _ w3).alloc (zW _) _
 have hB4:=hB3.trans (hA.mono hB3.size)
 refine⟨own_below hown hB4,(Blk.new w3 173 [.int .i64 F.1,.slice A3 F.2.length c3]).rd,hB.trans (hB4.mono hBl),Nat.le_trans hBl hB4.size,?_⟩
 have hkn:Keeps (fun x=>x<w3.heap.size∧some x≠v.ownBlock) (fun x=>x<(w3.alloc (.cells #[.int .i64 F.1,.slice A3 F.2.length c3] 173)).heap.size∧some x≠v.ownBlock) w3 _:=fun x ⟨h1,h2⟩=>
  ⟨⟨Nat.lt_of_lt_of_le h1 hA.size,h2⟩,hA.block x h1⟩
 have hko:Keeps (fun x=>x<wr.heap.size∧some x≠v.ownBlock) (fun x=>x<(w3.alloc (.cells #[.int .i64 F.1,.slice A3 F.2.length c3] 173)).heap.size∧some x≠v.ownBlock) wr _:=fun x ⟨h1,h2⟩=>
  ⟨⟨Nat.lt_of_lt_of_le h1 hB4.size,h2⟩,hB4.block x h1⟩
 exact (hch.imp (fun cs a h=>rFra_stays.to hko h)).append (Chunks.one (size:=2) rfl (rFra_mk (f:=F) hc hm hby hw (hrd.keeps hkn)))
theorem rput_in (N:Nat) (w:World) (hN:N<18446744073709551616):
  Calls Tryz.prog 65 #[.int .u64 (N:Int)] w fun e w'=>∃ A c,e=.returned (.slice A (vputL N).length c)∧(vputL N).length≤c∧c≤maxLen∧RdIn (fun b=>w.heap.size≤b∧b<w'.heap.size) w' A (u8s (vputL N))∧Below w.heap.size w w':=
 (vrput_any N w hN).mono fun e w' ⟨v,he,hown,hb⟩=>by
  obtain⟨A,c,rfl,h1,h2,h3⟩:=own_in hown
  exact⟨A,c,he,h1,h2,h3,hb⟩
theorem rput_row (N:Nat) (w:World) (hN:N<18446744073709551616):
  Calls Tryz.prog 65 #[.int .u64 (N:Int)] w fun e w'=>∃ A c,e=.returned (.slice A (vputL N).length c)∧w'.ownsRow w.heap.size 5 1 (.slice A (vputL N).length c) (vputL N).length (u8s (vputL N))∧Below w.heap.size w w':=
 (vrput_any N w hN).mono fun e w' ⟨v,he,hown,hb⟩=>by
  obtain⟨A,c,rfl,_⟩:=own_in hown
  exact⟨A,c,he,hown,hb⟩
theorem rframes_any (A:Option Addr) (n c b:Nat) (ps:List (List Nat)) (w:World) (hb:b<4294967296) (h:rPts (All w) w [.slice A n c] ps) (hn40:n≤40) (hp:∀ p∈ps,p.length≤200):
  Calls Tryz.prog 141 #[.agg #[.int .u32 (b:Int),.slice A n c]] w fun e w'=>∃ B d,e=.returned (.slice B (n+2) d)∧rSlice 2 rFra (All w') w' [.slice B (n+2) d] (framesF ((b:Int),ps))∧Below w.heap.size w w':=by
 obtain⟨hn,hnc,hcm⟩:=pts_len h
 have hcm2:=hcm
 simp only[maxLen] at hcm2
 obtain⟨i0,hi,hz0,hz1,hz2⟩:=info_parts info_fr4
 obtain⟨j0,hj,hy0,hy1,hy2⟩:=info_parts info_u8
 have hB0:Below w.heap.size w (w.alloc (.cells #[.int .u32 (b:Int),.slice A n c] 143)):=(zA _ w).alloc (zW _) _
 have hbox:=Blk.new w 143 [.int .u32 (b:Int),.slice A n c]
 have NN:=fun W=>rput_in n W (by omega)
 have NB:=fun W=>rput_in b W (by omega)
 have O1:=fun W=>rput_row 1 W (by omega)
 have OI:=fun (i:Nat) W (h:i<40)=>rput_row i W (by omega)
 have hv1:vputL 1=[1]:=putL_small (by omega)
 have hvb:=vputL_len5 hb
 have hvn:vputL n=[n]:=putL_small (by omega)
 have hhd:headL b n=[1]++vputL b++[n]:=by rw[headL,hv1,hvn]
 have hbb:=vputL_byte b
 have hfr:framesF ((b:Int),ps)=((1:Int),headL b n) :: (partsF 0 ps++[((3:Int),vputL n)]):=by rw[framesF];simp only;rw[hn];rfl
 rw[hfr,hhd,hvn]
 rw[hv1] at O1
 rw[hvn] at NN
 simp only[List.length_cons,List.length_nil,Nat.zero_add] at O1 NN
 have HNB:=zZ NB
 have HNN:=zZ (NN (w.alloc (.cells #[.int .u32 (b:Int),.slice A n c] 143)))
 have HO1:=zZ O1
 have HOI:=zZ OI
 clear hfr hhd hv1 hvn NB NN O1 OI
 generalize vputL b=vb at *
 go_enter Tryz.func141,Tryz.ntmps141
 go_wp2_with fail
 refine HNN.out.mono ?_
 rintro e w1 ⟨Am,cm,rfl,hcm1,hcm3,hrm,hB1⟩
 have hx1:=hbox.below hbox.lt hB1
 have hBw1:=hB0.trans (hB1.mono hB0.size)
 have hrm1:RdIn (All w1) w1 Am (u8s [n]):=hrm.keeps (Keeps.mono fun x hx=>hx.2)
 clear HNN hbox hB0 hB1 hrm
 have hd1:Below w1.heap.size w1 w1.drew:=(zA _ w1).drew
 have hc0:w1.drew.cell? ⟨w.heap.size,0,none⟩=some (.int .u32 (b:Int)):=hx1.cell (j:=0) rfl
 go_wp2_with fail
 refine sch_start [(1,true),(2,true),(3,true),(0,false),(4,false),(5,false),(6,true)]
  (fun W=>W.cell? ⟨w.heap.size,0,none⟩=some (.int .u32 (b:Int))) (by kernel_rfl) rfl (by kernel_rfl) (fun _ _ _ _ _ h=>h) hc0 (fun hH=>?_)
 generalize w1.drew=w2 at *
 have hxl:=hx1.lt
 repeat (first | (refine sch_yes (v:=?_) rfl rfl ?_ hH ?_;rotate_left;(focus ((intro W hW;go_simp) <;> with_reducible rfl));simp only[Act.put,zY,zX,zQ]) | (refine sch_no rfl rfl hH ?_;simp only[Act.put,zY,zX,zQ]))
 refine sch_call rfl rfl (fun K hK=>?_)
 go_wp2_with (go_at_call 65;refine (HO1.out _).mono ?_;rintro e w3 ⟨A3,c3,rfl,hown3,hB3⟩)
 have h13:=hd1.trans (hB3.mono hd1.size)
 refine hK.out _ _ ((h13.cell (p:=⟨w.heap.size,0,none⟩) hxl).trans (hx1.cell (j:=0) rfl)) ?_
 clear hK
 refine sch_call rfl rfl (fun K hK=>?_)
 go_wp2_with (go_at_call 65;refine (HNB.out _).mono ?_;rintro e w4 ⟨A4,c4,rfl,hc4,hm4,hr4,hB4⟩)
 have h14:=h13.trans (hB4.mono h13.size)
 refine hK.out _ _ ((h14.cell (p:=⟨w.heap.size,0,none⟩) hxl).trans (hx1.cell (j:=0) rfl)) ?_
 clear hK
 have hown4:=own_below hown3 hB4
 have hB24:=hB3.trans (hB4.mono hB3.size)
 refine sch_call rfl rfl (fun K hK=>?_)
 refine wp_app (.tmp 12) (.tmp 16) 98 rfl w2.heap.size 5 j0 (.int .u8 0) 1 Tryz.underlying98 hj hy0 hy1 hy2 rfl _ 1 (u8s [1]) rfl hown4 A4 vb.length c4 (u8s vb) rfl (by rw[u8s_length]) (hr4.keeps (S':=All w4) (Keeps.mono fun x hx=>hx.2)) (u8s_one _) (by simp only[maxLen];omega) (by omega) hB24.size ?_
 intro v5 w5 hown5 hg5 _
 have hB25:Below w2.heap.size w2 w5:=hB24.grown hg5 hB24.size (fun k hk=>(hown4.lt k hk).1)
 have h15:=hd1.trans (hB25.mono hd1.size)
 rw[← u8s_append] at hown5
 refine hK.out _ _ ((h15.cell (p:=⟨w.heap.size,0,none⟩) hxl).trans (hx1.cell (j:=0) rfl)) ?_
 clear hK hH
 have hH:=(h15.cell (p:=⟨w.heap.size,0,none⟩) hxl).trans (hx1.cell (j:=0) rfl)
 repeat (first | (refine sch_yes (v:=?_) rfl rfl ?_ hH ?_;rotate_left;(focus ((intro W hW;go_simp) <;> with_reducible rfl));simp only[Act.put,zY,zX,zQ]) | (refine sch_no rfl rfl hH ?_;simp only[Act.put,zY,zX,zQ]))
 refine sch_done ?_
 have hrm5:Rd w5 Am (u8s [n]):=hrm1.keeps (Keeps.below h15)
 clear hH hown3 hown4 hg5 hB24 h13 h14 hB3 hB4 HO1 HNB hr4 hc0
 have hs12:=hd1.size
 go_wp2_with (first
  | (at_builtin;refine wpList_app rfl (.tmp 18) (.tmp 19) 98 rfl w2.heap.size 5 j0 (.int .u8 0) 1 Tryz.underlying98 hj hy0 hy1 hy2 rfl _ (1+vb.length) (u8s ([1]++vb)) rfl hown5 Am 1 cm (u8s [n]) rfl rfl hrm5 (u8s_one _) (by simp only[maxLen];omega) (by omega) hB25.size ?_;intro v6 w6 hown6 hg6 _;have hB26:Below w2.heap.size w2 w6:=hB25.grown hg6 hB25.size (fun k hk=>(hown5.lt k hk).1);rw[← u8s_append] at hown6;have h16:=hd1.trans (hB26.mono hd1.size);have hx6:=hx1.below hxl h16;have hrm6:RdIn (All w6) w6 Am (u8s [n]):=hrm1.keeps (Keeps.below h16);rw[show 1+vb.length+1=([1]++vb++[n]).length by simp;omega] at hown6;generalize hqq:[1]++vb++[n]=hd at hown6;have Hqq:=zZ hqq;clear hqq;obtain⟨A6,c6,rfl,hc6,hm6,hr6⟩:=own_in hown6)
  | fail)
 have hBw6:=hBw1.trans (h16.mono hBw1.size)
 have hs6:w.heap.size<w6.heap.size:=hx6.lt
 have hlb:∀ x∈hd,x<256:=by
  rw[← Hqq.out]
  intro x hx
  simp only[List.mem_append,List.mem_cons,List.not_mem_nil,or_false] at hx
  rcases hx with (rfl | hx) | rfl
  ·omega
  ·exact hbb x hx
  ·omega
 have hownL:=World.ownsRow_lit (base:=w6.heap.size) (e:=173) (size:=2) w6 #[.int .i64 1,.slice A6 hd.length c6] 1 (zW _) (by simp[maxLen]) rfl
 have hchL:Chunks 2 (rFra (fun b=>b<(w6.alloc (.cells #[.int .i64 1,.slice A6 hd.length c6] 173)).heap.size∧some b≠(Value.slice (some ⟨w6.heap.size,0,none⟩) 1 1).ownBlock) (w6.alloc (.cells #[.int .i64 1,.slice A6 hd.length c6] 173))) [.int .i64 1,.slice A6 hd.length c6] [((1:Int),hd)]:=
  Chunks.one (size:=2) rfl (rFra_mk (f:=((1:Int),hd)) hc6 hm6 hlb (show (Lit.int .i64 1).wf=true by decide) (hr6.keeps fun x hx=>⟨⟨by rw[World.size_alloc];omega,by simp[Value.ownBlock];omega⟩,Below.heap_alloc w6 _ x hx.2⟩))
 have hBL:Below w6.heap.size w6 (w6.alloc (.cells #[.int .i64 1,.slice A6 hd.length c6] 173)):=(zA _ w6).alloc (zW _) _
 have HchL:=zZ hchL
 clear hchL hr6 hown5 hown6 hg6 hrm5 hx1 hB25 hB26 h15 h16 hd1
 go_loopw [5,6] (fun v iv wr=>∃ (i:Nat) (xs:List Value),i≤n∧iv=.int .i64 (i:Int)∧wr.ownsRow w6.heap.size 173 2 v (i+1) xs∧Hid (Chunks 2 (rFra (fun b=>b<wr.heap.size∧some b≠v.ownBlock) wr) xs (((1:Int),hd) :: partsF 0 (ps.take i)))∧Below w6.heap.size w6 wr) (fun _ iv _=>n - (intOf iv).toNat)
 case atStart=>exact⟨0,_,by omega,rfl,hownL,HchL,hBL⟩
 case round=>
  obtain⟨i,xs,hile,rfl,hown,Hch,hB⟩:=hrel
  clear HchL hownL hBL
  have x1:=(hx6.below hs6 hB).cell (j:=1) rfl
  by_cases hin:i<n
  ·obtain⟨p,hli⟩:∃ p,ps[i]?=some p:=⟨ps[i],zV (by omega)⟩
   obtain⟨b1,off1,A1,c1,rfl,hb1,hx1,hpc1,hpm1,hpb1,hr1⟩:=pts_at h hli
   have hpl:=hp p (List.mem_of_getElem? hli)
   have htk:partsF 0 (ps.take (i+1))=partsF 0 (ps.take i)++[((2:Int),vputL i++p)]:=by
    rw[List.take_add_one,hli,partsF_append,List.length_take,Nat.min_eq_left (by omega),Nat.zero_add]
    rfl
   have hvl:=vputL_len5 (n:=i) (by omega)
   have hvi:=vputL_byte i
   have HO:=zZ (fun W=>HOI.out i W (by omega))
   have HF:=zZ (fun (W:World) (hW:Below w6.heap.size w6 W)=>And.intro ((hx6.below hs6 hW).cell (j:=1) rfl) (((hBw6.trans (hW.mono hBw6.size)).cell (p:=⟨b1,off1+i,none⟩) hb1).trans hx1))
   have HR:=zZ (fun (W:World) (hW:Below w6.heap.size w6 W)=>(RdIn.rd hr1).below (hBw6.trans (hW.mono hBw6.size)))
   have Htk:=zZ htk
   clear htk hli hx1 hr1
   generalize vputL i=vi at *
   have hil:(i:Int)<(n:Int):=by omega
   have hi0:(0:Int)≤(i:Int):=by omega
   have hBd:=hB.drew
   have hownd:wr.drew.ownsRow w6.heap.size 173 2 _ (i+1) xs:=hown
   have hdd:Below wr.heap.size wr wr.drew:=(zA _ wr).drew
   have hszd:wr.drew.heap.size=wr.heap.size:=rfl
   go_wp2_with fail
   refine sch_start [(0,true),(1,true),(2,true),(4,true),(5,true),(6,true),(7,true),(8,true),(3,false),(9,false),(10,true),(11,false),(12,false),(13,true)]
    (fun W=>Below w6.heap.size w6 W) (by kernel_rfl) rfl (by kernel_rfl) (fun _ _ _ _ _ h=>h) hBd (fun hH=>?_)
   generalize wr.drew=wd at *
   repeat (first | (refine sch_yes (v:=?_) rfl rfl ?_ hH ?_;rotate_left;(focus ((intro W hW;obtain⟨u1,u2⟩:=HF.out W hW;go_simp) <;> with_reducible rfl));simp only[Act.put,zY,zX,zQ]) | (refine sch_no rfl rfl hH ?_;simp only[Act.put,zY,zX,zQ]))
   refine sch_call rfl rfl (fun K hK=>?_)
   go_wp2_with (go_at_call 65;refine (HO.out _).mono ?_;rintro e w7 ⟨A7,c7,rfl,hown7,hB7⟩)
   have h67:=hBd.trans (hB7.mono hBd.size)
   refine hK.out _ _ h67 ?_
   clear hK
   refine sch_call rfl rfl (fun K hK=>?_)
   refine wp_app (.tmp 34) (.tmp 39) 98 rfl wd.heap.size 5 j0 (.int .u8 0) 1 Tryz.underlying98 hj hy0 hy1 hy2 rfl _ vi.length (u8s vi) rfl hown7 A1 p.length c1 (u8s p) rfl (by rw[u8s_length]) (HR.out _ h67) (u8s_one _) (by simp only[maxLen];omega) (by omega) hB7.size ?_
   intro v8 w8 hown8 hg8 _
   have hB8:Below wd.heap.size wd w8:=hB7.grown hg8 hB7.size (fun k hk=>(hown7.lt k hk).1)
   have h68:=hBd.trans (hB8.mono hBd.size)
   rw[← u8s_append,← List.length_append] at hown8
   generalize hq:vi++p=q at hown8
   have Hq:=zZ hq
   have hqb:∀ x∈q,x<256:=by
    rw[← hq]
    intro x hx
    rcases List.mem_append.1 hx with hx | hx
    ·exact hvi x hx
    ·exact hpb1 x hx
   clear hq
   obtain⟨A8,c8,rfl,hc8,hm8,hr8⟩:=own_in hown8
   refine hK.out _ _ h68 ?_
   clear hK hH
   have hH:=h68
   obtain⟨hownS,hrdS,hBS,hszS,hchS⟩:=fr_step2 (F:=((2:Int),q)) hB hown Hch.out hB.size (hdd.trans (hB8.mono hdd.size)) (hr8.keeps (Keeps.mono fun x hx=>⟨hx.2,fun e=>by have:=(hown.lt x e.symm).2;omega⟩)) hc8 hm8 hqb (show (Lit.int .i64 2).wf=true by decide)
   have HchS:=zZ hchS
   clear hchS hr8 Hch
   repeat (first | (refine sch_yes (v:=?_) rfl rfl ?_ hH ?_;rotate_left;(focus ((intro W hW;obtain⟨u1,u2⟩:=HF.out W hW;go_simp) <;> with_reducible rfl));simp only[Act.put,zY,zX,zQ]) | (refine sch_no rfl rfl hH ?_;simp only[Act.put,zY,zX,zQ]))
   refine sch_call rfl rfl (fun K hK=>?_)
   go_wp2
   refine hK.out _ _ hBS ?_
   clear hK hH
   refine sch_call rfl rfl (fun K hK=>?_)
   refine wp_apps (.tmp 31) (.tmp 42) 169 rfl w6.heap.size 173 i0 (.agg #[.int .i64 0,.slice none 0 0]) 2 32 Tryz.underlying169 hi hz0 hz1 hz2 rfl (by omega) _ (i+1) xs rfl hownS (some ⟨w8.heap.size,0,none⟩) 1 1 [.int .i64 2,.slice A8 q.length c8] rfl rfl hrdS (by simp[Value.oneCell']) (by simp only[maxLen];omega) (by omega) hszS ?_
   intro v9 w9 hown9 hg9 hv9
   have hB9:=hBS.grown hg9 hszS (fun k hk=>(hownS.lt k hk).1)
   refine hK.out _ _ hB9 ?_
   clear hK
   have hH:=hB9
   repeat (first | (refine sch_yes (v:=?_) rfl rfl ?_ hH ?_;rotate_left;(focus ((intro W hW;obtain⟨u1,u2⟩:=HF.out W hW;go_simp) <;> with_reducible rfl));simp only[Act.put,zY,zX,zQ]) | (refine sch_no rfl rfl hH ?_;simp only[Act.put,zY,zX,zQ]))
   refine sch_done ?_
   go_wp2
   go_roundw
   case rel=>
    refine⟨i+1,_,by omega,by go_num,hown9,zZ ?_,hB9⟩
    rw[Htk.out,Hq.out,← List.cons_append]
    exact HchS.out.imp (fun cs a h=>rFra_stays.to (Keeps.grown hg9 hv9) h)
   case measure=>simp[intOf];omega
  ·obtain rfl:i=n:=by omega
   rw[List.take_of_length_le (by omega)] at Hch
   have hvl:=hown.lt
   obtain⟨hownS,hrdS,hBS,hszS,hchS⟩:=fr_step2 (F:=((3:Int),[i])) hB hown Hch.out hB.size (zA _ wr) (hrm6.keeps fun x hx=>⟨⟨Nat.lt_of_lt_of_le hx hB.size,fun e=>by have:=(hvl x e.symm).1;have hx':x<w6.heap.size:=hx;omega⟩,hB.block x hx⟩) (by simpa using hcm1) hcm3 (by intro x hx;simp at hx;omega) (show (Lit.int .i64 3).wf=true by decide)
   have HchS:=zZ hchS
   clear hchS Hch
   simp only[List.length_cons,List.length_nil,Nat.zero_add] at hownS hrdS hBS hszS HchS
   go_wp2_with (first
    | (at_builtin;refine wpList_apps rfl (.tmp 44) (.tmp 47) 169 rfl w6.heap.size 173 i0 (.agg #[.int .i64 0,.slice none 0 0]) 2 32 Tryz.underlying169 hi hz0 hz1 hz2 rfl (by omega) _ (i+1) xs rfl hownS (some ⟨wr.heap.size,0,none⟩) 1 1 [.int .i64 3,.slice Am 1 cm] rfl rfl hrdS (by simp[Value.oneCell']) (by simp only[maxLen];omega) (by omega) hszS ?_;intro v9 w9 hown9 hg9 hv9;obtain⟨A9,c9,rfl⟩:=own_slice2 hown9)
    | fail)
   go_ret
   have hch9:=HchS.out.imp (fun cs a h=>rFra_stays.to (Keeps.grown hg9 hv9) h)
   have hqq:=Hqq.out
   subst hqq
   exact⟨_,_,rfl,own_rSlice rFra_stays hown9 (by simp[partsF_length];omega) hch9,hBw6.trans ((hBS.grown hg9 hszS (fun k hk=>(hownS.lt k hk).1)).mono hBw6.size)⟩
theorem rfput_any (A:Option Addr) (n c b:Nat) (ps:List (List Nat)) (w:World) (hb:b<4294967296) (h:rPts (All w) w [.slice A n c] ps) (hpb:∀ p∈ps,∀ x∈p,x<256):
  Calls Tryz.prog 107 #[.agg #[.int .u32 (b:Int),.slice A n c]] w fun e w'=>∃ B m cap E,e=.returned (.tuple #[.slice B m cap,.int .i64 ((E:Nat):Int)])∧FPutSays ((b:Int),ps) w' B m cap E∧Below w.heap.size w w':=by
 obtain⟨hn,hnc,hcm⟩:=pts_len h
 obtain⟨j0,hj,hy0,hz1,hz2⟩:=info_parts info_u8
 have hB0:Below w.heap.size w (w.alloc (.cells #[.int .u32 (b:Int),.slice A n c] 143)):=(zA _ w).alloc (zW _) _
 have M1:=zZ (rmay_any A n c ((b:Int),ps) _ (rPts_stays.to (Keeps.below hB0) h))
 have hbox:=Blk.new w 143 [.int .u32 (b:Int),.slice A n c]
 cases hmay:mayB ((b:Int),ps) with
 | false=>
  rw[hmay] at M1
  go_enter Tryz.func107,Tryz.ntmps107
  go_wp2_with fail
  refine M1.out.mono ?_
  rintro e w1 ⟨rfl,hB1⟩
  go_wp2
  go_ret2
  exact⟨none,0,0,1,rfl,.inr ⟨hmay,rfl,rfl,rfl,rfl⟩,hB0.trans (hB1.mono hB0.size)⟩
 | true=>
  rw[hmay] at M1
  have hok:OkF ((b:Int),ps):=⟨by simp,by simp only;omega,hmay,hpb⟩
  have hfew:n≤40:=by rw[← hn];exact hok.few
  have F1:=zZ (fun W h'=>rframes_any A n c b ps W hb h' hfew hok.short)
  have hfit:=framesF_fit hok
  have hfl:=framesF_length ((b:Int),ps)
  have hflow:flowB ((b:Int),ps)=catL (framesF ((b:Int),ps)):=rfl
  have hlen:=flowB_len hok
  simp only at hfl
  rw[hn] at hfl
  generalize framesF ((b:Int),ps)=fr at *
  have Hflow:=zZ hflow
  have Hfit:=zZ hfit
  clear hflow hfit hok
  go_enter Tryz.func107,Tryz.ntmps107
  go_wp2_with fail
  refine M1.out.mono ?_
  rintro e w1 ⟨rfl,hB1⟩
  have hbox1:=hbox.below hbox.lt hB1
  have hx0:=hbox1.cell (j:=0) rfl
  have hx1:=hbox1.cell (j:=1) rfl
  have hBw1:=hB0.trans (hB1.mono hB0.size)
  have F2:=zZ (F1.out w1 (rPts_stays.to (Keeps.below hBw1) h))
  clear F1 M1
  go_wp2_with fail
  refine F2.out.mono ?_
  rintro e w2 ⟨B2,d2,rfl,hsl,hB2⟩
  have hBw2:=hBw1.trans (hB2.mono hBw1.size)
  clear F2 hbox1 hx0 hx1 hbox hB0 hB1 hB2 hBw1 h
  go_wp2_with fail
  go_loopw [5,7] (fun v iv wr=>∃ i:Nat,i≤n+2∧iv=.int .i64 (i:Int)∧wr.ownsRow w2.heap.size 5 1 v (catL (fr.take i)).length (u8s (catL (fr.take i)))∧Below w2.heap.size w2 wr) (fun _ iv _=>n+2 - (intOf iv).toNat)
  case atStart=>exact⟨0,by omega,rfl,World.ownsRow_nil _ _ _ _,zA _ _⟩
  case round=>
   obtain⟨i,hile,rfl,hown,hB⟩:=hrel
   by_cases hin:i<n+2
   ·obtain⟨F,hli⟩:∃ F,fr[i]?=some F:=⟨fr[i],zV (by omega)⟩
    obtain⟨b1,off1,A1,c1,rfl,hb1,hx1,hy1,hby1,hwf1,hr1⟩:=fra_at hsl hli
    have hx1':=(hB.cell (p:=⟨b1,off1+i * 2,none⟩) hb1).trans hx1
    have hy1':=(hB.cell (p:=⟨b1,off1+i * 2+1,none⟩) hb1).trans hy1
    obtain⟨hk0,hk1,hk2,_⟩:=Hfit.out F (List.mem_of_getElem? hli)
    have htk:catL (fr.take (i+1))=catL (fr.take i)++putL F.1.toNat F.2:=by
     rw[List.take_add_one,hli,catL_append]
     simp[catL]
    have hpl:(catL (fr.take i)).length≤11130:=by
     have:=catL_len (fr.take i) fun x hx=>Hfit.out x (List.mem_of_mem_take hx)
     rw[List.length_take] at this
     omega
    obtain⟨q,hq⟩:=Int.eq_ofNat_of_zero_le hk0
    rw[hq] at htk hk1 hx1'
    have hqn:((q:Int)).toNat=q:=rfl
    rw[hqn] at htk
    have P1:∀ W,Rd W A1 (u8s F.2)→Calls Tryz.prog 142 #[.agg #[.int .i64 (q:Int),.slice A1 F.2.length c1]] W fun e w'=>∃ B cap,e=.returned (.tuple #[.slice B (F.2.length+10) cap,.int .i64 0])∧Rd w' B (u8s (putL q F.2))∧Below W.heap.size W w':=fun W hW=>
     (rput_any (q:Int) A1 c1 F.2 W hby1 hW).mono fun e w' ⟨B,m,cap,E,he,hs,hB⟩=>by
      rcases hs with⟨_,_,_,rfl,rfl,_,hrd⟩ | ⟨hno,_⟩
      ·exact⟨B,cap,he,hrd,hB⟩
      ·exact absurd ⟨by omega,hk1,hk2⟩ hno
    have HP1:=zZ (P1 wr ((RdIn.rd hr1).below hB))
    have Htk:=zZ htk
    clear htk hq hqn hli hx1 hy1 hr1 hwf1 hby1 P1
    have hplen:=putL_length q F.2
    generalize F.2=body at *
    generalize putL q body=pb at *
    generalize catL (fr.take i)=pre at *
    have hil:(i:Int)<((n+2:Nat):Int):=by omega
    have hi0:(0:Int)≤(i:Int):=by omega
    go_wp2_with fail
    refine HP1.out.mono ?_
    rintro e w3 ⟨B3,cap3,rfl,hr3,hB3⟩
    have hown3:=own_below hown hB3
    have hB4:=hB.trans (hB3.mono hB.size)
    clear HP1 hB3
    go_wp2_with (first
     | (at_builtin;refine wpList_app rfl (.tmp 30) (.tmp 31) 98 rfl w2.heap.size 5 j0 (.int .u8 0) 1 Tryz.underlying98 hj hy0 hz1 hz2 rfl _ pre.length (u8s pre) rfl hown3 B3 (body.length+10) cap3 (u8s pb) rfl (by rw[u8s_length,hplen]) hr3 (u8s_one _) (by simp only[maxLen];omega) (by omega) hB4.size ?_;intro v5 w5 hown5 hg5 _)
     | fail)
    go_roundw
    case rel=>
     refine⟨i+1,by omega,by go_num,?_,hB4.grown hg5 hB4.size (fun k hk=>(hown3.lt k hk).1)⟩
     rw[Htk.out,u8s_append,List.length_append,hplen]
     exact hown5
    case measure=>simp[intOf];omega
   ·obtain rfl:i=n+2:=by omega
    rw[List.take_of_length_le (by omega)] at hown
    rw[← Hflow.out] at hown
    go_wp2
    go_ret2
    obtain⟨A5,c5,rfl,hc5,hm5,hr5⟩:=own_in hown
    exact⟨A5,_,c5,0,rfl,.inl ⟨hmay,rfl,rfl,hc5,hm5,hr5.keeps (Keeps.mono fun x hx=>hx.2)⟩,hBw2.trans (hB.mono hBw2.size)⟩
end Go.Proofs.YtnljjnkindjeoaaGreatDoor
namespace Go.Proofs.YtnljjnkindjeoaaGreatDoor
end Go.Proofs.YtnljjnkindjeoaaGreatDoor
namespace Go.Proofs.YtnljjnkindjeoaaGreatDoor
open Go.RowKit
section
variable {T : Nat → Prop} {B g b : Nat} {ps : List (List Nat)} {w w' : World} {A : Option Addr} {c : Nat} {xs : List Value}
end
end Go.Proofs.YtnljjnkindjeoaaGreatDoor
