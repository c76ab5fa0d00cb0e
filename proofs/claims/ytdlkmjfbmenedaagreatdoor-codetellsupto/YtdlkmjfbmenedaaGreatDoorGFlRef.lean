/- The texts Held, FlHeld, FlRef1, VaRef, FrRef, FlRef2, FlGuess, FrRefAll, FlRef3, FlRef4, VaSame, VaRefAll in one (as far as the seat has what they speak of); what each proves, and its conditions, stands before it. -/
import Derived.Test.YtdlkmjfbmenedaaGreatDoorGGen
import Derived.Test.YtdlkmjfbmenedaaGreatDoorFlKit
import Derived.Test.YtdlkmjfbmenedaaGreatDoorGFlow
import Derived.Test.YtdlkmjfbmenedaaGreatDoorGVari
import Derived.Test.YtdlkmjfbmenedaaGreatDoorGFrame
import Derived.Test.YtdlkmjfbmenedaaGreatDoorGBytes
import Derived.Test.YtdlkmjfbmenedaaGreatDoorAl
set_option maxRecDepth 100000
set_option maxHeartbeats 2000000
namespace Go.Proofs.YtdlkmjfbmenedaaGreatDoor
open Go.RowKit
section
variable {w0 w w' : World} {rs : List (Option Addr × List Value)} {bl : List (Nat × TypeId × List Value)}
end
section
variable {w0 w w' : World} {k : Nat} {f : Flo} {A : Option Addr} {c : Nat}
end
theorem conv_B (A:Option Addr) (bs:List Nat) (n c:Nat) (w:World) (hn:bs.length=n) (hr:Rd w A (u8s bs)):(convert 29 9 (.slice A n c)).run Tryz.prog w=.ok (.string (strB bs)) w:=
 conv_str w _ _ _ Tryz.underlying29 Tryz.underlying5 Tryz.underlying9 A bs n c hn hr
theorem rmay_any (A:Option Addr) (n c:Nat) (f:Flo) (w:World) (h:rPts (All w) w [.slice A n c] f.2):
  Calls Tryz.prog 43 #[.agg #[.int .u32 f.1,.slice A n c]] w fun e w'=>e=.returned (.bool (mayB f))∧Below w.heap.size w w':=by
 obtain⟨hn,hnc,hcm⟩:=pts_len h
 have hcm2:=hcm
 simp only[maxLen] at hcm2
 have hB:Below w.heap.size w (w.alloc (.cells #[.int .u32 f.1,.slice A n c] 60)):=(zA _ w).alloc (zW _) _
 have hbox:=Blk.new w 60 [.int .u32 f.1,.slice A n c]
 have hm:mayB f=(decide (n≤40) && f.2.all fun p=>decide (p.length≤200)):=by rw[mayB,hn]
 have Hm:=zZ hm
 clear hm
 go_enter Tryz.func43,Tryz.ntmps43
 go_wp2
 generalize hWW:w.alloc (.cells #[.int .u32 f.1,.slice A n c] 60)=wb at *
 have hx1:=hbox.cell (j:=1) rfl
 go_loop [3] (fun iv=>∃ i:Nat,i≤n∧iv=.int .i64 (i:Int)∧∀ p∈f.2.take i,p.length≤200) (fun iv=>n - (intOf iv).toNat)
 case atStart=>exact⟨0,by omega,rfl,by simp⟩
 case round=>
  obtain⟨i,hi,rfl,hall⟩:=hrel
  by_cases hin:i<n
  ·obtain⟨p,hli⟩:∃ p,f.2[i]?=some p:=⟨f.2[i],zV (by omega)⟩
   obtain⟨b,off,A1,c1,rfl,hb,hx,_,_,_,_⟩:=pts_at h hli
   have hx':=(hB.cell (p:=⟨b,off+i,none⟩) hb).trans hx
   have hmem:p∈f.2:=List.mem_of_getElem? hli
   have htk:f.2.take (i+1)=f.2.take i++[p]:=by rw[List.take_add_one,hli];rfl
   have Hmem:=zZ hmem
   have Htk:=zZ htk
   have Hall:=zZ hall
   clear hmem htk hall hli
   have hil:(i:Int)<(n:Int):=by omega
   have hi0:(0:Int)≤(i:Int):=by omega
   by_cases hp:200<p.length
   ·have hp':decide ((200:Int)<(p.length:Int))=true:=by simp;omega
    have hr:mayB f=false:=by
     rw[Hm.out,Bool.and_eq_false_iff]
     right
     rw[List.all_eq_false]
     exact⟨p,Hmem.out,by simpa using hp⟩
    have Hr:=zZ hr
    clear hr
    go_wp2
    go_ret
    exact⟨by rw[Hr.out];rfl,hB⟩
   ·have hp':decide ((200:Int)<(p.length:Int))=false:=by simp;omega
    go_wp2
    go_round
    case rel=>
     refine⟨i+1,by omega,by go_num,fun q hq=>?_⟩
     rw[Htk.out] at hq
     rcases List.mem_append.1 hq with hq | hq
     ·exact Hall.out q hq
     ·simp at hq;subst hq;omega
    case measure=>simp[intOf];omega
  ·obtain rfl:i=n:=by omega
   have hl:f.2.all (fun p=>decide (p.length≤200))=true:=by
    rw[List.all_eq_true]
    intro p hp
    rw[decide_eq_true_iff]
    exact hall p (by rw[List.take_of_length_le (by omega)];exact hp)
   rw[hl,Bool.and_true] at Hm
   clear hl hall
   go_wp2
   go_ret
   refine⟨?_,hB⟩
   rw[Hm.out]
   congr 2
   simp
   omega
theorem getL_of_put {bs:List Nat} {n k:Nat} (hn:n<18446744073709551616) (h:vputL n=bs.take k):getL bs=(n,(vputL n).length):=by
 have:=getL_put n (bs.drop k) hn
 rw[h,List.take_append_drop] at this
 rw[this,h]
theorem wrap_mul_step (acc d p:Nat):IntKind.u64.wrap ((acc:Int)+IntKind.u64.wrap ((d:Int) % 128 * (p:Int)))=(((acc+d % 128 * p) % 18446744073709551616:Nat):Int):=by
 have e:(d:Int) % 128 * (p:Int)=((d % 128 * p:Nat):Int):=by rw[Int.natCast_mul];rfl
 rw[e,IntKind.wrap_u64,IntKind.wrap_u64]
 generalize d % 128 * p=x
 omega
theorem wrap_by_step (p:Nat):IntKind.u64.wrap ((p:Int) * 128)=((p * 128 % 18446744073709551616:Nat):Int):=by
 rw[IntKind.wrap_u64]
 omega
def RefAt (bs:List Nat) (k acc p:Nat):Prop:=
 (k≤9∧acc<128 ^ k∧p=128 ^ k∧getGo k acc (bs.drop k)=getL bs)∨(k=10∧getL bs=(0,0))
theorem refAt_start (bs:List Nat):RefAt bs 0 0 1:=.inl ⟨by omega,by simp,rfl,rfl⟩
theorem refAt_next {bs:List Nat} {k acc p:Nat} (hk:k<bs.length) (hk9:k<10) (h:RefAt bs k acc p) (hd:128≤bs.getD k 0):
  RefAt bs (k+1) ((acc+bs.getD k 0 % 128 * p) % 18446744073709551616) (p * 128 % 18446744073709551616):=by
 rcases h with⟨h9,hacc,rfl,hg⟩ | ⟨h10,_⟩
 ·have hdr:bs.drop k=bs.getD k 0 :: bs.drop (k+1):=by rw[List.drop_eq_getElem_cons hk];simp[hk]
  rw[hdr,getGo] at hg
  generalize bs.getD k 0=d at *
  by_cases hk':k=9
  ·rw[if_pos ⟨hk',by omega⟩] at hg
   exact .inr ⟨by omega,hg.symm⟩
  ·rw[if_neg (by omega),if_pos hd] at hg
   have hs:=acc_lt acc d k hacc (by omega)
   refine .inl ⟨by omega,?_,?_,?_⟩
   ·rw[Nat.mod_eq_of_lt (by omega)];exact hs.1
   ·rw[← Nat.pow_succ,Nat.mod_eq_of_lt (by omega)]
   ·rw[Nat.mod_eq_of_lt (by omega)];exact hg
 ·omega
theorem refAt_last {bs:List Nat} {k acc p:Nat} (hk:k<bs.length) (hk9:k<10) (h:RefAt bs k acc p) (hd:bs.getD k 0<128) (hne:(getL bs).2≠0):
  getL bs=((acc+bs.getD k 0 % 128 * p) % 18446744073709551616,k+1):=by
 rcases h with⟨h9,hacc,rfl,hg⟩ | ⟨h10,_⟩
 ·have hdr:bs.drop k=bs.getD k 0 :: bs.drop (k+1):=by rw[List.drop_eq_getElem_cons hk];simp[hk]
  rw[hdr,getGo] at hg
  generalize bs.getD k 0=d at *
  by_cases h1:k=9∧1<d
  ·rw[if_pos h1] at hg;rw[← hg] at hne;simp at hne
  ·rw[if_neg h1,if_neg (by omega)] at hg
   by_cases h2:d=0∧0<k
   ·rw[if_pos h2] at hg;rw[← hg] at hne;simp at hne
   ·rw[if_neg h2] at hg
    rw[← hg]
    have hlt:acc+d % 128 * 128 ^ k<18446744073709551616:=by
     by_cases hk':k=9
     ·subst hk'
      have e9:(128:Nat) ^ 9=9223372036854775808:=by decide
      rw[e9] at hacc ⊢
      omega
     ·have:=acc_lt acc d k hacc (by omega);omega
    rw[Nat.mod_eq_of_lt hlt]
 ·omega
theorem rput_form (N:Nat) (w:World) (hN:N<18446744073709551616):
  Calls Tryz.prog 30 #[.int .u64 (N:Int)] w fun e w'=>∃ g cap,e=.returned (.slice (some ⟨g,0,none⟩) (vputL N).length cap)∧Rd w' (some ⟨g,0,none⟩) (u8s (vputL N))∧Below w.heap.size w w':=
 (vrput_any N w hN).mono fun e w' ⟨v,he,hown,hb⟩=>by
  obtain⟨g,cap,rfl,hg,hlt,hcap,hc⟩:=own_open hown (putL_pos N)
  exact⟨g,cap,he,Rd.own hown,hb⟩
theorem vrget_any (A:Option Addr) (c:Nat) (bs:List Nat) (w:World) (hl:bs.length≤c) (hb:∀ x∈bs,x<256) (hr:Rd w A (u8s bs)) (hlen:bs.length≤140737488355328):
  Calls Tryz.prog 58 #[.slice A bs.length c] w fun e w'=>e=.returned (.tuple #[.int .u64 ((getL bs).1:Int),.int .i64 ((getL bs).2:Int)])∧Below w.heap.size w w':=by
 have hz:=getL_zero bs
 have Hz:=zZ hz
 clear hz
 go_enter Tryz.func58,Tryz.ntmps58
 go_wp2
 go_loop [4,5,6] (fun n p i=>∃ k acc pp:Nat,k≤bs.length∧k≤10∧acc<18446744073709551616∧pp<18446744073709551616∧i=.int .i64 k∧n=.int .u64 acc∧p=.int .u64 pp∧RefAt bs k acc pp∧(k<bs.length∨k=bs.length)) (fun _ _ i=>bs.length - (intOf i).toNat)
 case atStart=>exact⟨0,0,1,Nat.zero_le _,by omega,by omega,by omega,rfl,rfl,rfl,refAt_start bs,by omega⟩
 case round=>
  obtain⟨k,acc,pp,hk,hk10,hacc,hpp,rfl,rfl,rfl,hat,_⟩:=hrel
  by_cases hlt:k<bs.length∧k<10
  ·obtain⟨hlt,hk9⟩:=hlt
   obtain⟨b,off,rfl,hblt,hcell⟩:=u8s_at hr hlt
   have hgd:bs[k]=bs.getD k 0:=by simp[hlt]
   rw[hgd] at hcell
   have hd:bs.getD k 0<256:=by rw[← hgd];exact hb _ (List.getElem_mem hlt)
   have hnext:=refAt_next hlt hk9 hat
   have hlast:=refAt_last hlt hk9 hat
   generalize bs.getD k 0=d at *
   have hn':(acc+d % 128 * pp) % 18446744073709551616<18446744073709551616:=Nat.mod_lt _ (by omega)
   have hp':pp * 128 % 18446744073709551616<18446744073709551616:=Nat.mod_lt _ (by omega)
   have hw1:=wrap_mul_step acc d pp
   have hw2:=wrap_by_step pp
   generalize (acc+d % 128 * pp) % 18446744073709551616=n' at *
   generalize pp * 128 % 18446744073709551616=p' at *
   have Hnext:=zZ hnext
   have Hlast:=zZ hlast
   clear hnext hlast hgd hat
   have hk1:(k:Int)<(bs.length:Int):=by omega
   have hk2:decide ((k:Int)<(10:Int))=true:=by simp;omega
   by_cases hd128:128≤d
   ·go_wp2
    go_round
    case rel=>exact⟨k+1,n',p',by omega,by omega,hn',hp',by go_num,rfl,rfl,Hnext.out hd128,by omega⟩
    case measure=>simp[intOf];omega
   ·have hput:=fun W=>rput_form n' W hn'
    have hRt:∀ W,Below w.heap.size w W→Rd W (some ⟨b,off,none⟩) (u8s (bs.take (k+1))):=fun W hW=>by rw[← u8s_take];exact (hr.below hW).take _
    have hltk:(bs.take (k+1)).length=k+1:=by rw[List.length_take];omega
    have hcv:∀ W,Below w.heap.size w W→(convert 29 9 (.slice (some ⟨b,off,none⟩) (k+1) c)).run Tryz.prog W=.ok (.string (strB (bs.take (k+1)))) W:=fun W hW=>
     conv_str W _ _ _ Tryz.underlying29 Tryz.underlying5 Tryz.underlying9 _ (bs.take (k+1)) (k+1) c hltk (hRt W hW)
    have hcv0:=hcv w.drew (zA _ w).drew
    have hby:=vputL_byte n'
    have hbt:∀ x∈bs.take (k+1),x<256:=fun x hx=>hb x (List.mem_of_mem_take hx)
    have htest:(getL bs).2≠0→vputL n'=bs.take (k+1)∧getL bs=(n',k+1):=fun hne=>by
     have h1:=Hlast.out (by omega) hne
     have h2:=getL_back bs hb hne
     rw[h1] at h2
     exact⟨h2.2.2.1,h1⟩
    have htest2:(getL bs).2=0→vputL n'≠bs.take (k+1):=fun h0 h=>by
     have:=getL_of_put hn' h
     rw[this] at h0
     have:=putL_pos n'
     simp at h0
     rw[h0] at this
     simp at this
    have hout:∃ ok:Bool,((strB (vputL n')).toList == (strB (bs.take (k+1))).toList)=ok∧(ok=true→getL bs=(n',k+1))∧(ok=false→getL bs=(0,0)):=by
     by_cases hne:(getL bs).2=0
     ·refine⟨false,?_,(fun h=>by cases h),(fun _=>Prod.ext (Hz.out hne) (by exact hne))⟩
      rw[beq_eq_false_iff_ne]
      intro h
      apply htest2 hne
      apply strB_inj hby hbt
      rw[ByteArray.toList_eq,ByteArray.toList_eq] at h
      exact Go.WideShapes.bytes_inj h
     ·have:=htest hne
      exact⟨true,(by rw[this.1];simp),(fun _=>this.2),(fun h=>by cases h)⟩
    obtain⟨ok,hok,hok1,hok2⟩:=hout
    generalize hP:vputL n'=pn at *
    have Hput:=zZ hput
    have Hcv:=zZ hcv
    have Hok1:=zZ hok1
    have Hok2:=zZ hok2
    clear hput hcv hok1 hok2 htest htest2 hby hbt hltk hRt hP hr
    have hk3:k+1≤c:=by omega
    have hk4:(k:Int)+1≤(c:Int):=by omega
    have hk5:((k:Int)+1).toNat=k+1:=by omega
    have hk6:IntKind.i64.wrap ((k:Int)+1)=(k:Int)+1:=IntWalk.i64_in _ (by omega)
    have hk7:(0:Int)≤(k:Int)+1:=by omega
    go_wp2_with fail
    refine sch_start [(0,true),(3,true),(4,true),(5,true),(6,true),(7,true),(1,false),(2,true),(8,true)]
     (fun W=>(convert 29 9 (.slice (some ⟨b,off,none⟩) (k+1) c)).run Tryz.prog W=.ok (.string (strB (bs.take (k+1)))) W) (by kernel_rfl) rfl (by kernel_rfl) (fun _ _ _ _ _ h=>h) hcv0 (fun hH=>?_)
    repeat (first
     | (refine sch_yes (v:=?_) rfl rfl ?_ hH ?_;rotate_left;(focus ((intro W hW;go_simp) <;> with_reducible rfl));simp only[Act.put,zY,zX,zQ])
     | (refine sch_no rfl rfl hH ?_;simp only[Act.put,zY,zX,zQ]))
    refine sch_call rfl rfl (fun K hK=>?_)
    go_wp2_with (go_at_call 30;refine (Hput.out _).mono ?_;rintro e w6 ⟨g6,cap6,rfl,hrd6,hB6⟩)
    have hB7:Below w.heap.size w w6:=(zA _ w).drew.trans hB6
    refine hK.out _ _ (Hcv.out w6 hB7) ?_
    clear hK
    have hcv6:=conv_str (P:=Tryz.prog) w6 _ _ _ Tryz.underlying29 Tryz.underlying5 Tryz.underlying9 _ pn pn.length cap6 rfl hrd6
    refine sch_more (S':=fun W=>W=w6) (fun W hW=>by rw[hW];exact Hcv.out w6 hB7) ?_
    have hH:w6=w6:=rfl
    repeat (first
     | (refine sch_yes (v:=?_) rfl rfl ?_ hH ?_;rotate_left;(focus ((intro W hW;go_simp) <;> with_reducible rfl));simp only[Act.put,zY,zX,zQ])
     | (refine sch_no rfl rfl hH ?_;simp only[Act.put,zY,zX,zQ]))
    refine sch_done ?_
    have hB8:Below w.heap.size w w6:=hB7
    cases ok with
    | true=>
     have he:=Hok1.out rfl
     have He:=zZ he
     clear he
     go_wp2
     go_ret2
     exact⟨ret_two (by rw[He.out]) (by rw[He.out];simp),hB8⟩
    | false=>
     have he:=Hok2.out rfl
     have He:=zZ he
     clear he
     go_wp2
     go_ret2
     exact⟨ret_two (by rw[He.out];rfl) (by rw[He.out];rfl),hB8⟩
  ·have hres:getL bs=(0,0):=by
    rcases hat with⟨h9,_,_,hg⟩ | ⟨h10,hg⟩
    ·have:bs.drop k=[]:=List.drop_eq_nil_of_le (by omega)
     rw[this] at hg
     exact hg.symm
    ·exact hg
   have Hres:=zZ hres
   clear hres hat
   by_cases hk':k<bs.length
   all_goals
    go_wp2
    go_ret2
    exact⟨ret_two (by rw[Hres.out];rfl) (by rw[Hres.out];rfl),zA _ _⟩
theorem rput_any (k:Int) (A:Option Addr) (c:Nat) (bs:List Nat) (w:World) (hb:∀ x∈bs,x<256) (hr:Rd w A (u8s bs)):
  Calls Tryz.prog 45 #[.agg #[.int .i64 k,.slice A bs.length c]] w fun e w'=>∃ B m cap E,e=.returned (.tuple #[.slice B m cap,.int .i64 ((E:Nat):Int)])∧PutSays k bs w' B m cap E∧Below w.heap.size w w':=by
 by_cases h:0≤k∧k≤255∧bs.length≤255
 ·obtain⟨h0,h1,h2⟩:=h
  obtain⟨q,rfl⟩:=Int.eq_ofNat_of_zero_le h0
  obtain⟨i0,hi,hz0,hz1,hz2⟩:=info_parts info_u8
  have hk0:decide ((q:Int)<0)=false:=by rw[decide_eq_false_iff_not];omega
  have hk1:decide ((255:Int)<(q:Int))=false:=by rw[decide_eq_false_iff_not];omega
  have hk2:decide ((255:Int)<(bs.length:Int))=false:=by rw[decide_eq_false_iff_not];omega
  have hk3:(q:Int) % 256=(q:Int):=by omega
  have hk4:(bs.length:Int) % 256=(bs.length:Int):=by omega
  have hB0:Below w.heap.size w ((w.alloc (.cells #[.int .i64 (q:Int),.slice A bs.length c] 88)).alloc (.cells #[.int .u8 (q:Int),.int .u8 (bs.length:Int)] 5)):=((zA _ w).alloc (zW _) _).alloc (by simp) _
  have hlit:Rd ((w.alloc (.cells #[.int .i64 (q:Int),.slice A bs.length c] 88)).alloc (.cells #[.int .u8 (q:Int),.int .u8 (bs.length:Int)] 5)) (some ⟨w.heap.size+1,0,none⟩) (u8s [q,bs.length]):=by
   have:=lit_rd (w.alloc (.cells #[.int .i64 (q:Int),.slice A bs.length c] 88)) [q,bs.length]
   rw[show (w.alloc (.cells #[.int .i64 (q:Int),.slice A bs.length c] 88)).heap.size=w.heap.size+1 by simp] at this
   exact this
  have hbx:=(Blk.new w 88 [.int .i64 (q:Int),.slice A bs.length c]).alloc (.cells #[.int .u8 (q:Int),.int .u8 (bs.length:Int)] 5)
  have P1:=zZ (rseal_any (some ⟨w.heap.size+1,0,none⟩) 2 2 [q,bs.length] _ rfl (by intro x hx;simp at hx;omega) hlit (by omega))
  have P2:=zZ (fun (W:World) (h:Rd W A (u8s bs))=>rseal_form A c bs.length bs W rfl hb h (by omega))
  have hput:putL q bs=sealL [q,bs.length]++sealL bs:=rfl
  have hl1:(sealL [q,bs.length]).length=6:=head_length q bs.length
  have hl2:(u8s (sealL bs)).length=bs.length+4:=by rw[u8s_length,sealL_length]
  have hap:u8s (putL q bs)=u8s (sealL [q,bs.length])++u8s (sealL bs):=by rw[hput,u8s_append]
  have hxo:=u8s_one (sealL bs)
  rw[hl1] at P1
  have Hap:=zZ hap
  clear hap hput hl1
  go_enter Tryz.func45,Tryz.ntmps45
  go_wp2_with fail
  refine P1.out.mono ?_
  rintro e w1 ⟨v1,rfl,hown1,hB1⟩
  have hB1':=hB0.trans (hB1.mono hB0.size)
  have hbx1:=hbx.below hbx.lt hB1
  have hc1:=hbx1.cell (j:=1) rfl
  have hown1':=own_mono hown1 hB0.size
  clear P1 hbx hB1 hlit hown1 hB0 hbx1
  generalize u8s (sealL [q,bs.length])=ps1 at *
  generalize u8s (sealL bs)=ps2 at *
  go_wp2_with fail
  refine (P2.out _ (hr.below hB1')).mono ?_
  rintro e w2 ⟨g2,cap2,rfl,hrs2,hB2⟩
  have hB2':=hB1'.trans (hB2.mono hB1'.size)
  have hown2:=own_below hown1' hB2
  go_wp2_with (first
   | (at_builtin;refine wpList_app rfl (.tmp 28) (.tmp 31) 29 rfl w.heap.size 5 i0 (.int .u8 0) 1 Tryz.underlying29 hi hz0 hz1 hz2 rfl _ 6 ps1 rfl hown2 (some ⟨g2,0,none⟩) (bs.length+4) cap2 ps2 rfl hl2 hrs2 hxo (by simp only[maxLen];omega) (by omega) hB2'.size ?_;intro v3 w3 hown3 hg3 _;obtain⟨A3,c3,hv3e,hc3,hrd3,_⟩:=own_slice hown3;subst hv3e)
   | fail)
  go_ret2
  refine⟨A3,6+(bs.length+4),c3,0,rfl,.inl ⟨h0,h1,h2,rfl,by omega,hc3,?_⟩,hB2'.grown hg3 hB2'.size (fun k hk=>(hown2.lt k hk).1)⟩
  rw[show ((q:Int)).toNat=q by omega,Hap.out]
  exact hrd3
 ·have hor:decide (k<0)=true∨(decide (k<0)=false∧decide (255<k)=true)∨(decide (k<0)=false∧decide (255<k)=false∧decide ((255:Int)<(bs.length:Int))=true):=by
   simp only[decide_eq_true_eq,decide_eq_false_iff_not];omega
  rcases hor with h0 | ⟨h0,h1⟩ | ⟨h0,h1,h2⟩
  all_goals
   go_enter Tryz.func45,Tryz.ntmps45
   go_wp2
   go_ret2
   exact⟨none,0,0,1,rfl,.inr ⟨h,rfl,rfl,rfl,rfl⟩,(zA _ w).alloc (zW _) _⟩
theorem rget_any (A:Option Addr) (c n:Nat) (bs:List Nat) (w:World) (hn:bs.length=n) (hc:n≤c) (hb:∀ x∈bs,x<256) (hr:Rd w A (u8s bs)) (hlen:n≤140737488355328):
  Calls Tryz.prog 87 #[.slice A n c] w fun e w'=>∃ A' c',e=.returned (.tuple #[.agg #[.int .i64 (getF bs).1,.slice A' (getF bs).2.length c'],.int .i64 (getN bs:Int),.int .i64 (getE bs:Int)])∧(getF bs).2.length≤c'∧c'≤maxLen∧RdIn (fun b=>w.heap.size≤b∧b<w'.heap.size) w' A' (u8s (getF bs).2)∧Below w.heap.size w w':=by
 obtain⟨hz,hsz⟩:=zero_of_info info_fr
 have HE:=zZ (rfl:getE bs=getE bs)
 have HF:=zZ (rfl:getF bs=getF bs)
 have HN:=zZ (rfl:getN bs=getN bs)
 generalize hE:getE bs=E at *
 generalize hF:getF bs=F at *
 generalize hN:getN bs=N at *
 have hbad:E≠0→F=(0,[])∧N=0:=fun h=>by subst hE hF hN;exact get_bad h
 clear HE HF HN
 have Hbad:=zZ hbad
 clear hbad
 by_cases h6:n<6
 ·obtain rfl:E=2:=by rw[← hE];exact getE_short (by omega)
  have h1:decide ((n:Int)<6)=true:=by rw[decide_eq_true_eq];omega
  clear hE hF hN
  go_enter Tryz.func87,Tryz.ntmps87
  go_wp2
  refine ret_cell2 rfl (Blk.new w 88 [.int .i64 0,.slice none 0 0]) Tryz.underlying88 rfl hsz rfl rfl ?_
  obtain⟨rfl,rfl⟩:=Hbad.out (by omega)
  exact⟨none,0,rfl,zW _,Nat.zero_le _,.inl rfl,(zA _ w).alloc (zW _) _⟩
 ·obtain⟨b,off,rfl,hblt,hcs⟩:=hr.at (k:=0) (by simp;omega)
  have HE:=zZ hE
  have HF:=zZ hF
  have HN:=zZ hN
  clear hE hF hN
  have h1:decide ((n:Int)<6)=false:=by rw[decide_eq_false_iff_not];omega
  have h2:6≤c:=by omega
  have h2':(6:Int)≤(c:Int):=by omega
  have hB0:Below w.heap.size w (w.alloc (.cells #[.int .i64 0,.slice none 0 0] 88)):=(zA _ w).alloc (zW _) _
  have hblk:=Blk.new w 88 [.int .i64 0,.slice none 0 0]
  have G1:=rgood_any (some ⟨b,off,none⟩) c 6 (bs.take 6) _ (by rw[List.length_take];omega) (by omega) (fun x hx=>hb x (List.mem_of_mem_take hx)) (by rw[← u8s_take];exact (hr.below hB0).take 6) (by omega)
  have HG1:=zZ G1
  clear G1
  go_enter Tryz.func87,Tryz.ntmps87
  go_wp2_with fail
  refine HG1.out.mono ?_
  rintro e w1 ⟨rfl,hB1⟩
  clear HG1
  have hblk1:=hblk.below hblk.lt hB1
  have hB1':Below w.heap.size w w1:=hB0.trans (hB1.mono hB0.size)
  clear hB1 hB0 hblk
  have hrw1:=(hblk1.set 0 (.int .i64 0)).set 1 (.slice none 0 0)
  have hBr1:=(hB1'.setCell (p:=⟨w.heap.size,0,none⟩) (zW w.heap.size) (.int .i64 0)).setCell (p:=⟨w.heap.size,1,none⟩) (zW w.heap.size) (.slice none 0 0)
  have hc0:=hblk1.cell (j:=0) rfl
  have hc1:=hblk1.cell (j:=1) rfl
  have hf0:=hblk1.frozen 0
  have hf1:=hblk1.frozen 1
  cases hgd:goodL (bs.take 6) with
  | false=>
   obtain rfl:E=3:=by rw[← HE.out];exact getE_head (by omega) hgd
   go_wp2
   refine ret_cell2 rfl hrw1 Tryz.underlying88 rfl hsz rfl rfl ?_
   obtain⟨rfl,rfl⟩:=Hbad.out (by omega)
   exact⟨none,0,rfl,zW _,Nat.zero_le _,.inl rfl,hBr1⟩
  | true=>
   have hr1:=hr.below hB1'
   obtain⟨_,_,e1,_,hcell1⟩:=u8s_at hr1 (k:=1) (by omega)
   injection e1 with e1
   injection e1 with e1 e2
   subst e1 e2
   have hd1:bs.getD 1 0=bs[1]'(by omega):=by simp[show 1<bs.length by omega]
   rw[← hd1] at hcell1
   have hs256:bs.getD 1 0<256:=by rw[hd1];exact hb _ (List.getElem_mem _)
   have hEc:=fun h:bs.length<bs.getD 1 0+10=>getE_cut (bs:=bs) (by omega) hgd h
   have hEs:=fun (h:bs.getD 1 0+10≤bs.length) hg=>getE_sum (bs:=bs) (by omega) hgd h hg
   have hEf:=fun (h:bs.getD 1 0+10≤bs.length) hg=>getE_fine (bs:=bs) (by omega) hgd h hg
   have hfine:=fun h=>get_fine (bs:=bs) h
   rw[HE.out] at hEc hEs hEf hfine
   rw[HF.out,HN.out] at hfine
   have G2:=fun (h:bs.getD 1 0+10≤bs.length)=>rgood_any (some ⟨b,off+6,none⟩) (c - 6) (bs.getD 1 0+4) ((bs.drop 6).take (bs.getD 1 0+4)) w1 (by rw[List.length_take,List.length_drop];omega) (by omega) (fun x hx=>hb x (List.mem_of_mem_drop (List.mem_of_mem_take hx))) (by rw[← u8s_take,← u8s_drop];exact (hr1.drop 6).take _) (by omega)
   have HEc:=zZ hEc
   have HEs:=zZ hEs
   have HEf:=zZ hEf
   have Hfine:=zZ hfine
   have HG2:=zZ G2
   clear hEc hEs hEf hfine G2 hd1 hgd
   generalize hsd:bs.getD 1 0=s at *
   by_cases hcut:bs.length<s+10
   ·obtain rfl:E=2:=HEc.out hcut
    have hd2:decide ((n:Int)<6+(s:Int)+4)=true:=by rw[decide_eq_true_eq];omega
    go_wp2
    refine ret_cell2 rfl hrw1 Tryz.underlying88 rfl hsz rfl rfl ?_
    obtain⟨rfl,rfl⟩:=Hbad.out (by omega)
    exact⟨none,0,rfl,zW _,Nat.zero_le _,.inl rfl,hBr1⟩
   ·have hd2:decide ((n:Int)<6+(s:Int)+4)=false:=by rw[decide_eq_false_iff_not];omega
    have h3:s+10≤c:=by omega
    go_wp2_with fail
    simp only[show 6+s+4 - 6=s+4 by omega,show 6+s - 2=s+4 by omega]
    refine (HG2.out (by omega)).mono ?_
    rintro e w2 ⟨rfl,hB2⟩
    have hblk2:=hblk1.below hblk1.lt hB2
    have hg2:w.heap.size<w2.heap.size:=hblk2.lt
    have hB2':Below w.heap.size w w2:=hB1'.trans (hB2.mono hB1'.size)
    clear hc0 hc1 hf0 hf1 hrw1 hBr1 hB2 hblk1 hB1' hcell1 hr1 HG2 HEc
    cases hgb:goodL ((bs.drop 6).take (s+4)) with
    | false=>
     obtain rfl:E=3:=HEs.out (by omega) hgb
     have hrw2:=(hblk2.set 0 (.int .i64 0)).set 1 (.slice none 0 0)
     have hBr2:=(hB2'.setCell (p:=⟨w.heap.size,0,none⟩) (zW w.heap.size) (.int .i64 0)).setCell (p:=⟨w.heap.size,1,none⟩) (zW w.heap.size) (.slice none 0 0)
     have hc0:=hblk2.cell (j:=0) rfl
     have hc1:=hblk2.cell (j:=1) rfl
     have hf0:=hblk2.frozen 0
     have hf1:=hblk2.frozen 1
     go_wp2
     refine ret_cell2 rfl hrw2 Tryz.underlying88 rfl hsz rfl rfl ?_
     obtain⟨rfl,rfl⟩:=Hbad.out (by omega)
     exact⟨none,0,rfl,zW _,Nat.zero_le _,.inl rfl,hBr2⟩
    | true=>
     obtain rfl:E=0:=HEf.out (by omega) hgb
     obtain⟨hF,rfl⟩:=Hfine.out rfl
     have hr2:=hr.below hB2'
     have hlb:((bs.drop 6).take s).length=s:=by rw[List.length_take,List.length_drop];omega
     have hrb2:Rd w2 (some ⟨b,off+6,none⟩) (u8s ((bs.drop 6).take s)):=by rw[← u8s_take,← u8s_drop];exact (hr2.drop 6).take _
     obtain⟨_,_,e1,hb2,hcell0⟩:=u8s_at hr2 (k:=0) (by omega)
     injection e1 with e1
     injection e1 with e1 e2
     subst e1 e2
     have hd0:bs.getD 0 0=bs[0]'(by omega):=by simp[show 0<bs.length by omega]
     rw[← hd0,Nat.add_zero] at hcell0
     have hk0:bs.getD 0 0<256:=by rw[hd0];exact hb _ (List.getElem_mem _)
     have HF2:=zZ hF
     have Hlb:=zZ hlb
     have hn0:0<n:=by omega
     clear hF hd0 hgb HEs HEf Hfine hlb Hbad
     generalize bs.getD 0 0=k0 at *
     generalize (bs.drop 6).take s=body at *
     have hc6:¬ c=6:=by omega
     have hs4:6+s≤c:=by omega
     have hs5:6+(s:Int)≤(c:Int):=by omega
     have hs6:(6:Int)≤6+(s:Int):=by omega
     have hs7:(0:Int)≤6+(s:Int):=by omega
     have hs8:6+s - 6=s:=by omega
     have hs9:(6+(s:Int)).toNat=6+s:=by omega
     have hw6:IntKind.i64.wrap (6+(s:Int))=6+(s:Int):=IntWalk.i64_in _ (by omega)
     have hw10:IntKind.i64.wrap (10+(s:Int))=10+(s:Int):=IntWalk.i64_in _ (by omega)
     have hwk:IntKind.i64.wrap (k0:Int)=(k0:Int):=IntWalk.i64_in _ (by omega)
     go_wp2_with fail
     refine sch_start [(0,true),(1,true),(2,true),(3,true),(4,true),(5,true),(6,true),(7,true),(10,true),(11,true),(8,false),(9,true),(12,false),(13,true),(14,true)]
      (fun W=>W.cell? ⟨b,off,none⟩=some (.int .u8 (k0:Int))) (by kernel_rfl) rfl (by kernel_rfl) (fun _ _ _ _ _ h=>h) hcell0 (fun hH=>?_)
     repeat (first | (refine sch_yes (v:=?_) rfl rfl ?_ hH ?_;rotate_left;(focus ((intro W hW;go_simp) <;> with_reducible rfl));simp only[Act.put,zY,zX,zQ]) | (refine sch_no rfl rfl hH ?_;simp only[Act.put,zY,zX,zQ]))
     refine sch_call rfl rfl (fun K hK=>?_)
     obtain⟨i0,hi,hz0,hz1,hz2⟩:=info_parts info_u8
     refine wp_app (.const (.slice none 0 0)) (.tmp 45) 29 rfl w2.heap.size 5 i0 (.int .u8 0) 1 Tryz.underlying29 hi hz0 hz1 hz2 rfl (.slice none 0 0) 0 [] rfl (World.ownsRow_nil _ _ _ _) (some ⟨b,off+6,none⟩) s (c - 6) (u8s body) rfl (by rw[u8s_length,Hlb.out]) hrb2 (u8s_one _) (by simp only[maxLen];omega) (by omega) (zW _) ?_
     intro v3 w3 hown3 hg3 _
     simp only[Nat.zero_add,List.nil_append] at hown3
     obtain⟨A',c',rfl,hc',hm',hrd⟩:=own_in hown3
     have hB3:Below w2.heap.size w2.drew w3:=(zA _ w2.drew).grown hg3 (zW _) (fun k hk=>by cases hk)
     have hblk3:=Blk.below (w:=w2.drew) hblk2 hg2 hB3
     have hcell3:w3.cell? ⟨b,off,none⟩=some (.int .u8 (k0:Int)):=(hB3.cell (p:=⟨b,off,none⟩) hb2).trans hcell0
     have hB3':Below w.heap.size w w3:=hB2'.drew.trans (hB3.mono hB2'.size)
     refine hK.out _ _ hcell3 ?_
     simp only[Act.put,zY,zX,zQ]
     clear hK hH hblk2 hB3 hcell0 hown3 hg3
     have hH:=hcell3
     have hrw3:=(hblk3.set 0 (.int .i64 (k0:Int))).set 1 (.slice A' s c')
     have hBr3:=(hB3'.setCell (p:=⟨w.heap.size,0,none⟩) (zW w.heap.size) (.int .i64 (k0:Int))).setCell (p:=⟨w.heap.size,1,none⟩) (zW w.heap.size) (.slice A' s c')
     have hkp:Keeps (fun x=>w2.heap.size≤x∧x<w3.heap.size) (fun x=>w.heap.size≤x∧x<((w3.setCell ⟨w.heap.size,0,none⟩ (.int .i64 (k0:Int))).setCell ⟨w.heap.size,1,none⟩ (.slice A' s c')).heap.size) w3 ((w3.setCell ⟨w.heap.size,0,none⟩ (.int .i64 (k0:Int))).setCell ⟨w.heap.size,1,none⟩ (.slice A' s c')):=fun x ⟨h1,h2⟩=>
      ⟨⟨by omega,by simpa using h2⟩,(heap_setCell_other _ _ x _ (by simp;omega)).trans (heap_setCell_other _ _ x _ (by simp;omega))⟩
     have hrd4:=hrd.keeps hkp
     have hcell4:((w3.setCell ⟨w.heap.size,0,none⟩ (.int .i64 (k0:Int))).setCell ⟨w.heap.size,1,none⟩ (.slice A' s c')).cell? ⟨b,off,none⟩=some (.int .u8 (k0:Int)):=
      (World.cell?_of_block (w:=w3) (a:=⟨b,off,none⟩) ((heap_setCell_other _ _ b _ (by simp;omega)).trans (heap_setCell_other _ _ b _ (by simp;omega)))).trans hcell3
     have hc0:=hblk3.cell (j:=0) rfl
     have hc1:=hblk3.cell (j:=1) rfl
     have hf0:=hblk3.frozen 0
     have hf1:=hblk3.frozen 1
     have Hrd4:=zZ hrd4
     have Hcell4:=zZ hcell4
     clear hrd4 hkp hrd hcell4
     repeat (first | (refine sch_yes (v:=?_) rfl rfl ?_ hH ?_;rotate_left;(focus ((intro W hW;go_simp) <;> with_reducible rfl));simp only[Act.put,zY,zX,zQ]) | (refine sch_no rfl rfl hH ?_;simp only[Act.put,zY,zX,zQ]))
     refine sch_call rfl rfl (fun K hK=>?_)
     go_wp2_with fail
     refine hK.out _ _ Hcell4.out ?_
     clear hK hH
     have hH:=Hcell4.out
     repeat (first | (refine sch_yes (v:=?_) rfl rfl ?_ hH ?_;rotate_left;(focus ((intro W hW;go_simp) <;> with_reducible rfl));simp only[Act.put,zY,zX,zQ]) | (refine sch_no rfl rfl hH ?_;simp only[Act.put,zY,zX,zQ]))
     refine sch_done ?_
     go_wp2
     refine ret_cell2 rfl hrw3 Tryz.underlying88 rfl hsz rfl rfl ?_
     have hF:=HF2.out
     subst hF
     exact⟨A',c',by simp only[Hlb.out];congr 4;go_num,by rw[Hlb.out];exact hc',hm',Hrd4.out,hBr3⟩
theorem fr_step2 {w wr w3:World} {v:Value} {k B:Nat} {xs:List Value} {pre:List Fra} {F:Fra} {A3:Option Addr} {c3:Nat}
  (hB:Below B w wr) (hown:wr.ownsRow B 88 2 v k xs) (hch:Chunks 2 (rFra (fun b=>b<wr.heap.size∧some b≠v.ownBlock) wr) xs pre) (hBl:B≤wr.heap.size)
  (hB3:Below wr.heap.size wr w3) (hrd:RdIn (fun b=>b<w3.heap.size∧some b≠v.ownBlock) w3 A3 (u8s F.2)) (hc:F.2.length≤c3) (hm:c3≤maxLen) (hby:∀ x∈F.2,x<256) (hw:(Lit.int .i64 F.1).wf=true):
  (w3.alloc (.cells #[.int .i64 F.1,.slice A3 F.2.length c3] 88)).ownsRow B 88 2 v k xs∧Rd (w3.alloc (.cells #[.int .i64 F.1,.slice A3 F.2.length c3] 88)) (some ⟨w3.heap.size,0,none⟩) [.int .i64 F.1,.slice A3 F.2.length c3] ∧
  Below B w (w3.alloc (.cells #[.int .i64 F.1,.slice A3 F.2.length c3] 88))∧B≤(w3.alloc (.cells #[.int .i64 F.1,.slice A3 F.2.length c3] 88)).heap.size ∧
  Chunks 2 (rFra (fun b=>b<(w3.alloc (.cells #[.int .i64 F.1,.slice A3 F.2.length c3] 88)).heap.size∧some b≠v.ownBlock) (w3.alloc (.cells #[.int .i64 F.1,.slice A3 F.2.length c3] 88))) (xs++[.int .i64 F.1,.slice A3 F.2.length c3]) (pre++[F]):=by
 have hA:Below w3.heap.size w3 (w3.alloc (.cells #[.int .i64 F.1,.slice A3 F.2.length c3] 88)):=(zA _ w3).alloc (zW _) _
 have hB4:=hB3.trans (hA.mono hB3.size)
 refine⟨own_below hown hB4,(Blk.new w3 88 [.int .i64 F.1,.slice A3 F.2.length c3]).rd,hB.trans (hB4.mono hBl),Nat.le_trans hBl hB4.size,?_⟩
 have hkn:Keeps (fun x=>x<w3.heap.size∧some x≠v.ownBlock) (fun x=>x<(w3.alloc (.cells #[.int .i64 F.1,.slice A3 F.2.length c3] 88)).heap.size∧some x≠v.ownBlock) w3 _:=fun x ⟨h1,h2⟩=>
  ⟨⟨Nat.lt_of_lt_of_le h1 hA.size,h2⟩,hA.block x h1⟩
 have hko:Keeps (fun x=>x<wr.heap.size∧some x≠v.ownBlock) (fun x=>x<(w3.alloc (.cells #[.int .i64 F.1,.slice A3 F.2.length c3] 88)).heap.size∧some x≠v.ownBlock) wr _:=fun x ⟨h1,h2⟩=>
  ⟨⟨Nat.lt_of_lt_of_le h1 hB4.size,h2⟩,hB4.block x h1⟩
 exact (hch.imp (fun cs a h=>rFra_stays.to hko h)).append (Chunks.one (size:=2) rfl (rFra_mk (f:=F) hc hm hby hw (hrd.keeps hkn)))
theorem rput_in (N:Nat) (w:World) (hN:N<18446744073709551616):
  Calls Tryz.prog 30 #[.int .u64 (N:Int)] w fun e w'=>∃ A c,e=.returned (.slice A (vputL N).length c)∧(vputL N).length≤c∧c≤maxLen∧RdIn (fun b=>w.heap.size≤b∧b<w'.heap.size) w' A (u8s (vputL N))∧Below w.heap.size w w':=
 (vrput_any N w hN).mono fun e w' ⟨v,he,hown,hb⟩=>by
  obtain⟨A,c,rfl,h1,h2,h3⟩:=own_in hown
  exact⟨A,c,he,h1,h2,h3,hb⟩
theorem rput_row (N:Nat) (w:World) (hN:N<18446744073709551616):
  Calls Tryz.prog 30 #[.int .u64 (N:Int)] w fun e w'=>∃ A c,e=.returned (.slice A (vputL N).length c)∧w'.ownsRow w.heap.size 5 1 (.slice A (vputL N).length c) (vputL N).length (u8s (vputL N))∧Below w.heap.size w w':=
 (vrput_any N w hN).mono fun e w' ⟨v,he,hown,hb⟩=>by
  obtain⟨A,c,rfl,_⟩:=own_in hown
  exact⟨A,c,he,hown,hb⟩
theorem rframes_any (A:Option Addr) (n c b:Nat) (ps:List (List Nat)) (w:World) (hb:b<4294967296) (h:rPts (All w) w [.slice A n c] ps) (hn40:n≤40) (hp:∀ p∈ps,p.length≤200):
  Calls Tryz.prog 44 #[.agg #[.int .u32 (b:Int),.slice A n c]] w fun e w'=>∃ B d,e=.returned (.slice B (n+2) d)∧rSlice 2 rFra (All w') w' [.slice B (n+2) d] (framesF ((b:Int),ps))∧Below w.heap.size w w':=by
 obtain⟨hn,hnc,hcm⟩:=pts_len h
 have hcm2:=hcm
 simp only[maxLen] at hcm2
 obtain⟨i0,hi,hz0,hz1,hz2⟩:=info_parts info_fr4
 obtain⟨j0,hj,hy0,hy1,hy2⟩:=info_parts info_u8
 have hB0:Below w.heap.size w (w.alloc (.cells #[.int .u32 (b:Int),.slice A n c] 60)):=(zA _ w).alloc (zW _) _
 have hbox:=Blk.new w 60 [.int .u32 (b:Int),.slice A n c]
 have NN:=fun W=>rput_in n W (by omega)
 have NB:=fun W=>rput_in b W (by omega)
 have O1:=fun W=>rput_row 1 W (by omega)
 have OI:=fun (i:Nat) W (h:i<40)=>rput_row i W (by omega)
 have hv1:vputL 1=[1]:=putL_small (by omega)
 have hvb:=vputL_len5 hb
 have hvn:vputL n=[n]:=putL_small (by omega)
 have hhd:headL b n=[1]++vputL b++[n]:=by rw[headL,hv1,hvn]
 have hbb:=vputL_byte b
 have hfr:framesF ((b:Int),ps)=((1:Int),headL b n) :: (partsF 0 ps++[((3:Int),vputL n)]):=by rw[framesF];simp only;rw[hn];rfl
 rw[hfr,hhd,hvn]
 rw[hv1] at O1
 rw[hvn] at NN
 simp only[List.length_cons,List.length_nil,Nat.zero_add] at O1 NN
 have HNB:=zZ NB
 have HNN:=zZ (NN (w.alloc (.cells #[.int .u32 (b:Int),.slice A n c] 60)))
 have HO1:=zZ O1
 have HOI:=zZ OI
 clear hfr hhd hv1 hvn NB NN O1 OI
 generalize vputL b=vb at *
 go_enter Tryz.func44,Tryz.ntmps44
 go_wp2_with fail
 refine HNN.out.mono ?_
 rintro e w1 ⟨Am,cm,rfl,hcm1,hcm3,hrm,hB1⟩
 have hx1:=hbox.below hbox.lt hB1
 have hBw1:=hB0.trans (hB1.mono hB0.size)
 have hrm1:RdIn (All w1) w1 Am (u8s [n]):=hrm.keeps (Keeps.mono fun x hx=>hx.2)
 clear HNN hbox hB0 hB1 hrm
 have hd1:Below w1.heap.size w1 w1.drew:=(zA _ w1).drew
 have hc0:w1.drew.cell? ⟨w.heap.size,0,none⟩=some (.int .u32 (b:Int)):=hx1.cell (j:=0) rfl
 go_wp2_with fail
 refine sch_start [(1,true),(2,true),(3,true),(0,false),(4,false),(5,false),(6,true)]
  (fun W=>W.cell? ⟨w.heap.size,0,none⟩=some (.int .u32 (b:Int))) (by kernel_rfl) rfl (by kernel_rfl) (fun _ _ _ _ _ h=>h) hc0 (fun hH=>?_)
 generalize w1.drew=w2 at *
 have hxl:=hx1.lt
 repeat (first | (refine sch_yes (v:=?_) rfl rfl ?_ hH ?_;rotate_left;(focus ((intro W hW;go_simp) <;> with_reducible rfl));simp only[Act.put,zY,zX,zQ]) | (refine sch_no rfl rfl hH ?_;simp only[Act.put,zY,zX,zQ]))
 refine sch_call rfl rfl (fun K hK=>?_)
 go_wp2_with (go_at_call 30;refine (HO1.out _).mono ?_;rintro e w3 ⟨A3,c3,rfl,hown3,hB3⟩)
 have h13:=hd1.trans (hB3.mono hd1.size)
 refine hK.out _ _ ((h13.cell (p:=⟨w.heap.size,0,none⟩) hxl).trans (hx1.cell (j:=0) rfl)) ?_
 clear hK
 refine sch_call rfl rfl (fun K hK=>?_)
 go_wp2_with (go_at_call 30;refine (HNB.out _).mono ?_;rintro e w4 ⟨A4,c4,rfl,hc4,hm4,hr4,hB4⟩)
 have h14:=h13.trans (hB4.mono h13.size)
 refine hK.out _ _ ((h14.cell (p:=⟨w.heap.size,0,none⟩) hxl).trans (hx1.cell (j:=0) rfl)) ?_
 clear hK
 have hown4:=own_below hown3 hB4
 have hB24:=hB3.trans (hB4.mono hB3.size)
 refine sch_call rfl rfl (fun K hK=>?_)
 refine wp_app (.tmp 12) (.tmp 16) 29 rfl w2.heap.size 5 j0 (.int .u8 0) 1 Tryz.underlying29 hj hy0 hy1 hy2 rfl _ 1 (u8s [1]) rfl hown4 A4 vb.length c4 (u8s vb) rfl (by rw[u8s_length]) (hr4.keeps (S':=All w4) (Keeps.mono fun x hx=>hx.2)) (u8s_one _) (by simp only[maxLen];omega) (by omega) hB24.size ?_
 intro v5 w5 hown5 hg5 _
 have hB25:Below w2.heap.size w2 w5:=hB24.grown hg5 hB24.size (fun k hk=>(hown4.lt k hk).1)
 have h15:=hd1.trans (hB25.mono hd1.size)
 rw[← u8s_append] at hown5
 refine hK.out _ _ ((h15.cell (p:=⟨w.heap.size,0,none⟩) hxl).trans (hx1.cell (j:=0) rfl)) ?_
 clear hK hH
 have hH:=(h15.cell (p:=⟨w.heap.size,0,none⟩) hxl).trans (hx1.cell (j:=0) rfl)
 repeat (first | (refine sch_yes (v:=?_) rfl rfl ?_ hH ?_;rotate_left;(focus ((intro W hW;go_simp) <;> with_reducible rfl));simp only[Act.put,zY,zX,zQ]) | (refine sch_no rfl rfl hH ?_;simp only[Act.put,zY,zX,zQ]))
 refine sch_done ?_
 have hrm5:Rd w5 Am (u8s [n]):=hrm1.keeps (Keeps.below h15)
 clear hH hown3 hown4 hg5 hB24 h13 h14 hB3 hB4 HO1 HNB hr4 hc0
 have hs12:=hd1.size
 go_wp2_with (first
  | (at_builtin;refine wpList_app rfl (.tmp 18) (.tmp 19) 29 rfl w2.heap.size 5 j0 (.int .u8 0) 1 Tryz.underlying29 hj hy0 hy1 hy2 rfl _ (1+vb.length) (u8s ([1]++vb)) rfl hown5 Am 1 cm (u8s [n]) rfl rfl hrm5 (u8s_one _) (by simp only[maxLen];omega) (by omega) hB25.size ?_;intro v6 w6 hown6 hg6 _;have hB26:Below w2.heap.size w2 w6:=hB25.grown hg6 hB25.size (fun k hk=>(hown5.lt k hk).1);rw[← u8s_append] at hown6;have h16:=hd1.trans (hB26.mono hd1.size);have hx6:=hx1.below hxl h16;have hrm6:RdIn (All w6) w6 Am (u8s [n]):=hrm1.keeps (Keeps.below h16);rw[show 1+vb.length+1=([1]++vb++[n]).length by simp;omega] at hown6;generalize hqq:[1]++vb++[n]=hd at hown6;have Hqq:=zZ hqq;clear hqq;obtain⟨A6,c6,rfl,hc6,hm6,hr6⟩:=own_in hown6)
  | fail)
 have hBw6:=hBw1.trans (h16.mono hBw1.size)
 have hs6:w.heap.size<w6.heap.size:=hx6.lt
 have hlb:∀ x∈hd,x<256:=by
  rw[← Hqq.out]
  intro x hx
  simp only[List.mem_append,List.mem_cons,List.not_mem_nil,or_false] at hx
  rcases hx with (rfl | hx) | rfl
  ·omega
  ·exact hbb x hx
  ·omega
 have hownL:=World.ownsRow_lit (base:=w6.heap.size) (e:=88) (size:=2) w6 #[.int .i64 1,.slice A6 hd.length c6] 1 (zW _) (by simp[maxLen]) rfl
 have hchL:Chunks 2 (rFra (fun b=>b<(w6.alloc (.cells #[.int .i64 1,.slice A6 hd.length c6] 88)).heap.size∧some b≠(Value.slice (some ⟨w6.heap.size,0,none⟩) 1 1).ownBlock) (w6.alloc (.cells #[.int .i64 1,.slice A6 hd.length c6] 88))) [.int .i64 1,.slice A6 hd.length c6] [((1:Int),hd)]:=
  Chunks.one (size:=2) rfl (rFra_mk (f:=((1:Int),hd)) hc6 hm6 hlb (show (Lit.int .i64 1).wf=true by decide) (hr6.keeps fun x hx=>⟨⟨by rw[World.size_alloc];omega,by simp[Value.ownBlock];omega⟩,Below.heap_alloc w6 _ x hx.2⟩))
 have hBL:Below w6.heap.size w6 (w6.alloc (.cells #[.int .i64 1,.slice A6 hd.length c6] 88)):=(zA _ w6).alloc (zW _) _
 have HchL:=zZ hchL
 clear hchL hr6 hown5 hown6 hg6 hrm5 hx1 hB25 hB26 h15 h16 hd1
 go_loopw [5,6] (fun v iv wr=>∃ (i:Nat) (xs:List Value),i≤n∧iv=.int .i64 (i:Int)∧wr.ownsRow w6.heap.size 88 2 v (i+1) xs∧Hid (Chunks 2 (rFra (fun b=>b<wr.heap.size∧some b≠v.ownBlock) wr) xs (((1:Int),hd) :: partsF 0 (ps.take i)))∧Below w6.heap.size w6 wr) (fun _ iv _=>n - (intOf iv).toNat)
 case atStart=>exact⟨0,_,by omega,rfl,hownL,HchL,hBL⟩
 case round=>
  obtain⟨i,xs,hile,rfl,hown,Hch,hB⟩:=hrel
  clear HchL hownL hBL
  have x1:=(hx6.below hs6 hB).cell (j:=1) rfl
  by_cases hin:i<n
  ·obtain⟨p,hli⟩:∃ p,ps[i]?=some p:=⟨ps[i],zV (by omega)⟩
   obtain⟨b1,off1,A1,c1,rfl,hb1,hx1,hpc1,hpm1,hpb1,hr1⟩:=pts_at h hli
   have hpl:=hp p (List.mem_of_getElem? hli)
   have htk:partsF 0 (ps.take (i+1))=partsF 0 (ps.take i)++[((2:Int),vputL i++p)]:=by
    rw[List.take_add_one,hli,partsF_append,List.length_take,Nat.min_eq_left (by omega),Nat.zero_add]
    rfl
   have hvl:=vputL_len5 (n:=i) (by omega)
   have hvi:=vputL_byte i
   have HO:=zZ (fun W=>HOI.out i W (by omega))
   have HF:=zZ (fun (W:World) (hW:Below w6.heap.size w6 W)=>And.intro ((hx6.below hs6 hW).cell (j:=1) rfl) (((hBw6.trans (hW.mono hBw6.size)).cell (p:=⟨b1,off1+i,none⟩) hb1).trans hx1))
   have HR:=zZ (fun (W:World) (hW:Below w6.heap.size w6 W)=>(RdIn.rd hr1).below (hBw6.trans (hW.mono hBw6.size)))
   have Htk:=zZ htk
   clear htk hli hx1 hr1
   generalize vputL i=vi at *
   have hil:(i:Int)<(n:Int):=by omega
   have hi0:(0:Int)≤(i:Int):=by omega
   have hBd:=hB.drew
   have hownd:wr.drew.ownsRow w6.heap.size 88 2 _ (i+1) xs:=hown
   have hdd:Below wr.heap.size wr wr.drew:=(zA _ wr).drew
   have hszd:wr.drew.heap.size=wr.heap.size:=rfl
   go_wp2_with fail
   refine sch_start [(0,true),(1,true),(2,true),(4,true),(5,true),(6,true),(7,true),(8,true),(3,false),(9,false),(10,true),(11,false),(12,false),(13,true)]
    (fun W=>Below w6.heap.size w6 W) (by kernel_rfl) rfl (by kernel_rfl) (fun _ _ _ _ _ h=>h) hBd (fun hH=>?_)
   generalize wr.drew=wd at *
   repeat (first | (refine sch_yes (v:=?_) rfl rfl ?_ hH ?_;rotate_left;(focus ((intro W hW;obtain⟨u1,u2⟩:=HF.out W hW;go_simp) <;> with_reducible rfl));simp only[Act.put,zY,zX,zQ]) | (refine sch_no rfl rfl hH ?_;simp only[Act.put,zY,zX,zQ]))
   refine sch_call rfl rfl (fun K hK=>?_)
   go_wp2_with (go_at_call 30;refine (HO.out _).mono ?_;rintro e w7 ⟨A7,c7,rfl,hown7,hB7⟩)
   have h67:=hBd.trans (hB7.mono hBd.size)
   refine hK.out _ _ h67 ?_
   clear hK
   refine sch_call rfl rfl (fun K hK=>?_)
   refine wp_app (.tmp 34) (.tmp 39) 29 rfl wd.heap.size 5 j0 (.int .u8 0) 1 Tryz.underlying29 hj hy0 hy1 hy2 rfl _ vi.length (u8s vi) rfl hown7 A1 p.length c1 (u8s p) rfl (by rw[u8s_length]) (HR.out _ h67) (u8s_one _) (by simp only[maxLen];omega) (by omega) hB7.size ?_
   intro v8 w8 hown8 hg8 _
   have hB8:Below wd.heap.size wd w8:=hB7.grown hg8 hB7.size (fun k hk=>(hown7.lt k hk).1)
   have h68:=hBd.trans (hB8.mono hBd.size)
   rw[← u8s_append,← List.length_append] at hown8
   generalize hq:vi++p=q at hown8
   have Hq:=zZ hq
   have hqb:∀ x∈q,x<256:=by
    rw[← hq]
    intro x hx
    rcases List.mem_append.1 hx with hx | hx
    ·exact hvi x hx
    ·exact hpb1 x hx
   clear hq
   obtain⟨A8,c8,rfl,hc8,hm8,hr8⟩:=own_in hown8
   refine hK.out _ _ h68 ?_
   clear hK hH
   have hH:=h68
   obtain⟨hownS,hrdS,hBS,hszS,hchS⟩:=fr_step2 (F:=((2:Int),q)) hB hown Hch.out hB.size (hdd.trans (hB8.mono hdd.size)) (hr8.keeps (Keeps.mono fun x hx=>⟨hx.2,fun e=>by have:=(hown.lt x e.symm).2;omega⟩)) hc8 hm8 hqb (show (Lit.int .i64 2).wf=true by decide)
   have HchS:=zZ hchS
   clear hchS hr8 Hch
   repeat (first | (refine sch_yes (v:=?_) rfl rfl ?_ hH ?_;rotate_left;(focus ((intro W hW;obtain⟨u1,u2⟩:=HF.out W hW;go_simp) <;> with_reducible rfl));simp only[Act.put,zY,zX,zQ]) | (refine sch_no rfl rfl hH ?_;simp only[Act.put,zY,zX,zQ]))
   refine sch_call rfl rfl (fun K hK=>?_)
   go_wp2
   refine hK.out _ _ hBS ?_
   clear hK hH
   refine sch_call rfl rfl (fun K hK=>?_)
   refine wp_apps (.tmp 31) (.tmp 42) 84 rfl w6.heap.size 88 i0 (.agg #[.int .i64 0,.slice none 0 0]) 2 32 Tryz.underlying84 hi hz0 hz1 hz2 rfl (by omega) _ (i+1) xs rfl hownS (some ⟨w8.heap.size,0,none⟩) 1 1 [.int .i64 2,.slice A8 q.length c8] rfl rfl hrdS (by simp[Value.oneCell']) (by simp only[maxLen];omega) (by omega) hszS ?_
   intro v9 w9 hown9 hg9 hv9
   have hB9:=hBS.grown hg9 hszS (fun k hk=>(hownS.lt k hk).1)
   refine hK.out _ _ hB9 ?_
   clear hK
   have hH:=hB9
   repeat (first | (refine sch_yes (v:=?_) rfl rfl ?_ hH ?_;rotate_left;(focus ((intro W hW;obtain⟨u1,u2⟩:=HF.out W hW;go_simp) <;> with_reducible rfl));simp only[Act.put,zY,zX,zQ]) | (refine sch_no rfl rfl hH ?_;simp only[Act.put,zY,zX,zQ]))
   refine sch_done ?_
   go_wp2
   go_roundw
   case rel=>
    refine⟨i+1,_,by omega,by go_num,hown9,zZ ?_,hB9⟩
    rw[Htk.out,Hq.out,← List.cons_append]
    exact HchS.out.imp (fun cs a h=>rFra_stays.to (Keeps.grown hg9 hv9) h)
   case measure=>simp[intOf];omega
  ·obtain rfl:i=n:=by omega
   rw[List.take_of_length_le (by omega)] at Hch
   have hvl:=hown.lt
   obtain⟨hownS,hrdS,hBS,hszS,hchS⟩:=fr_step2 (F:=((3:Int),[i])) hB hown Hch.out hB.size (zA _ wr) (hrm6.keeps fun x hx=>⟨⟨Nat.lt_of_lt_of_le hx hB.size,fun e=>by have:=(hvl x e.symm).1;have hx':x<w6.heap.size:=hx;omega⟩,hB.block x hx⟩) (by simpa using hcm1) hcm3 (by intro x hx;simp at hx;omega) (show (Lit.int .i64 3).wf=true by decide)
   have HchS:=zZ hchS
   clear hchS Hch
   simp only[List.length_cons,List.length_nil,Nat.zero_add] at hownS hrdS hBS hszS HchS
   go_wp2_with (first
    | (at_builtin;refine wpList_apps rfl (.tmp 44) (.tmp 47) 84 rfl w6.heap.size 88 i0 (.agg #[.int .i64 0,.slice none 0 0]) 2 32 Tryz.underlying84 hi hz0 hz1 hz2 rfl (by omega) _ (i+1) xs rfl hownS (some ⟨wr.heap.size,0,none⟩) 1 1 [.int .i64 3,.slice Am 1 cm] rfl rfl hrdS (by simp[Value.oneCell']) (by simp only[maxLen];omega) (by omega) hszS ?_;intro v9 w9 hown9 hg9 hv9;obtain⟨A9,c9,rfl⟩:=own_slice2 hown9)
    | fail)
   go_ret
   have hch9:=HchS.out.imp (fun cs a h=>rFra_stays.to (Keeps.grown hg9 hv9) h)
   have hqq:=Hqq.out
   subst hqq
   exact⟨_,_,rfl,own_rSlice rFra_stays hown9 (by simp[partsF_length];omega) hch9,hBw6.trans ((hBS.grown hg9 hszS (fun k hk=>(hownS.lt k hk).1)).mono hBw6.size)⟩
theorem rfput_any (A:Option Addr) (n c b:Nat) (ps:List (List Nat)) (w:World) (hb:b<4294967296) (h:rPts (All w) w [.slice A n c] ps) (hpb:∀ p∈ps,∀ x∈p,x<256):
  Calls Tryz.prog 19 #[.agg #[.int .u32 (b:Int),.slice A n c]] w fun e w'=>∃ B m cap E,e=.returned (.tuple #[.slice B m cap,.int .i64 ((E:Nat):Int)])∧FPutSays ((b:Int),ps) w' B m cap E∧Below w.heap.size w w':=by
 obtain⟨hn,hnc,hcm⟩:=pts_len h
 obtain⟨j0,hj,hy0,hz1,hz2⟩:=info_parts info_u8
 have hB0:Below w.heap.size w (w.alloc (.cells #[.int .u32 (b:Int),.slice A n c] 60)):=(zA _ w).alloc (zW _) _
 have M1:=zZ (rmay_any A n c ((b:Int),ps) _ (rPts_stays.to (Keeps.below hB0) h))
 have hbox:=Blk.new w 60 [.int .u32 (b:Int),.slice A n c]
 cases hmay:mayB ((b:Int),ps) with
 | false=>
  rw[hmay] at M1
  go_enter Tryz.func19,Tryz.ntmps19
  go_wp2_with fail
  refine M1.out.mono ?_
  rintro e w1 ⟨rfl,hB1⟩
  go_wp2
  go_ret2
  exact⟨none,0,0,1,rfl,.inr ⟨hmay,rfl,rfl,rfl,rfl⟩,hB0.trans (hB1.mono hB0.size)⟩
 | true=>
  rw[hmay] at M1
  have hok:OkF ((b:Int),ps):=⟨by simp,by simp only;omega,hmay,hpb⟩
  have hfew:n≤40:=by rw[← hn];exact hok.few
  have F1:=zZ (fun W h'=>rframes_any A n c b ps W hb h' hfew hok.short)
  have hfit:=framesF_fit hok
  have hfl:=framesF_length ((b:Int),ps)
  have hflow:flowB ((b:Int),ps)=catL (framesF ((b:Int),ps)):=rfl
  have hlen:=flowB_len hok
  simp only at hfl
  rw[hn] at hfl
  generalize framesF ((b:Int),ps)=fr at *
  have Hflow:=zZ hflow
  have Hfit:=zZ hfit
  clear hflow hfit hok
  go_enter Tryz.func19,Tryz.ntmps19
  go_wp2_with fail
  refine M1.out.mono ?_
  rintro e w1 ⟨rfl,hB1⟩
  have hbox1:=hbox.below hbox.lt hB1
  have hx0:=hbox1.cell (j:=0) rfl
  have hx1:=hbox1.cell (j:=1) rfl
  have hBw1:=hB0.trans (hB1.mono hB0.size)
  have F2:=zZ (F1.out w1 (rPts_stays.to (Keeps.below hBw1) h))
  clear F1 M1
  go_wp2_with fail
  refine F2.out.mono ?_
  rintro e w2 ⟨B2,d2,rfl,hsl,hB2⟩
  have hBw2:=hBw1.trans (hB2.mono hBw1.size)
  clear F2 hbox1 hx0 hx1 hbox hB0 hB1 hB2 hBw1 h
  go_wp2_with fail
  go_loopw [5,7] (fun v iv wr=>∃ i:Nat,i≤n+2∧iv=.int .i64 (i:Int)∧wr.ownsRow w2.heap.size 5 1 v (catL (fr.take i)).length (u8s (catL (fr.take i)))∧Below w2.heap.size w2 wr) (fun _ iv _=>n+2 - (intOf iv).toNat)
  case atStart=>exact⟨0,by omega,rfl,World.ownsRow_nil _ _ _ _,zA _ _⟩
  case round=>
   obtain⟨i,hile,rfl,hown,hB⟩:=hrel
   by_cases hin:i<n+2
   ·obtain⟨F,hli⟩:∃ F,fr[i]?=some F:=⟨fr[i],zV (by omega)⟩
    obtain⟨b1,off1,A1,c1,rfl,hb1,hx1,hy1,hby1,hwf1,hr1⟩:=fra_at hsl hli
    have hx1':=(hB.cell (p:=⟨b1,off1+i * 2,none⟩) hb1).trans hx1
    have hy1':=(hB.cell (p:=⟨b1,off1+i * 2+1,none⟩) hb1).trans hy1
    obtain⟨hk0,hk1,hk2,_⟩:=Hfit.out F (List.mem_of_getElem? hli)
    have htk:catL (fr.take (i+1))=catL (fr.take i)++putL F.1.toNat F.2:=by
     rw[List.take_add_one,hli,catL_append]
     simp[catL]
    have hpl:(catL (fr.take i)).length≤11130:=by
     have:=catL_len (fr.take i) fun x hx=>Hfit.out x (List.mem_of_mem_take hx)
     rw[List.length_take] at this
     omega
    obtain⟨q,hq⟩:=Int.eq_ofNat_of_zero_le hk0
    rw[hq] at htk hk1 hx1'
    have hqn:((q:Int)).toNat=q:=rfl
    rw[hqn] at htk
    have P1:∀ W,Rd W A1 (u8s F.2)→Calls Tryz.prog 45 #[.agg #[.int .i64 (q:Int),.slice A1 F.2.length c1]] W fun e w'=>∃ B cap,e=.returned (.tuple #[.slice B (F.2.length+10) cap,.int .i64 0])∧Rd w' B (u8s (putL q F.2))∧Below W.heap.size W w':=fun W hW=>
     (rput_any (q:Int) A1 c1 F.2 W hby1 hW).mono fun e w' ⟨B,m,cap,E,he,hs,hB⟩=>by
      rcases hs with⟨_,_,_,rfl,rfl,_,hrd⟩ | ⟨hno,_⟩
      ·exact⟨B,cap,he,hrd,hB⟩
      ·exact absurd ⟨by omega,hk1,hk2⟩ hno
    have HP1:=zZ (P1 wr ((RdIn.rd hr1).below hB))
    have Htk:=zZ htk
    clear htk hq hqn hli hx1 hy1 hr1 hwf1 hby1 P1
    have hplen:=putL_length q F.2
    generalize F.2=body at *
    generalize putL q body=pb at *
    generalize catL (fr.take i)=pre at *
    have hil:(i:Int)<((n+2:Nat):Int):=by omega
    have hi0:(0:Int)≤(i:Int):=by omega
    go_wp2_with fail
    refine HP1.out.mono ?_
    rintro e w3 ⟨B3,cap3,rfl,hr3,hB3⟩
    have hown3:=own_below hown hB3
    have hB4:=hB.trans (hB3.mono hB.size)
    clear HP1 hB3
    go_wp2_with (first
     | (at_builtin;refine wpList_app rfl (.tmp 30) (.tmp 31) 29 rfl w2.heap.size 5 j0 (.int .u8 0) 1 Tryz.underlying29 hj hy0 hz1 hz2 rfl _ pre.length (u8s pre) rfl hown3 B3 (body.length+10) cap3 (u8s pb) rfl (by rw[u8s_length,hplen]) hr3 (u8s_one _) (by simp only[maxLen];omega) (by omega) hB4.size ?_;intro v5 w5 hown5 hg5 _)
     | fail)
    go_roundw
    case rel=>
     refine⟨i+1,by omega,by go_num,?_,hB4.grown hg5 hB4.size (fun k hk=>(hown3.lt k hk).1)⟩
     rw[Htk.out,u8s_append,List.length_append,hplen]
     exact hown5
    case measure=>simp[intOf];omega
   ·obtain rfl:i=n+2:=by omega
    rw[List.take_of_length_le (by omega)] at hown
    rw[← Hflow.out] at hown
    go_wp2
    go_ret2
    obtain⟨A5,c5,rfl,hc5,hm5,hr5⟩:=own_in hown
    exact⟨A5,_,c5,0,rfl,.inl ⟨hmay,rfl,rfl,hc5,hm5,hr5.keeps (Keeps.mono fun x hx=>hx.2)⟩,hBw2.trans (hB.mono hBw2.size)⟩
end Go.Proofs.YtdlkmjfbmenedaaGreatDoor
namespace Go.Proofs.YtdlkmjfbmenedaaGreatDoor
def bodyDrop (F:Fra):List Nat:=F.2.drop (getL F.2).2
def guessBase:List Fra→Nat
 | []=>0
 | F :: _=>(getL (bodyDrop F)).1 % 4294967296
def bAt (l:List Fra) (i:Nat):Nat:=if i=0 then 0 else guessBase l
def pAt (l:List Fra) (i:Nat):List (List Nat):=((l.take (min i (l.length - 1))).drop 1).map bodyDrop
def guessF (l:List Fra):Flo:=((bAt l l.length:Nat),pAt l l.length)
theorem pAt_zero (l:List Fra):pAt l 0=[]:=by simp[pAt]
theorem pAt_one (l:List Fra):pAt l 1=[]:=by
 rw[pAt]
 have:((l.take (min 1 (l.length - 1))).drop 1)=[]:=List.eq_nil_of_length_eq_zero (by rw[List.length_drop,List.length_take];omega)
 rw[this];rfl
theorem pAt_mid {l:List Fra} {i:Nat} {F:Fra} (h0:0<i) (h1:i<l.length - 1) (hF:l[i]?=some F):pAt l (i+1)=pAt l i++[bodyDrop F]:=by
 rw[pAt,pAt,Nat.min_eq_left (by omega),Nat.min_eq_left (by omega),List.take_add_one,hF,List.drop_append_of_le_length (by rw[List.length_take];omega),List.map_append]
 rfl
theorem pAt_last {l:List Fra} {i:Nat} (h:l.length - 1≤i):pAt l (i+1)=pAt l i:=by rw[pAt,pAt,Nat.min_eq_right (by omega),Nat.min_eq_right (by omega)]
theorem pAt_len (l:List Fra) (i:Nat):(pAt l i).length≤i:=by rw[pAt,List.length_map,List.length_drop,List.length_take];omega
theorem bAt_lt (l:List Fra) (i:Nat):bAt l i<4294967296:=by
 rw[bAt]
 split
 ·omega
 ·cases l with
  | nil=>simp[guessBase]
  | cons F l=>exact Nat.mod_lt _ (by omega)
theorem map_parts:∀ (ps:List (List Nat)) (k:Nat),k+ps.length≤18446744073709551616→(partsF k ps).map bodyDrop=ps
 | [],_,_=>rfl
 | p :: r,k,h=>by
  simp only[List.length_cons] at h
  simp only[partsF,List.map_cons]
  rw[map_parts r (k+1) (by omega)]
  congr 1
  rw[bodyDrop]
  simp only
  rw[getL_put k p (by omega),List.drop_left]
theorem guess_frames {f:Flo} (hf:OkF f):guessF (framesF f)=f:=by
 have hfew:=hf.few
 have hb:=hf.base
 have hlen:=framesF_length f
 refine Prod.ext ?_ ?_
 ·have h1:bodyDrop ((1:Int),headL f.1.toNat f.2.length)=vputL f.1.toNat++vputL f.2.length:=by
   rw[bodyDrop]
   simp only
   rw[headL,List.append_assoc,getL_put 1 _ (by omega),List.drop_left]
  have h2:guessBase (framesF f)=f.1.toNat:=by
   show (getL (bodyDrop ((1:Int),headL f.1.toNat f.2.length))).1 % 4294967296=_
   rw[h1,getL_put _ _ (by omega)]
   exact Nat.mod_eq_of_lt hb.1
  show ((bAt (framesF f) (framesF f).length:Nat):Int)=f.1
  rw[bAt,if_neg (by omega),h2,hb.2]
 ·show pAt (framesF f) (framesF f).length=f.2
  rw[pAt,hlen,Nat.min_eq_right (by omega)]
  have h3:((framesF f).take (f.2.length+2 - 1)).drop 1=partsF 0 f.2:=by
   rw[show f.2.length+2 - 1=f.2.length+1 by omega,framesF,List.take_succ_cons,List.drop_succ_cons,List.drop_zero,List.take_append_of_le_length (by rw[partsF_length];omega),List.take_of_length_le (by rw[partsF_length];omega)]
  rw[h3,map_parts _ _ (by omega)]
theorem guess_byte {l:List Fra} (hl:∀ x∈l,Fit x) (i:Nat):∀ p∈pAt l i,∀ x∈p,x<256:=by
 intro p hp x hx
 rw[pAt] at hp
 obtain⟨F,hF,rfl⟩:=List.mem_map.1 hp
 exact (hl F (List.mem_of_mem_take (List.mem_of_mem_drop hF))).2.2.2 x (List.mem_of_mem_drop hx)
theorem getFl_guess {bs:List Nat} (hb:∀ x∈bs,x<256) (he:(allL bs).1=0):
  (mayB (guessF (allL bs).2)=true∧flowB (guessF (allL bs).2)=bs→getFl bs=(guessF (allL bs).2,0))∧(¬ (mayB (guessF (allL bs).2)=true∧flowB (guessF (allL bs).2)=bs)→getFl bs=((0,[]),4)):=by
 obtain⟨_,hfit⟩:=allL_back bs.length bs (zW _) hb he
 constructor
 ·rintro⟨hm,hf⟩
  have hlt:=bAt_lt (allL bs).2 (allL bs).2.length
  have hok:OkF (guessF (allL bs).2):=⟨by simp[guessF],by simp only[guessF];omega,hm,guess_byte hfit _⟩
  have:=getFl_put hok
  rw[hf] at this
  exact this
 ·intro hno
  have hne:flowOf (allL bs).2=none:=by
   cases h:flowOf (allL bs).2 with
   | none=>rfl
   | some f=>
    obtain⟨hok,hl⟩:=flowOf_back hfit h
    have hg:=guess_frames hok
    rw[← hl] at hg
    refine absurd ⟨by rw[hg];exact hok.may,?_⟩ hno
    rw[hg,flowB,← hl]
    exact (allL_back bs.length bs (zW _) hb he).1
  rw[getFl,if_neg (by simpa using he),hne]
end Go.Proofs.YtdlkmjfbmenedaaGreatDoor
namespace Go.Proofs.YtdlkmjfbmenedaaGreatDoor
open Go.RowKit
theorem rall_any (A:Option Addr) (c n:Nat) (bs:List Nat) (w:World) (hn:bs.length=n) (hc:n≤c) (hb:∀ x∈bs,x<256) (hr:Rd w A (u8s bs)) (hlen:n≤1000000000):
  Calls Tryz.prog 57 #[.slice A n c] w fun e w'=>∃ v,e=.returned (.tuple #[v,.int .i64 ((allL bs).1:Int)])∧rSlice 2 rFra (All w') w' [v] (allL bs).2∧Below w.heap.size w w':=by
 have h0:AllAt w bs A n c (.slice none 0 0) w bs [] []:=⟨hn,hc,by simp;omega,hb,hr,World.ownsRow_nil _ _ _ _,Chunks.nil,joinL_nil bs,zA _ _⟩
 obtain⟨hz,hsz⟩:=zero_of_info info_fr
 obtain⟨i0,hi,hz0,hz1,hz2⟩:=info_parts info_fr4
 go_enter Tryz.func57,Tryz.ntmps57
 go_wp2
 go_loopw [4,5] (fun lv iv wr=>∃ (k:Nat) (B:Option Addr) (pre:List Fra) (xs:List Value),k≤n∧iv=.int .i64 (k:Int)∧AllAt w bs B (n - k) (c - k) lv wr (bs.drop k) pre xs) (fun _ iv _=>n - (intOf iv).toNat)
 case atStart=>exact⟨0,A,[],[],by omega,rfl,by simpa using h0⟩
 case round=>
  obtain⟨k,B,pre,xs,hk,rfl,H⟩:=hrel
  obtain⟨hm,hd,hroom,hby,hrd,hown,hch,hall,hB⟩:=H
  by_cases hkn:k<n
  ·have hA:∃ b off,A=some ⟨b,off,none⟩:=by
    obtain⟨b,off,e,_⟩:=hr.at (k:=0) (by simp;omega)
    exact⟨b,off,e⟩
   obtain⟨b,off,rfl⟩:=hA
   have hrd':Rd w (some ⟨b,off+k,none⟩) (u8s (bs.drop k)):=by rw[← u8s_drop];exact hr.drop k
   have hbn:bs.drop k≠[]:=fun h=>by rw[h] at hm;simp at hm;omega
   have G:=rget_any (some ⟨b,off+k,none⟩) (c - k) (n - k) (bs.drop k) wr hm hd hby (hrd'.below hB) (by omega)
   have hjb:=fun h=>joinL_bad (pre:=pre) hbn h
   have hjs:=fun h=>joinL_step (pre:=pre) hbn h
   have hfb:=getF_byte hby
   have hgp:=fun h=>getN_pos (bs:=bs.drop k) h
   have hkf:getE (bs.drop k)=0→(Lit.int .i64 (getF (bs.drop k)).1).wf=true:=fun h=>by
    obtain⟨hf,_⟩:=get_fine h
    rw[hf]
    have:(bs.drop k).getD 0 0<256:=by
     have hp:0<(bs.drop k).length:=by omega
     simp only[List.getD_eq_getElem?_getD,zV hp,Option.getD_some]
     exact hby _ (List.getElem_mem _)
    generalize (bs.drop k).getD 0 0=q at this
    simp[Lit.wf,IntKind.min,IntKind.max,IntKind.signed,IntKind.bits]
    omega
   generalize hE:getE (bs.drop k)=E at *
   generalize hF:getF (bs.drop k)=F at *
   generalize hN:getN (bs.drop k)=N at *
   have Hall:=zZ hall
   have HG:=zZ G
   have Hjb:=zZ hjb
   have Hjs:=zZ hjs
   have Hgp:=zZ hgp
   have Hkf:=zZ hkf
   have Hch:=zZ hch
   clear hall G hjb hjs hgp hE hF hN hkf hch hrd hrd'
   have hk1:(k:Int)<(n:Int):=by omega
   have hk2:(k:Int)≤(n:Int):=by omega
   have hk3:(n:Int)≤(c:Int):=by omega
   have hk4:¬ c=k:=by omega
   have hk5:k≤n:=hk
   go_wp2_with fail
   refine HG.out.mono ?_
   rintro e w1 ⟨A',c',rfl,hc',hm',hrd1,hB1⟩
   clear HG
   by_cases hE:E=0
   ·subst hE
    obtain⟨hN1,hN2⟩:=Hgp.out rfl
    rw[hm] at hN2
    have hA:Below w1.heap.size w1 ((w1.alloc (.cells #[.int .i64 F.1,.slice A' F.2.length c'] 88)).alloc (.cells #[.int .i64 F.1,.slice A' F.2.length c'] 88)):=((zA _ w1).alloc (zW _) _).alloc (by simp) _
    have hB3:Below wr.heap.size wr _:=hB1.trans (hA.mono hB1.size)
    have hbx:Rd ((w1.alloc (.cells #[.int .i64 F.1,.slice A' F.2.length c'] 88)).alloc (.cells #[.int .i64 F.1,.slice A' F.2.length c'] 88)) (some ⟨w1.heap.size+1,0,none⟩) [.int .i64 F.1,.slice A' F.2.length c']:=by
     have:=(Blk.new (w1.alloc (.cells #[.int .i64 F.1,.slice A' F.2.length c'] 88)) 88 [.int .i64 F.1,.slice A' F.2.length c']).rd
     rw[show (w1.alloc (.cells #[.int .i64 F.1,.slice A' F.2.length c'] 88)).heap.size=w1.heap.size+1 by simp] at this
     exact this
    have hown3:=own_below hown hB3
    have hvl:=hown.lt
    have hkn:Keeps (fun x=>wr.heap.size≤x∧x<w1.heap.size) (fun x=>x<((w1.alloc (.cells #[.int .i64 F.1,.slice A' F.2.length c'] 88)).alloc (.cells #[.int .i64 F.1,.slice A' F.2.length c'] 88)).heap.size∧some x≠u4.ownBlock) w1 _:=fun x ⟨h1,h2⟩=>
     ⟨⟨Nat.lt_of_lt_of_le h2 hA.size,fun e=>by have:=(hvl x e.symm).2;omega⟩,hA.block x h2⟩
    have hko:Keeps (fun x=>x<wr.heap.size∧some x≠u4.ownBlock) (fun x=>x<((w1.alloc (.cells #[.int .i64 F.1,.slice A' F.2.length c'] 88)).alloc (.cells #[.int .i64 F.1,.slice A' F.2.length c'] 88)).heap.size∧some x≠u4.ownBlock) wr _:=fun x ⟨h1,h2⟩=>
     ⟨⟨Nat.lt_of_lt_of_le h1 hB3.size,h2⟩,hB3.block x h1⟩
    have hch3:=(Hch.out.imp (fun cs a h=>rFra_stays.to hko h)).append (Chunks.one (size:=2) rfl (rFra_mk (f:=F) hc' hm' hfb (Hkf.out rfl) (hrd1.keeps hkn)))
    have hB3':Below w.heap.size w _:=hB.trans (hB3.mono hB.size)
    have Hch3:=zZ hch3
    have Hjs3:=zZ (Hall.out.symm.trans (Hjs.out rfl)).symm
    clear hch3 hkn hko Hch Hjs Hjb Hgp Hkf hrd1 hB1 hA hown hB3 Hall
    rw[List.drop_drop] at Hjs3
    have hw1:IntKind.i64.wrap ((k:Int)+(N:Int))=(k:Int)+(N:Int):=IntWalk.i64_in _ (by omega)
    go_wp2_with (first
     | (at_builtin;refine wpList_apps rfl (.tmp 24) (.tmp 26) 84 rfl w.heap.size 88 i0 (.agg #[.int .i64 0,.slice none 0 0]) 2 32 Tryz.underlying84 hi hz0 hz1 hz2 rfl (by omega) u4 pre.length xs rfl hown3 (some ⟨w1.heap.size+1,0,none⟩) 1 1 [.int .i64 F.1,.slice A' F.2.length c'] rfl rfl hbx (by simp[Value.oneCell']) (by simp only[maxLen];omega) (by omega) hB3'.size ?_;intro v4 w4 hown4 hg4 hv4)
     | fail)
    go_roundw
    case rel=>
     refine⟨k+N,some ⟨b,off+(k+N),none⟩,pre++[F],xs++[.int .i64 F.1,.slice A' F.2.length c'],by omega,by go_num,?_⟩
     exact⟨by rw[List.length_drop];omega,by omega,by rw[List.length_append];simp only[List.length_cons,List.length_nil];omega,fun x hx=>hb x (List.mem_of_mem_drop hx),by rw[← u8s_drop];exact hr.drop (k+N),by rw[List.length_append];exact hown4,
      Hch3.out.imp (fun cs a h=>rFra_stays.to (Keeps.grown hg4 hv4) h),Hjs3.out,hB3'.grown hg4 hB3'.size (fun k hk=>(hown3.lt k hk).1)⟩
    case measure=>simp[intOf];omega
   ·have hE':((E:Int) != 0)=true:=by rw[bne_iff_ne];omega
    go_wp2
    go_ret2
    rw[← Hall.out,Hjb.out hE]
    exact⟨.slice none 0 0,rfl,⟨none,0,[],rfl,zW _,Nat.zero_le _,.inl rfl,Chunks.nil⟩,(hB.trans (hB1.mono hB.size)).alloc (Nat.le_trans hB.size hB1.size) _⟩
  ·obtain rfl:k=n:=by omega
   rw[List.drop_of_length_le (by omega),joinL_end] at hall
   have Hall:=zZ hall
   clear hall
   go_wp2
   go_ret2
   rw[← Hall.out]
   exact⟨_,rfl,own_rSlice rFra_stays hown rfl hch,hB⟩
structure GAt (T:Nat→Prop) (B g b:Nat) (ps:List (List Nat)) (w:World) (A:Option Addr) (c:Nat) (xs:List Value):Prop where
 low:B≤g
 old:∀ x,T x→x<B
 blk:Blk w g 60 [.int .u32 (b:Int),.slice A ps.length c]
 row:w.ownsRow B 29 1 (.slice A ps.length c) ps.length xs
 parts:Chunks 1 (rBytes T w) xs ps
section
variable {T : Nat → Prop} {B g b : Nat} {ps : List (List Nat)} {w w' : World} {A : Option Addr} {c : Nat} {xs : List Value}
theorem GAt.other (h:GAt T B g b ps w A c xs):∀ k,(Value.slice A ps.length c).ownBlock=some k→k≠g:=by
 rintro k hk rfl
 rcases h.row.2 with⟨e,_⟩ | ⟨g',cap,cur,e,_,hg,_⟩
 ·rw[e] at hk;simp[Value.ownBlock] at hk
 ·rw[e] at hk
  simp[Value.ownBlock] at hk
  subst hk
  have:=hg.symm.trans h.blk
  injection this with this
  injection this with _ e2
  exact absurd e2 (by decide)
theorem GAt.keepT (h:GAt T B g b ps w A c xs) (hB:Below B w w'):Keeps T T w w':=fun x hx=>⟨hx,hB.block x (h.old x hx)⟩
theorem GAt.below (h:GAt T B g b ps w A c xs) (hB:Below w.heap.size w w') (hs:B≤w.heap.size):GAt T B g b ps w' A c xs:=
 ⟨h.low,h.old,h.blk.below h.blk.lt hB,own_below h.row hB,h.parts.imp fun _ _ hr=>rBytes_stays.to (h.keepT (hB.mono hs)) hr⟩
theorem GAt.only (h:GAt T B g b ps w A c xs) (hO:Only g w w') {b':Nat} (hb:Blk w' g 60 [.int .u32 (b':Int),.slice A ps.length c]):GAt T B g b' ps w' A c xs:=by
 refine⟨h.low,h.old,hb,⟨h.row.1,?_⟩,h.parts.imp fun _ _ hr=>rBytes_stays.to (h.keepT (hO.bel.mono h.low)) hr⟩
 rcases h.row.2 with h1 | ⟨g',cap,cur,h1,h2,h3,h4⟩
 ·exact .inl h1
 ·exact .inr ⟨g',cap,cur,h1,h2,(hO.block g' (h.other g' (by rw[h1];rfl))).trans h3,h4⟩
theorem GAt.pts (h:GAt T B g b ps w A c xs):rPts (fun x=>T x∨(B≤x∧x<w.heap.size)) w [.slice A ps.length c] ps:=by
 obtain⟨A',c',hv,h1,h2,h3⟩:=own_in h.row
 injection hv with e1 _ e3
 subst e1 e3
 exact⟨A,c,xs,rfl,h1,h2,h3.keeps (Keeps.mono fun x hx=>.inr hx),h.parts.imp fun _ _ hr=>rBytes_stays.to (Keeps.mono fun x hx=>.inl hx) hr⟩
theorem GAt.more {A':Option Addr} {c':Nat} {q:List Nat} (h:GAt T B g b ps w A c xs) (hs:B≤w.heap.size) (hr1:RdIn T w A' (u8s q)) (hc':q.length≤c') (hm':c'≤maxLen) (hq:∀ x∈q,x<256):
  (w.alloc (.cells #[.slice A' q.length c'] 29)).ownsRow B 29 1 (.slice A ps.length c) ps.length xs∧Rd (w.alloc (.cells #[.slice A' q.length c'] 29)) (some ⟨w.heap.size,0,none⟩) [.slice A' q.length c']∧B≤(w.alloc (.cells #[.slice A' q.length c'] 29)).heap.size ∧
  ∀ v3 w3,w3.ownsRow B 29 1 v3 (ps.length+1) (xs++[.slice A' q.length c'])→(w.alloc (.cells #[.slice A' q.length c'] 29)).grownBy w3 (Value.slice A ps.length c).ownBlock→(v3.ownBlock=(Value.slice A ps.length c).ownBlock∨v3.ownBlock=some (w.alloc (.cells #[.slice A' q.length c'] 29)).heap.size) →
   Blk w3 g 60 [.int .u32 (b:Int),.slice A ps.length c]∧Below B w w3∧∃ A3 c3,v3=.slice A3 (ps.length+1) c3 ∧
   ∀ w5,Only g w3 w5→Blk w5 g 60 [.int .u32 (b:Int),.slice A3 (ps.length+1) c3]→GAt T B g b (ps++[q]) w5 A3 c3 (xs++[.slice A' q.length c']):=by
 have hA:Below w.heap.size w (w.alloc (.cells #[.slice A' q.length c'] 29)):=(zA _ w).alloc (zW _) _
 have hrd:=(Blk.new w 29 [.slice A' q.length c']).rd
 have hs2:(w.alloc (.cells #[.slice A' q.length c'] 29)).heap.size=w.heap.size+1:=by simp
 have hglt:=h.blk.lt
 have hlow:=h.low
 generalize w.alloc (.cells #[.slice A' q.length c'] 29)=w2 at *
 have h2:=h.below hA hs
 refine⟨h2.row,hrd,by omega,fun v3 w3 hown hg hv=>?_⟩
 have hng:some g≠(Value.slice A ps.length c).ownBlock:=fun e=>h.other g e.symm rfl
 have hrl:=h.row.lt
 have hBw:Below B w w3:=(hA.mono (by omega)).grown hg (by omega) (fun k hk=>(hrl k hk).1)
 refine⟨(hg.block g (by omega) hng).trans h2.blk,hBw,?_⟩
 obtain⟨A3,c3,rfl⟩:=own_slice2 hown
 refine⟨A3,c3,rfl,fun w5 hO hb=>?_⟩
 have hlen:(ps++[q]).length=ps.length+1:=by simp
 have hng3:∀ k,(Value.slice A3 (ps.length+1) c3).ownBlock=some k→k≠g:=by
  rintro k hk rfl
  rcases hv with e | e
  ·rw[e] at hk;exact hng hk.symm
  ·rw[e] at hk;injection hk with hk;omega
 have hBw5:=hBw.trans (hO.bel.mono hlow)
 have hkT:=h.keepT hBw5
 have hch:=(h.parts.imp (fun _ _ hr=>rBytes_stays.to hkT hr)).append (Chunks.one (size:=1) (R:=rBytes T w5) (cs:=[.slice A' q.length c']) rfl ⟨A',c',rfl,hc',hm',hq,hr1.keeps hkT⟩)
 have hrow:w5.ownsRow B 29 1 (.slice A3 (ps.length+1) c3) (ps.length+1) (xs++[.slice A' q.length c']):=by
  refine⟨hown.1,?_⟩
  rcases hown.2 with h1 | ⟨g',cap,cur,h1,h2,h3,h4⟩
  ·exact .inl h1
  ·exact .inr ⟨g',cap,cur,h1,h2,(hO.block g' (hng3 g' (by rw[h1];rfl))).trans h3,h4⟩
 exact⟨hlow,h.old,by simp only[hlen];exact hb,by simp only[hlen];exact hrow,hch⟩
end
def cutA (A:Option Addr) (c s:Nat):Option Addr:=if c=s then A else A.map (·.add (s * 1))
theorem run_from (A:Option Addr) (n c s:Nat) (hs:s≤n) (W:World):(Instr.sliceAt 29 (.slice A n c) (some (.int .i64 (s:Int))) none none).run Tryz.prog W=.ok (.slice (cutA A c s) (n - s) (c - s)) W:=by
 simp[Instr.sliceAt,Instr.slice,underlying,Tryz.underlying29,Instr.sliceBounds,Instr.sliceBound,asIntOf,hs,cutA,Result.andThen,Sem.run_bind]
theorem cutA_rd {S:Nat→Prop} {W:World} {A:Option Addr} {c s:Nat} {bs:List Nat} (hs:s≤bs.length) (hc:bs.length≤c) (h:RdIn S W A (u8s bs)):RdIn S W (cutA A c s) (u8s (bs.drop s)):=by
 rw[cutA]
 by_cases hcs:c=s
 ·rw[if_pos hcs,List.drop_of_length_le (by omega)];exact .inl rfl
 ·rw[if_neg hcs]
  rcases h with h | ⟨b,off,rfl,hb,hcx⟩
  ·have:bs=[]:=List.eq_nil_of_length_eq_zero (by simpa using congrArg List.length h)
   subst this
   exact .inl (by simp[u8s])
  ·refine .inr ⟨b,off+s,?_,hb,fun j u hu=>?_⟩
   ·simp[addr_add]
   ·rw[← u8s_drop,List.getElem?_drop] at hu
    rw[Nat.add_assoc]
    exact hcx _ u hu
theorem rall_form (A:Option Addr) (c n:Nat) (bs:List Nat) (w:World) (hn:bs.length=n) (hc:n≤c) (hb:∀ x∈bs,x<256) (hr:Rd w A (u8s bs)) (hlen:n≤1000000000):
  Calls Tryz.prog 57 #[.slice A n c] w fun e w'=>∃ B d,e=.returned (.tuple #[.slice B (allL bs).2.length d,.int .i64 ((allL bs).1:Int)])∧rSlice 2 rFra (All w') w' [.slice B (allL bs).2.length d] (allL bs).2∧Below w.heap.size w w':=
 (rall_any A c n bs w hn hc hb hr hlen).mono fun e w' ⟨v,he,hs,hB⟩=>by
  obtain⟨B,d,xs,hv,h1⟩:=hs
  simp at hv
  subst hv
  exact⟨B,d,he,⟨B,d,xs,rfl,h1⟩,hB⟩
theorem vrget_len (A:Option Addr) (c n:Nat) (bs:List Nat) (w:World) (hn:bs.length=n) (hl:n≤c) (hb:∀ x∈bs,x<256) (hr:Rd w A (u8s bs)) (hlen:n≤140737488355328):
  Calls Tryz.prog 58 #[.slice A n c] w fun e w'=>e=.returned (.tuple #[.int .u64 ((getL bs).1:Int),.int .i64 ((getL bs).2:Int)])∧Below w.heap.size w w':=by
 subst hn
 exact vrget_any A c bs w hl hb hr hlen
theorem rfget_any (A:Option Addr) (c n:Nat) (bs:List Nat) (w:World) (hn:bs.length=n) (hc:n≤c) (hb:∀ x∈bs,x<256) (hr:Rd w A (u8s bs)) (hlen:n≤100000):
  Calls Tryz.prog 25 #[.slice A n c] w fun e w'=>∃ A' c',e=.returned (.tuple #[.agg #[.int .u32 (getFl bs).1.1,.slice A' (getFl bs).1.2.length c'],.int .i64 ((getFl bs).2:Int)])∧rPts (All w') w' [.slice A' (getFl bs).1.2.length c'] (getFl bs).1.2∧Below w.heap.size w w':=by
 obtain⟨hz,hsz⟩:=zero_of_info info_flo
 obtain⟨j0,hj,hy0,hy1,hy2⟩:=info_parts info_pt
 have hB0:Below w.heap.size w (w.alloc (.cells #[.int .u32 0,.slice none 0 0] 60)):=(zA _ w).alloc (zW _) _
 have hz0:=Blk.new w 60 [.int .u32 0,.slice none 0 0]
 have G1:=zZ (rall_form A c n bs _ hn hc hb (hr.below hB0) (by omega))
 have hback:=allL_back bs.length bs (zW _) hb
 have hguess:=fun h=>getFl_guess hb h
 have hgf:(allL bs).1≠0→getFl bs=((0,[]),(allL bs).1):=fun h=>by rw[getFl,if_pos h]
 have hcnt:(allL bs).1=0→(allL bs).2.length≤n:=fun h=>by
  have h1:=(hback h).1
  have h2:∀ l:List Fra,l.length≤(catL l).length:=fun l=>by
   induction l with
   | nil=>simp
   | cons F l ih=>simp only[catL,List.length_append,putL_length,List.length_cons];omega
  have:=h2 (allL bs).2
  rw[h1] at this
  omega
 have Hgf:=zZ hgf
 have Hguess:=zZ hguess
 have Hback:=zZ hback
 have Hcnt:=zZ hcnt
 have HO:=zZ hr
 clear hgf hguess hback hcnt hr
 generalize allL bs=al at *
 generalize getFl bs=gf at *
 go_enter Tryz.func25,Tryz.ntmps25
 go_wp2_with fail
 refine G1.out.mono ?_
 rintro e w1 ⟨B1,d1,rfl,hsl0,hB1⟩
 have hz1:=hz0.below hz0.lt hB1
 have hBw:=hB0.trans (hB1.mono hB0.size)
 clear G1 hz0 hB0 hB1
 have hzl:=hz1.lt
 by_cases he:al.1=0
 ·obtain⟨_,hfit⟩:=Hback.out he
  have hcnt:=Hcnt.out he
  have he':((al.1:Int) != 0)=false:=by rw[bne_eq_false_iff_eq];omega
  have hsl:=(rSlice_stays rFra_stays).to (S':=fun b=>b<w1.heap.size∧b≠w.heap.size) (Keeps.mono fun x hx=>hx) (frames_avoid hsl0 (blk_none hz1).1 (blk_none hz1).2)
  have hgs:=Hguess.out he
  have Hgs:=zZ hgs
  have Hfit:=zZ hfit
  clear hsl0 hgs hfit Hguess Hback Hgf Hcnt
  generalize al.2=l at *
  have hbt:=bAt_lt l
  have G0:GAt (fun b=>b<w1.heap.size∧b≠w.heap.size) w1.heap.size w1.heap.size (bAt l 0) (pAt l 0) (w1.alloc (.cells #[.int .u32 0,.slice none 0 0] 60)) none 0 []:=by
   have hp0:=pAt_zero l
   refine⟨zW _,fun x hx=>hx.1,?_,?_,?_⟩
   ·rw[hp0];exact Blk.new w1 60 [.int .u32 0,.slice none 0 0]
   ·rw[hp0];exact World.ownsRow_nil _ _ _ _
   ·rw[hp0];exact Chunks.nil
  have hBa:Below w1.heap.size w1 (w1.alloc (.cells #[.int .u32 0,.slice none 0 0] 60)):=(zA _ w1).alloc (zW _) _
  go_wp2_with fail
  go_loopw [7] (fun iv wr=>∃ (i:Nat) (A2:Option Addr) (c2:Nat) (xs:List Value),i≤l.length∧iv=.int .i64 (i:Int)∧Hid (GAt (fun b=>b<w1.heap.size∧b≠w.heap.size) w1.heap.size w1.heap.size (bAt l i) (pAt l i) wr A2 c2 xs)∧Below w1.heap.size w1 wr∧w1.heap.size<wr.heap.size) (fun iv _=>l.length - (intOf iv).toNat)
  case atStart=>exact⟨0,none,0,[],by omega,rfl,zZ G0,hBa,by simp⟩
  case round=>
   obtain⟨i,A2,c2,xs,hile,rfl,HG,hB,hsr⟩:=hrel
   clear G0 hBa
   by_cases hin:i<l.length
   ·obtain⟨F,hli⟩:∃ F,l[i]?=some F:=⟨l[i],zV (by omega)⟩
    obtain⟨b1,off1,A1,c1,rfl,hb1,hx1,hy1,hfc1,hfm1,hby1,hr1⟩:=fra_at2 hsl hli
    have hFt:=Hfit.out F (List.mem_of_getElem? hli)
    have hf255:=hFt.2.2.1
    have hle:=getL_le F.2 hby1
    have hil:(i:Int)<(l.length:Int):=by omega
    have hi0:(0:Int)≤(i:Int):=by omega
    simp only[maxLen] at hfm1
    have hcell:∀ W,Below w1.heap.size w1 W→W.cell? ⟨b1,off1+i * 2+1,none⟩=some (.slice A1 F.2.length c1):=fun W hW=>(hW.cell (p:=⟨b1,off1+i * 2+1,none⟩) hb1.1).trans hy1
    have V1:=zZ (fun W h=>vrget_len A1 c1 F.2.length F.2 W rfl hfc1 hby1 h (by omega))
    have V2:=zZ (fun W h=>vrget_len (cutA A1 c1 (getL F.2).2) (c1 - (getL F.2).2) (F.2.length - (getL F.2).2) (bodyDrop F) W (by rw[bodyDrop,List.length_drop]) (by omega) (fun x hx=>hby1 x (List.mem_of_mem_drop hx)) h (by omega))
    have hcut:=cutA_rd (S:=fun b=>b<w1.heap.size∧b≠w.heap.size) hle.1 hfc1 hr1
    have hbd:F.2.drop (getL F.2).2=bodyDrop F:=rfl
    rw[hbd] at hcut
    have hbl:(bodyDrop F).length=F.2.length - (getL F.2).2:=by rw[bodyDrop,List.length_drop]
    have hbb:∀ x∈bodyDrop F,x<256:=fun x hx=>hby1 x (List.mem_of_mem_drop hx)
    have hgb:i=0→guessBase l=(getL (bodyDrop F)).1 % 4294967296:=fun h0=>by
     subst h0
     cases l with
     | nil=>simp at hin
     | cons a t=>simp at hli;subst hli;rfl
    have hpm:=fun h0 h1=>pAt_mid (i:=i) h0 h1 hli
    have hsr1:=fun W=>run_from A1 F.2.length c1 (getL F.2).2 hle.1 W
    have hle2:=getL_le (bodyDrop F) hbb
    have Hcell:=zZ hcell
    have Hgb:=zZ hgb
    have Hpm:=zZ hpm
    clear hcell hgb hpm hbd hli hx1 hy1 hFt
    generalize (getL F.2).2=s1 at *
    generalize (getL F.2).1=n1 at *
    generalize bodyDrop F=bd at *
    generalize (getL bd).1=n2 at *
    generalize (getL bd).2=s2 at *
    have g1:=Hcell.out wr hB
    have HV1:=zZ (V1.out wr ((RdIn.rd (hr1.keeps (S':=All w1) (Keeps.mono fun x hx=>hx.1))).below ((hB.mono (zW _)))))
    go_wp2_with fail
    refine HV1.out.mono ?_
    rintro e w3 ⟨rfl,hB3⟩
    have hB13:=hB.trans (hB3.mono hB.size)
    have hs3:=hB3.size
    have G3:=HG.out.below hB3 (by omega)
    have g3:=Hcell.out w3 hB13
    clear HV1 HG g1 hB3
    by_cases hi1:i=0
    ·subst hi1
     have HV2:=zZ (V2.out w3 ((RdIn.rd (hcut.keeps (S':=All w1) (Keeps.mono fun x hx=>hx.1))).below hB13))
     have hgb:=Hgb.out rfl
     have hp1:pAt l (0+1)=pAt l 0:=by rw[pAt_zero,Nat.zero_add,pAt_one]
     have hb1':bAt l (0+1)=n2 % 4294967296:=by rw[bAt,if_neg (by omega),hgb]
     have Hp1:=zZ hp1
     have Hb1:=zZ hb1'
     have hmod:(n2:Int) % 4294967296=((n2 % 4294967296:Nat):Int):=by omega
     have Hmod:=zZ hmod
     clear hp1 hb1' hgb V1 V2 hmod
     simp only[Nat.zero_mul,Nat.add_zero] at g3
     go_wp2_with fail
     refine HV2.out.mono ?_
     rintro e w4 ⟨rfl,hB4⟩
     have G4:=G3.below hB4 (by omega)
     have hB14:=hB13.trans (hB4.mono hB13.size)
     have hs4:=hB4.size
     clear G3 HV2 hB4 g3
     have x0:=G4.blk.cell (j:=0) rfl
     have f0:=G4.blk.frozen 0
     have hO:=Only.set w1.heap.size w4 0 (.int .u32 ((n2:Int) % 4294967296))
     have hbs:=G4.blk.set 0 (.int .u32 ((n2:Int) % 4294967296))
     simp only[zX] at hbs
     go_wp2
     refine⟨⟨0+1,A2,c2,xs,by omega,by go_num,zZ ?_,hB14.trans (hO.bel.mono (zW _)),by rw[hO.size];omega⟩,?_⟩
     ·rw[Hp1.out,Hb1.out]
      exact G4.only (b':=n2 % 4294967296) hO (by rw[← Hmod.out];exact hbs)
     ·simp[intOf];omega
    ·have hi1':((i:Int) == 0)=false:=by rw[beq_eq_false_iff_ne];omega
     have hbi:bAt l (i+1)=bAt l i:=by rw[bAt,bAt,if_neg (by omega),if_neg hi1]
     have Hbi:=zZ hbi
     have hipos:0<i:=by omega
     clear hbi V1 V2 hi1
     have hw1:IntKind.i64.wrap ((l.length:Int) - 1)=(l.length:Int) - 1:=IntWalk.i64_in _ (by omega)
     by_cases hlast:i<l.length - 1
     ·have hd:decide ((i:Int)<(l.length:Int) - 1)=true:=by simp;omega
      have hpm:=Hpm.out hipos hlast
      have hpl:=pAt_len l i
      have Hpm':=zZ hpm
      clear hpm Hpm
      have hBd:=hB13.drew
      have Gd:=G3.below (zA _ w3).drew (by omega)
      have hsd:w1.heap.size<w3.drew.heap.size:=by show w1.heap.size<w3.heap.size;omega
      have HF:=zZ (fun (W:World) (hW:Below w1.heap.size w1 W)=>Hcell.out W hW)
      generalize pAt l i=pp at *
      generalize bAt l i=bb at *
      have hx1:=Gd.blk.cell (j:=1) rfl
      obtain⟨hownM,hrdM,hszM,hnext⟩:=Gd.more (by omega) (hcut.keeps (fun x hx=>⟨hx,hBd.block x hx.1⟩)) (c':=c1 - s1) (by omega) (by simp only[maxLen];omega) hbb
      rw[hbl] at hownM hrdM hszM hnext
      have Hnext:=zZ hnext
      clear hnext
      go_wp2_with fail
      refine scl_start 12 [(0,true),(1,true),(2,true),(3,true),(4,true),(5,true),(6,true),(7,true),(8,true),(9,false),(10,false),(11,true),(12,false)]
       (fun W=>Below w1.heap.size w1 W∧W.cell? ⟨w1.heap.size,1,none⟩=some (.slice A2 pp.length c2)) (by kernel_rfl) rfl (by kernel_rfl) (fun _ _ _ _ _ h=>h) ⟨hBd,hx1⟩ (fun hH=>?_)
      generalize w3.drew=wd at *
      repeat (first | (refine scl_yes (v:=?_) rfl rfl ?_ hH ?_;rotate_left;(focus ((rintro W ⟨hW,hW2⟩;have u1:=HF.out W hW;have u2:=hsr1 W;go_simp) <;> with_reducible rfl));simp only[Act.put,zY,zX,zQ]) | (refine scl_no rfl rfl hH ?_;simp only[Act.put,zY,zX,zQ]))
      refine scl_call rfl rfl (fun K hK=>?_)
      go_wp2
      have hBm:Below w1.heap.size w1 (wd.alloc (.cells #[.slice (cutA A1 c1 s1) (F.2.length - s1) (c1 - s1)] 29)):=hBd.alloc (by omega) _
      have hxm:=(Gd.blk.alloc (.cells #[.slice (cutA A1 c1 s1) (F.2.length - s1) (c1 - s1)] 29)).cell (j:=1) rfl
      refine hK.out _ _ (fun _=>⟨hBm,hxm⟩) ?_
      clear hK hH
      refine scl_call rfl rfl (fun K hK=>?_)
      refine wp_app (.tmp 60) (.tmp 68) 56 rfl w1.heap.size 29 j0 (.slice none 0 0) 24 Tryz.underlying56 hj hy0 hy1 hy2 rfl _ pp.length xs rfl hownM _ 1 1 _ rfl rfl hrdM (by simp[Value.oneCell']) (by simp only[maxLen];omega) (by omega) hszM ?_
      intro v5 w5 hown5 hg5 hv5
      obtain⟨hblk5,hB5,A5,c5,rfl,hfin⟩:=Hnext.out v5 w5 hown5 hg5 hv5
      have Hfin:=zZ hfin
      have hs5:=hg5.size
      rw[World.size_alloc] at hs5
      clear hfin hown5 hownM hrdM hszM hv5 hg5
      have hB15:=hBd.trans (hB5.mono (zW _))
      have hx5:=hblk5.cell (j:=1) rfl
      have hf5:=hblk5.frozen 1
      have hH:=And.intro hB15 hx5
      refine hK.out _ _ (fun _=>hH) ?_
      clear hK
      repeat (first | (refine scl_yes (v:=?_) rfl rfl ?_ hH ?_;rotate_left;(focus ((rintro W ⟨hW,hW2⟩;have u1:=HF.out W hW;have u2:=hsr1 W;go_simp) <;> with_reducible rfl));simp only[Act.put,zY,zX,zQ]) | (refine scl_no rfl rfl hH ?_;simp only[Act.put,zY,zX,zQ]))
      refine scl_call rfl rfl (fun K hK=>?_)
      go_wp2
      refine hK.out _ _ (fun e=>absurd rfl e) ?_
      clear hK
      refine scl_done ?_
      have hO6:=Only.set w1.heap.size w5 1 (.slice A5 (pp.length+1) c5)
      have hb6:=hblk5.set 1 (.slice A5 (pp.length+1) c5)
      simp only[zQ,zX] at hb6
      have G6:=Hfin.out _ hO6 hb6
      go_wp2
      refine⟨⟨i+1,A5,c5,(xs++[.slice (cutA A1 c1 s1) (F.2.length - s1) (c1 - s1)]),by omega,by go_num,zZ ?_,hB15.trans (hO6.bel.mono (zW _)),by rw[hO6.size];omega⟩,?_⟩
      ·rw[Hpm'.out,Hbi.out]
       exact G6
      ·simp[intOf];omega
     ·have hd:decide ((i:Int)<(l.length:Int) - 1)=false:=by simp;omega
      have hpl:=pAt_last (l:=l) (i:=i) (by omega)
      have Hpl:=zZ hpl
      clear hpl
      go_wp2
      refine⟨⟨i+1,A2,c2,xs,by omega,by go_num,zZ ?_,hB13,by omega⟩,?_⟩
      ·rw[Hpl.out,Hbi.out]
       exact G3
      ·simp[intOf];omega
   ·obtain rfl:i=l.length:=by omega
    have hgF:guessF l=(((bAt l l.length:Nat):Int),pAt l l.length):=rfl
    have hgby:=guess_byte Hfit.out l.length
    have hbl:=hbt l.length
    rw[hgF] at Hgs
    clear hgF
    have hzr:=hz1.below hzl hB
    have hBwr:=hBw.trans (hB.mono hBw.size)
    have G:=HG.out
    generalize pAt l l.length=pp at *
    generalize bAt l l.length=bb at *
    have P1:=zZ (rfput_any A2 pp.length c2 bb pp wr hbl (rPts_stays.to (Keeps.mono fun x hx=>hx.elim (fun h=>Nat.lt_trans h.1 hsr) (fun h=>h.2)) G.pts) hgby)
    have x0:=G.blk.cell (j:=0) rfl
    have x1:=G.blk.cell (j:=1) rfl
    go_wp2_with fail
    refine P1.out.mono ?_
    rintro e w5 ⟨B5,m5,cap5,E5,rfl,hsays,hB5⟩
    have hz5:=hzr.below (by omega) hB5
    have hB15:=hB.trans (hB5.mono hB.size)
    have hBw5:=hBwr.trans (hB5.mono hBwr.size)
    have G5:=G.below hB5 (by omega)
    have hs5:=hB5.size
    clear P1 x0 x1 hzr HG G
    have z0:=hz5.cell (j:=0) rfl
    have z1:=hz5.cell (j:=1) rfl
    have zf0:=hz5.frozen 0
    have zf1:=hz5.frozen 1
    have y0:=G5.blk.cell (j:=0) rfl
    have y1:=G5.blk.cell (j:=1) rfl
    have Hrz:=zZ ((hz5.set 0 (.int .u32 0)).set 1 (.slice none 0 0))
    have HBz:=zZ ((hBw5.setCell (p:=⟨w.heap.size,0,none⟩) (zW w.heap.size) (.int .u32 0)).setCell (p:=⟨w.heap.size,1,none⟩) (zW w.heap.size) (.slice none 0 0))
    rcases hsays with⟨hmay,rfl,rfl,hc5,hm5,hr5⟩ | ⟨hmay,rfl,rfl,rfl,rfl⟩
    ·have t1:=conv_B B5 (flowB ((bb:Int),pp)) _ cap5 w5 rfl hr5
     have t2:=conv_B A bs n c w5 hn (HO.out.below hBw5)
     have hok:OkF ((bb:Int),pp):=⟨by simp,by simp only;omega,hmay,hgby⟩
     have hstr:=str_eq (flowB_byte hok) hb
     by_cases hq:flowB ((bb:Int),pp)=bs
     ·have hg:=Hgs.out.1 ⟨hmay,hq⟩
      have hd1:((strB (flowB ((bb:Int),pp))).toList == (strB bs).toList)=true:=by rw[hstr,hq];simp
      have hd2:((strB (flowB ((bb:Int),pp))).toList != (strB bs).toList)=false:=by rw[bne,hd1];rfl
      have Hg:=zZ hg
      have Hrw:=zZ ((hz5.set 0 (.int .u32 (bb:Int))).set 1 (.slice A2 pp.length c2))
      have HBr:=zZ ((hBw5.setCell (p:=⟨w.heap.size,0,none⟩) (zW w.heap.size) (.int .u32 (bb:Int))).setCell (p:=⟨w.heap.size,1,none⟩) (zW w.heap.size) (.slice A2 pp.length c2))
      have HO5:=zZ ((Only.set w.heap.size w5 0 (.int .u32 (bb:Int))).trans (Only.set w.heap.size _ 1 (.slice A2 pp.length c2)))
      clear hg hstr hq hok
      generalize flowB ((bb:Int),pp)=fl at *
      go_wp2
      refine ret_cell1 rfl Hrw.out Tryz.underlying60 rfl hsz rfl rfl ?_
      rw[Hg.out]
      have hO:=HO5.out
      exact⟨A2,c2,rfl,rPts_stays.to (fun x hx=>⟨Nat.lt_of_lt_of_le (hx.elim (fun h=>by omega) (fun h=>h.2)) (Nat.le_of_eq hO.size.symm),hO.block x (hx.elim (fun h=>h.2) (fun h=>by omega))⟩) G5.pts,HBr.out⟩
     ·have hg:=Hgs.out.2 (fun h=>hq h.2)
      have hd1:((strB (flowB ((bb:Int),pp))).toList == (strB bs).toList)=false:=by rw[hstr];simpa using hq
      have hd2:((strB (flowB ((bb:Int),pp))).toList != (strB bs).toList)=true:=by rw[bne,hd1];rfl
      have Hg:=zZ hg
      clear hg hstr hq hok
      generalize flowB ((bb:Int),pp)=fl at *
      go_wp2
      refine ret_cell1 rfl Hrz.out Tryz.underlying60 rfl hsz rfl rfl ?_
      rw[Hg.out]
      exact⟨none,0,rfl,⟨none,0,[],rfl,zW _,Nat.zero_le _,.inl rfl,Chunks.nil⟩,HBz.out⟩
    ·have hg:=Hgs.out.2 (fun h=>by rw[hmay] at h;cases h.1)
     have Hg:=zZ hg
     clear hg
     go_wp2
     refine ret_cell1 rfl Hrz.out Tryz.underlying60 rfl hsz rfl rfl ?_
     rw[Hg.out]
     exact⟨none,0,rfl,⟨none,0,[],rfl,zW _,Nat.zero_le _,.inl rfl,Chunks.nil⟩,HBz.out⟩
 ·have he':((al.1:Int) != 0)=true:=by rw[bne_iff_ne];omega
  have hg:=Hgf.out he
  have Hg:=zZ hg
  have hx0:=hz1.cell (j:=0) rfl
  have hx1:=hz1.cell (j:=1) rfl
  have hf0:=hz1.frozen 0
  have hf1:=hz1.frozen 1
  have Hrw:=zZ ((hz1.set 0 (.int .u32 0)).set 1 (.slice none 0 0))
  have HBr:=zZ ((hBw.setCell (p:=⟨w.heap.size,0,none⟩) (zW w.heap.size) (.int .u32 0)).setCell (p:=⟨w.heap.size,1,none⟩) (zW w.heap.size) (.slice none 0 0))
  clear hg
  go_wp2
  refine ret_cell1 rfl Hrw.out Tryz.underlying60 rfl hsz rfl rfl ?_
  rw[Hg.out]
  exact⟨none,0,rfl,⟨none,0,[],rfl,zW _,Nat.zero_le _,.inl rfl,Chunks.nil⟩,HBr.out⟩
theorem rget_len (A:Option Addr) (c n:Nat) (bs:List Nat) (w:World) (hn:bs.length=n) (hl:n≤c) (hb:∀ x∈bs,x<256) (hr:Rd w A (u8s bs)) (hlen:n≤140737488355328):
  Calls Tryz.prog 58 #[.slice A n c] w fun e w'=>e=.returned (.tuple #[.int .u64 ((getL bs).1:Int),.int .i64 ((getL bs).2:Int)])∧Below w.heap.size w w':=by
 subst hn
 exact vrget_any A c bs w hl hb hr hlen
theorem own_step64 {B:Nat} {w wr w1:World} {v v':Value} {pre:List Nat} {x:Nat} {o:Obj} (hnx:Below B w wr) (hown:wr.ownsRow B 71 1 v pre.length (u64s pre)) (hle:B≤wr.heap.size)
  (hown':w1.ownsRow B 71 1 v' (pre.length+1) (u64s pre++[.int .u64 (x:Int)])) (hg:(wr.alloc o).grownBy w1 v.ownBlock):
  w1.ownsRow B 71 1 v' (pre++[x]).length (u64s (pre++[x]))∧Below B w w1:=by
 constructor
 ·rw[u64s_append];simpa [u64s] using hown'
 ·exact (hnx.alloc hle o).grown hg (by simp;omega) (fun k hk=>(hown.lt k hk).1)
theorem allL_next {bs pre:List Nat} {k n s:Nat} (h:vallL bs=(vallL (bs.drop k)).map (pre++·)) (hg:getL (bs.drop k)=(n,s)) (hs:s≠0):vallL bs=(vallL (bs.drop (k+s))).map ((pre++[n])++·):=by
 rw[h,allL_some (bs.drop k) (by rw[hg];exact hs),hg,List.drop_drop]
 cases vallL (bs.drop (k+s)) <;> simp
theorem vrall_any (A:Option Addr) (c:Nat) (bs:List Nat) (w:World) (hl:bs.length≤c) (hb:∀ x∈bs,x<256) (hr:Rd w A (u8s bs)) (hlen:bs.length≤1048576):
  Calls Tryz.prog 90 #[.slice A bs.length c] w fun e w'=>∃ v,e=.returned (.tuple #[v,.bool (vallL bs).isSome])∧w'.ownsRow w.heap.size 71 1 v ((vallL bs).getD []).length (u64s ((vallL bs).getD []))∧Below w.heap.size w w':=by
 obtain⟨i0,hi,hz0,hz1,hz2⟩:=info_parts info_u64
 go_enter Tryz.func90,Tryz.ntmps90
 go_wp2
 go_loopw [4,5] (fun v i wr=>∃ (k:Nat) (pre:List Nat),i=.int .i64 (k:Int)∧k≤bs.length∧pre.length≤k∧wr.ownsRow w.heap.size 71 1 v pre.length (u64s pre)∧Below w.heap.size w wr∧vallL bs=(vallL (bs.drop k)).map (pre++·)) (fun _ i _=>bs.length - (intOf i).toNat)
 case atStart=>exact⟨0,[],rfl,Nat.zero_le _,by simp,World.ownsRow_nil _ _ _ _,zA _ _,by simp⟩
 case round=>
  obtain⟨k,pre,rfl,hk,hpk,hown,hnx,hall⟩:=hrel
  have Hall:=zZ hall
  clear hall
  by_cases hlt:k<bs.length
  ·have hrd:=hr.below hnx
   obtain⟨b,off,rfl,_,_⟩:=hrd.at (k:=k) (by simpa using hlt)
   have hbd:∀ x∈bs.drop k,x<256:=fun x hx=>hb x (List.mem_of_mem_drop hx)
   have hget:=rget_len (some ⟨b,off+k,none⟩) (c - k) (bs.length - k) (bs.drop k) wr List.length_drop (by omega) hbd (by rw[← u8s_drop];exact hrd.drop k) (by omega)
   have hgl:=getL_le (bs.drop k) hbd
   rw[List.length_drop] at hgl
   have hne:bs.drop k≠[]:=by intro e;have:=congrArg List.length e;simp at this;omega
   have hnone:=allL_none (bs.drop k) hne
   generalize hgg:getL (bs.drop k)=ns at *
   obtain⟨x,s⟩:=ns
   dsimp only at hget hgl hnone
   have Hgg:=zZ hgg
   have Hget:=zZ hget
   have Hnone:=zZ hnone
   clear hgg hget hnone hrd
   have hck:¬ c=k:=by omega
   have hk1:(k:Int)<(bs.length:Int):=by omega
   go_wp2_with fail
   refine Hget.out.mono ?_
   rintro e w2 ⟨rfl,hb2⟩
   have hown2:=own_below hown hb2
   have hnx2:Below w.heap.size w w2:=hnx.trans (hb2.mono hnx.size)
   have hsz:=hnx2.size
   by_cases hs:s=0
   ·have hz:((s:Int) == 0)=true:=by rw[hs];rfl
    have hfin:vallL bs=none:=by rw[Hall.out,Hnone.out hs];rfl
    have Hfin:=zZ hfin
    clear hs hfin
    go_wp2
    go_ret2
    refine⟨.slice none 0 0,?_,?_,hnx2⟩
    ·rw[Hfin.out];rfl
    ·rw[Hfin.out];exact World.ownsRow_nil _ _ _ _
   ·have hz:((s:Int) == 0)=false:=by simp;omega
    have hnext:=allL_next Hall.out Hgg.out hs
    have Hnext:=zZ hnext
    clear hnext
    go_wp2_with (at_builtin;refine wpList_append_own _ rfl _ _ 135 rfl w.heap.size 71 i0 (.int .u64 0) 1 8 Tryz.underlying135 hi hz0 hz1 hz2 rfl (by decide) _ _ _ rfl (hown2.alloc _) ⟨w2.heap.size,0,none⟩ 1 1 [.int .u64 (x:Int)] rfl rfl (cell_one_new _ _ _) (by simp[Value.oneCell']) (by simp only[maxLen];omega) (by omega) (by simp;omega) ?_;intro v' w3 hown' hgrow _)
    have R:=own_step64 hnx2 hown2 hsz hown' hgrow
    go_roundw
    case rel=>exact⟨k+s,pre++[x],by go_num,by omega,by simp;omega,R.1,R.2,Hnext.out⟩
    case measure=>simp[intOf];omega
  ·have hd:bs.drop k=[]:=List.drop_eq_nil_of_le (by omega)
   have hfin:vallL bs=some pre:=by rw[Hall.out,hd,vallL_nil];simp
   have Hfin:=zZ hfin
   clear hd hfin
   go_wp2
   go_ret2
   exact⟨u4,by rw[Hfin.out];rfl,by rw[Hfin.out];exact hown,hnx⟩
end Go.Proofs.YtdlkmjfbmenedaaGreatDoor
