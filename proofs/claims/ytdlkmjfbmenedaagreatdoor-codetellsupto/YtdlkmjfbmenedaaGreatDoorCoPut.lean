/- The contracts of code's Put and Sum: a graph's bytes, and the sum of its parts, or why there are none. Condition: the table of kinds' texts is laid. -/
import Derived.Test.YtdlkmjfbmenedaaGreatDoorCoParts
import Derived.Test.YtdlkmjfbmenedaaGreatDoorGFlow
import Derived.Test.YtdlkmjfbmenedaaGreatDoorFlKit
import Derived.Test.YtdlkmjfbmenedaaGreatDoorGCrc
import Derived.Test.YtdlkmjfbmenedaaGreatDoorAl
set_option maxRecDepth 100000
set_option maxHeartbeats 1000000
namespace Go.Proofs.YtdlkmjfbmenedaaGreatDoor
open Go.RowKit
def Byts (bs:List Nat) (v:Value) (w:World):Prop:=∃ A m c,v=.slice A m c∧m=bs.length∧m≤c∧c≤maxLen∧Rd w A (u8s bs)
theorem codeB_0 {g:Gr} (h:codeE g=0):codeB g=flowB (codeF g):=if_pos h
theorem write_any (A B C:Option Addr) (N c M d K e:Nat) (g:Gr) (w:World) (hKt:Kt w) (h:rGr (All w) w [.slice A N c,.slice B M d,.slice C K e] g):
  Calls Tryz.prog 17 #[.agg #[.slice A N c,.slice B M d,.slice C K e]] w fun r w'=>Below w.heap.size w w'∧((∃ v,r=.returned v∧codeE g=0∧Byts (codeB g) v w')∨∃ n,r=Wrong n∧codeE g≠0∧n=codeE g):=by
 have hB0:Below w.heap.size w (w.alloc (.cells #[.slice A N c,.slice B M d,.slice C K e] 28)):=(zA _ w).alloc (zW _) _
 have p0:=Blk.new w 28 [.slice A N c,.slice B M d,.slice C K e]
 have T1:=zZ (partsOf_any A B C N c M d K e g _ (hKt.below hB0) (gr_below hB0 h))
 have H0:=zZ hB0
 have P0:=zZ p0
 have Hok:=zZ (gr_ok h)
 have a0:=p0.cell (j:=0) rfl
 have a1:=p0.cell (j:=1) rfl
 have a2:=p0.cell (j:=2) rfl
 clear h hKt hB0 p0
 go_enter Tryz.func17,Tryz.ntmps17
 go_wp2_with fail
 refine T1.out.mono ?_
 rintro r w1 ⟨⟨h0,A,n,c,rfl,hp⟩ | ⟨h0,rfl⟩,hB1⟩
 ·have H1:=zZ (H0.out.trans (hB1.mono H0.out.size))
  have T2:=zZ (fput_ok (code_okF Hok.out h0) A n c _ hp)
  have he:=codeB_0 h0
  have He:=zZ he
  have Hc:=zZ h0
  clear hB1 H0 P0 hp h0 he a0 a1 a2 T1
  rw[show (codeF g).1=(0:Int) from rfl] at T2
  generalize flowB (codeF g)=fb at *
  go_wp2_with fail
  refine T2.out.mono ?_
  rintro r w2 ⟨B2,cap,rfl,hc2,hm2,hr2,hB2⟩
  have H2:=zZ (H1.out.trans (hB2.mono H1.out.size))
  clear hB2 T2 H1
  go_wp2
  go_ret
  exact⟨H2.out,.inl ⟨_,rfl,Hc.out,B2,_,cap,rfl,by rw[He.out],hc2,hm2,by rw[He.out];exact hr2⟩⟩
 ·have H1:=zZ (H0.out.trans (hB1.mono H0.out.size))
  have Hc:=zZ h0
  clear hB1 H0 P0 h0 T1
  unfold Wrong
  go_wp2_with fail
  exact⟨rfl,H1.out,.inr ⟨_,rfl,Hc.out,rfl⟩⟩
theorem sum1_any (A B C:Option Addr) (N c M d K e:Nat) (g:Gr) (w:World) (hKt:Kt w) (h:rGr (All w) w [.slice A N c,.slice B M d,.slice C K e] g):
  Calls Tryz.prog 29 #[.agg #[.slice A N c,.slice B M d,.slice C K e]] w fun r w'=>Below w.heap.size w w'∧((∃ v,r=.returned v∧codeE g=0∧v=.int .u32 (codeS g:Int))∨∃ n,r=Wrong n∧codeE g≠0∧n=codeE g):=by
 obtain⟨i0,hi,hz0,hz1,hz2⟩:=info_parts info_u8
 have hB0:Below w.heap.size w (w.alloc (.cells #[.slice A N c,.slice B M d,.slice C K e] 28)):=(zA _ w).alloc (zW _) _
 have p0:=Blk.new w 28 [.slice A N c,.slice B M d,.slice C K e]
 have T1:=zZ (partsOf_any A B C N c M d K e g _ (hKt.below hB0) (gr_below hB0 h))
 have H0:=zZ hB0
 have Hok:=zZ (gr_ok h)
 have a0:=p0.cell (j:=0) rfl
 have a1:=p0.cell (j:=1) rfl
 have a2:=p0.cell (j:=2) rfl
 clear h hKt hB0 p0
 go_enter Tryz.func29,Tryz.ntmps29
 go_wp2_with fail
 refine T1.out.mono ?_
 rintro r w1 ⟨⟨h0,A1,n,c1,rfl,hp⟩ | ⟨h0,rfl⟩,hB1⟩
 ·have H1:=zZ (H0.out.trans (hB1.mono H0.out.size))
  have hokF:=code_okF Hok.out h0
  have hS:codeS g=sumL (lensB (partsG (canonG g))):=if_pos h0
  have HS:=zZ hS
  have hfew:(partsG (canonG g)).length≤40:=hokF.few
  have hsh:∀ p∈partsG (canonG g),p.length≤200:=hokF.short
  have hby:∀ p∈partsG (canonG g),∀ x∈p,x<256:=hokF.byte
  have Hpb:=zZ (lensB_byte hby)
  have hpl:∀ i,(lensB ((partsG (canonG g)).take i)).length≤8400:=fun i=>by
   have:=lensB_len (l:=(partsG (canonG g)).take i) (fun p hp=>hsh p (List.mem_of_mem_take hp))
   rw[List.length_take] at this
   omega
  have Hpl:=zZ hpl
  have Hsh:=zZ hsh
  obtain⟨hn,-,-⟩:=pts_len hp
  rw[hn] at hfew
  have Hn:=zZ hn
  have Hp:=zZ hp
  have Hc:=zZ h0
  clear hB1 H0 hp h0 a0 a1 a2 T1 hokF hS hsh hby hpl hn Hok
  generalize partsG (canonG g)=ps at *
  go_wp2
  go_loopw [3,9] (fun v iv wr=>∃ i:Nat,i≤n∧iv=.int .i64 (i:Int)∧wr.ownsRow w1.heap.size 5 1 v (lensB (ps.take i)).length (u8s (lensB (ps.take i)))∧Below w1.heap.size w1 wr) (fun _ iv _=>n - (intOf iv).toNat)
  case atStart=>exact⟨0,by omega,rfl,World.ownsRow_nil _ _ _ _,zA _ _⟩
  case round=>
   rename World=>wr
   obtain⟨i,hi',rfl,hown,hB⟩:=hrel
   have hsr:=hB.size
   by_cases hin:i<n
   ·obtain⟨p,hp⟩:∃ p,ps[i]?=some p:=⟨_,zV (by have:=Hn.out;omega)⟩
    obtain⟨b,off,A9,c9,rfl,hb,x0,-,-,hpb,hrd⟩:=pts_at Hp.out hp
    have x0':=(hB.cell (p:=⟨b,off+i,none⟩) hb).trans x0
    have hp200:=Hsh.out p (List.mem_of_getElem? hp)
    have htk:lensB (ps.take (i+1))=lensB (ps.take i)++vputL p.length++p:=by rw[take_at hp,lensB_one]
    have hl1:=Hpl.out i
    have hl2:=putL_len10 p.length (by omega)
    have P1:=zZ (fun W=>vput_any p.length W (by omega))
    have eu:IntKind.u64.wrap (p.length:Int)=(p.length:Int):=by have:IntKind.u64.wrap (p.length:Int)=(p.length:Int) % 18446744073709551616:=rfl;omega
    have Htk:=zZ htk
    have HB:=zZ hB
    have Hrd:=zZ (RdIn.rd hrd)
    have hil:(i:Int)<(n:Int):=by omega
    have hi0:(0:Int)≤(i:Int):=by omega
    have Hin:=zZ hin
    have Hpe:Hid ((u8s p).length=p.length):=zZ (by simp)
    clear htk hB x0 hp hrd hpb
    generalize lensB (ps.take i)=pre at *
    generalize hpn:p.length=pn at *
    go_wp2_with fail
    refine (P1.out wr).mono ?_
    rintro r w3 ⟨v3,rfl,hv3,hB3⟩
    obtain⟨A3,c3,rfl,hc3,hr3,-⟩:=own_slice hv3
    have hown3:=own_below hown hB3
    have HB3:=zZ (HB.out.trans (hB3.mono hsr))
    have hsz:=HB3.out.size
    have Hown3:=zZ hown3
    clear P1 hown hv3 hB3 HB x0' eu
    generalize vputL pn=pv at *
    go_wp2_with (first
     | (at_builtin;refine wpList_app rfl (.tmp 13) (.tmp 17) 29 rfl w1.heap.size 5 i0 (.int .u8 0) 1 Tryz.underlying29 hi hz0 hz1 hz2 rfl _ pre.length (u8s pre) rfl hown3 A3 pv.length c3 (u8s pv) rfl (by simp) hr3 (u8s_one _) (by simp only[maxLen];omega) (by omega) hsz ?_;intro v5 w5 hown5 hg5 _;have HB5:=zZ (HB3.out.grown hg5 hsz (fun k hk=>(Hown3.out.lt k hk).1));have hs5:=HB5.out.size;have hr5:=Hrd.out.below HB5.out;have Hg5:=zZ hg5;clear hg5)
     | (at_builtin;refine wpList_app rfl (.tmp 19) (.tmp 20) 29 rfl w1.heap.size 5 i0 (.int .u8 0) 1 Tryz.underlying29 hi hz0 hz1 hz2 rfl _ (pre.length+pv.length) (u8s pre++u8s pv) rfl hown5 A9 pn c9 (u8s p) rfl Hpe.out hr5 (u8s_one _) (by simp only[maxLen];omega) (by omega) hs5 ?_;intro v6 w6 hown6 hg6 _)
     | fail)
    go_roundw
    case rel=>
     refine⟨i+1,Hin.out,by have:=Hin.out;go_num,?_,HB5.out.grown hg6 hs5 (fun k hk=>(hown5.lt k hk).1)⟩
     rw[Htk.out,List.length_append,List.length_append,hpn,u8s_append,u8s_append]
     exact hown6
    case measure=>have:=Hin.out;simp[intOf];omega
   ·have hiK:i=n:=by omega
    rw[List.take_of_length_le (by have:=Hn.out;omega)] at hown
    obtain⟨A5,c5,rfl,hc5,hr5,-⟩:=own_slice hown
    have hpl:=Hpl.out n
    rw[List.take_of_length_le (by have:=Hn.out;omega)] at hpl
    have T9:=zZ (sum_any A5 c5 _ (lensB ps) wr rfl Hpb.out hr5 (by omega))
    have HB9:=zZ (H1.out.trans (hB.mono H1.out.size))
    clear hiK hown hr5 hB
    rw[← HS.out] at T9
    generalize lensB ps=lb at *
    go_wp2_with fail
    refine T9.out.mono ?_
    rintro r w9 ⟨rfl,hB9⟩
    go_wp2
    go_ret
    exact⟨HB9.out.trans (hB9.mono HB9.out.size),.inl ⟨_,rfl,Hc.out,rfl⟩⟩
 ·have H1:=zZ (H0.out.trans (hB1.mono H0.out.size))
  have Hc:=zZ h0
  clear hB1 H0 h0 T1
  unfold Wrong
  go_wp2_with fail
  exact⟨rfl,H1.out,.inr ⟨_,rfl,Hc.out,rfl⟩⟩
end Go.Proofs.YtdlkmjfbmenedaaGreatDoor
