/- The contract of the document's own Sum (layer 10). Condition: the graph's names are short enough to be held. -/
import Derived.Test.YtdlkmjfbmenedaaGreatDoorCoRef3
import Derived.Test.YtdlkmjfbmenedaaGreatDoorGCrc
import Derived.Test.YtdlkmjfbmenedaaGreatDoorAl
set_option maxRecDepth 100000
set_option maxHeartbeats 2000000
namespace Go.Proofs.YtdlkmjfbmenedaaGreatDoor
open Go.RowKit
theorem rcsum_any (A B C:Option Addr) (N c M d K e:Nat) (g:Gr) (w:World) (htame:tameS g.1) (h:rGr (All w) w [.slice A N c,.slice B M d,.slice C K e] g):
  Calls Tryz.prog 11 #[.agg #[.slice A N c,.slice B M d,.slice C K e]] w fun r w'=>r=.returned (.tuple #[.int .u32 (codeS g:Int),.int .i64 (codeE g)])∧Below w.heap.size w w':=by
 obtain⟨i0,hi,hz0,hz1,hz2⟩:=info_parts info_u8
 have hB0:Below w.heap.size w (w.alloc (.cells #[.slice A N c,.slice B M d,.slice C K e] 28)):=(zA _ w).alloc (zW _) _
 have p0:=Blk.new w 28 [.slice A N c,.slice B M d,.slice C K e]
 have T1:=zZ (rcput_any A B C N c M d K e g _ htame (gr_below hB0 h))
 have T2:=zZ (fun W (hW:Below w.heap.size w W)=>rcanon_any A B C N c M d K e g W (gr_below hW h) htame)
 have H0:=zZ hB0
 have Hok:=zZ (gr_ok h)
 have Ht:=zZ htame
 have a0:=p0.cell (j:=0) rfl
 have a1:=p0.cell (j:=1) rfl
 have a2:=p0.cell (j:=2) rfl
 clear h hB0 htame
 go_enter Tryz.func11,Tryz.ntmps11
 go_wp2_with fail
 refine T1.out.mono ?_
 rintro r w1 ⟨B1,m1,cap1,rfl,-,-,-,hB1⟩
 have H1:=zZ (H0.out.trans (hB1.mono H0.out.size))
 replace p0:=p0.to hB1
 clear hB1 H0 a0 a1 a2 T1
 by_cases h0:codeE g=0
 ·rw[h0]
  have hm:=codeE_may h0
  have Hcm:=zZ (canon_may hm)
  have Hct:=zZ (show tameS (canonG g).1 by rw[canon_sch hm];exact Ht.out)
  have hokF:=code_okF Hok.out h0
  have hS:codeS g=sumL (lensB (partsG (canonG g))):=if_pos h0
  have HS:=zZ hS
  have hfew:(partsG (canonG g)).length≤40:=hokF.few
  have hsh:∀ p∈partsG (canonG g),p.length≤200:=hokF.short
  have hby:∀ p∈partsG (canonG g),∀ x∈p,x<256:=hokF.byte
  have Hpb:=zZ (lensB_byte hby)
  have hpl:∀ i,(lensB ((partsG (canonG g)).take i)).length≤8400:=fun i=>by
   have:=lensB_len (l:=(partsG (canonG g)).take i) (fun p hp=>hsh p (List.mem_of_mem_take hp))
   rw[List.length_take] at this
   omega
  have Hpl:=zZ hpl
  have Hsh:=zZ hsh
  have Hfew:=zZ hfew
  have Hc0:=zZ h0
  have a0:=p0.cell (j:=0) rfl
  have a1:=p0.cell (j:=1) rfl
  have a2:=p0.cell (j:=2) rfl
  clear h0 hm hokF hS hfew hsh hby hpl Hok Ht
  go_wp2_with fail
  refine (T2.out _ H1.out).mono ?_
  rintro r w2 ⟨A2,c2,B2,d2,C2,e2,rfl,hg2,hB2⟩
  have H2:=zZ (H1.out.trans (hB2.mono H1.out.size))
  have T3:=zZ (rparts_any A2 B2 C2 (canonG g).1.length c2 (canonG g).2.1.length d2 (canonG g).2.2.length e2 (canonG g) w2 Hcm.out Hct.out hg2)
  clear hg2 hB2 H1 T2 a0 a1 a2 p0 Hcm Hct
  generalize partsG (canonG g)=ps at *
  go_wp2_with fail
  refine T3.out.mono ?_
  rintro r w4 ⟨A4,n,c4,rfl,hp4,hB4⟩
  have H4:=zZ (H2.out.trans (hB4.mono H2.out.size))
  obtain⟨hn,-,-⟩:=pts_len hp4
  have Hn:=zZ hn
  have Hp:=zZ hp4
  have hfew:n≤40:=by have:=Hfew.out;omega
  clear hn hp4 hB4 T3 H2 Hfew
  go_wp2
  go_loopw [7,8] (fun v iv wr=>∃ i:Nat,i≤n∧iv=.int .i64 (i:Int)∧wr.ownsRow w4.heap.size 5 1 v (lensB (ps.take i)).length (u8s (lensB (ps.take i)))∧Below w4.heap.size w4 wr) (fun _ iv _=>n - (intOf iv).toNat)
  case atStart=>exact⟨0,by omega,rfl,World.ownsRow_nil _ _ _ _,zA _ _⟩
  case round=>
   rename World=>wr
   obtain⟨i,hi',rfl,hown,hB⟩:=hrel
   have hsr:=hB.size
   by_cases hin:i<n
   ·obtain⟨p,hp⟩:∃ p,ps[i]?=some p:=⟨_,zV (by have:=Hn.out;omega)⟩
    obtain⟨b,off,A9,c9,rfl,hb,x0,-,-,hpb,hrd⟩:=pts_at Hp.out hp
    have x0':=(hB.cell (p:=⟨b,off+i,none⟩) hb).trans x0
    have HX0:=zZ x0
    have HbX:=zZ hb
    have hp200:=Hsh.out p (List.mem_of_getElem? hp)
    have htk:lensB (ps.take (i+1))=lensB (ps.take i)++vputL p.length++p:=by rw[take_at hp,lensB_one]
    have hl1:=Hpl.out i
    have hl2:=putL_len10 p.length (by omega)
    have P1:=zZ (fun W=>vrput_any p.length W (by omega))
    have eu:IntKind.u64.wrap (p.length:Int)=(p.length:Int):=by have:IntKind.u64.wrap (p.length:Int)=(p.length:Int) % 18446744073709551616:=rfl;omega
    have Htk:=zZ htk
    have HB:=zZ hB
    have Hrd:=zZ (RdIn.rd hrd)
    have hil:(i:Int)<(n:Int):=by omega
    have hi0:(0:Int)≤(i:Int):=by omega
    have Hin:=zZ hin
    have Hpe:Hid ((u8s p).length=p.length):=zZ (by simp)
    clear htk hB x0 hp hrd hpb
    generalize lensB (ps.take i)=pre at *
    generalize hpn:p.length=pn at *
    go_wp2_with fail
    refine (P1.out wr).mono ?_
    rintro r w3 ⟨v3,rfl,hv3,hB3⟩
    obtain⟨A3,c3,rfl,hc3,hr3,-⟩:=own_slice hv3
    have hown3:=own_below hown hB3
    have HB3:=zZ (HB.out.trans (hB3.mono hsr))
    have hsz:=HB3.out.size
    have Hown3:=zZ hown3
    clear P1 hown hv3 hB3 HB x0' eu
    generalize vputL pn=pv at *
    go_wp2_with (first
     | (at_builtin;refine wpList_app rfl (.tmp 26) (.tmp 33) 29 rfl w4.heap.size 5 i0 (.int .u8 0) 1 Tryz.underlying29 hi hz0 hz1 hz2 rfl _ pre.length (u8s pre) rfl hown3 A3 pv.length c3 (u8s pv) rfl (by simp) hr3 (u8s_one _) (by simp only[maxLen];omega) (by omega) hsz ?_;intro v5 w5 hown5 hg5 _;have HB5:=zZ (HB3.out.grown hg5 hsz (fun k hk=>(Hown3.out.lt k hk).1));have hs5:=HB5.out.size;have hr5:=Hrd.out.below HB5.out;have x5:=(HB5.out.cell (p:=⟨b,off+i,none⟩) HbX.out).trans HX0.out;have Hg5:=zZ hg5;clear hg5)
     | (at_builtin;refine wpList_app rfl (.tmp 35) (.tmp 39) 29 rfl w4.heap.size 5 i0 (.int .u8 0) 1 Tryz.underlying29 hi hz0 hz1 hz2 rfl _ (pre.length+pv.length) (u8s pre++u8s pv) rfl hown5 A9 pn c9 (u8s p) rfl Hpe.out hr5 (u8s_one _) (by simp only[maxLen];omega) (by omega) hs5 ?_;intro v6 w6 hown6 hg6 _)
     | fail)
    go_roundw
    case rel=>
     refine⟨i+1,Hin.out,by have:=Hin.out;go_num,?_,HB5.out.grown hg6 hs5 (fun k hk=>(hown5.lt k hk).1)⟩
     rw[Htk.out,List.length_append,List.length_append,hpn,u8s_append,u8s_append]
     exact hown6
    case measure=>have:=Hin.out;simp[intOf];omega
   ·have hiK:i=n:=by omega
    rw[List.take_of_length_le (by have:=Hn.out;omega)] at hown
    obtain⟨A5,c5,rfl,hc5,hr5,-⟩:=own_slice hown
    have hpl:=Hpl.out n
    rw[List.take_of_length_le (by have:=Hn.out;omega)] at hpl
    have T9:=zZ (rsum_any A5 c5 _ (lensB ps) wr rfl Hpb.out hr5 (by omega))
    have HB9:=zZ (H4.out.trans (hB.mono H4.out.size))
    have hil:¬ ((i:Int)<(n:Int)):=by omega
    clear hiK hown hr5 hB
    rw[← HS.out] at T9
    generalize lensB ps=lb at *
    go_wp2_with fail
    refine T9.out.mono ?_
    rintro r w9 ⟨rfl,hw9⟩
    replace hw9:=hw9.symm
    subst hw9
    go_wp2
    go_ret2
    exact⟨(show Ending.returned (.tuple #[.int .u32 (codeS g:Int),.int .i64 0])=_ by rw[Hc0.out]),HB9.out⟩
 ·have HS:=zZ (codeS_no h0)
  have h0':(codeE g != 0)=true:=by simpa using h0
  clear h0
  have HX:Hid (Ending.returned (.tuple #[.int .u32 0,.int .i64 (codeE g)])=Ending.returned (.tuple #[.int .u32 (codeS g:Int),.int .i64 (codeE g)])):=zZ (by rw[HS.out];rfl)
  go_wp2
  go_ret2
  exact⟨HX.out,H1.out⟩
end Go.Proofs.YtdlkmjfbmenedaaGreatDoor
