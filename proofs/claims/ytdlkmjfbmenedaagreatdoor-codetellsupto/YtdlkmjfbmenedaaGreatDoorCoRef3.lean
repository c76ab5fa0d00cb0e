/- The contract of the document's own Put (layer 10). Condition: the graph's names are short enough to be held. -/
import Derived.Test.YtdlkmjfbmenedaaGreatDoorCoRef2
import Derived.Test.YtdlkmjfbmenedaaGreatDoorCoCalls
import Derived.Test.YtdlkmjfbmenedaaGreatDoorGFlRef
import Derived.Test.YtdlkmjfbmenedaaGreatDoorGRef
import Derived.Test.YtdlkmjfbmenedaaGreatDoorAl
set_option maxRecDepth 100000
set_option maxHeartbeats 1000000
namespace Go.Proofs.YtdlkmjfbmenedaaGreatDoor
open Go.RowKit
theorem rcput_any (A B C:Option Addr) (N c M d K e:Nat) (g:Gr) (w:World) (htame:tameS g.1) (h:rGr (All w) w [.slice A N c,.slice B M d,.slice C K e] g):
  Calls Tryz.prog 7 #[.agg #[.slice A N c,.slice B M d,.slice C K e]] w fun r w'=>∃ B1 m cap,r=.returned (.tuple #[.slice B1 m cap,.int .i64 (codeE g)])∧m=(codeB g).length∧m≤cap∧Rd w' B1 (u8s (codeB g))∧Below w.heap.size w w':=by
 have hB0:Below w.heap.size w (w.alloc (.cells #[.slice A N c,.slice B M d,.slice C K e] 28)):=(zA _ w).alloc (zW _) _
 have p0:=Blk.new w 28 [.slice A N c,.slice B M d,.slice C K e]
 have T1:=zZ (rgmay_any A B C N c M d K e g _ (gr_below hB0 h) htame)
 have T2:=zZ (fun W (hW:Below w.heap.size w W)=>rcanon_any A B C N c M d K e g W (gr_below hW h) htame)
 have Hok:=zZ (gr_ok h)
 have H0:=zZ hB0
 have Ht:=zZ htame
 clear h hB0 htame
 cases hm:mayG g with
 | false=>
  rw[hm] at T1
  have H1:=zZ (codeE_arg.2 hm)
  have H2:=zZ (codeB_no (g:=g) (by rw[H1.out];decide))
  clear hm
  go_enter Tryz.func7,Tryz.ntmps7
  go_wp2_with fail
  refine T1.out.mono ?_
  rintro r w1 ⟨rfl,hB1⟩
  go_wp2
  go_ret2
  exact⟨none,0,0,(show Ending.returned (.tuple #[.slice none 0 0,.int .i64 1])=_ by rw[H1.out]),by rw[H2.out];rfl,zW _,by rw[H2.out];exact .inl rfl,H0.out.trans (hB1.mono H0.out.size)⟩
 | true=>
  rw[hm] at T1
  have Hcm:=zZ (canon_may hm)
  have Hct:=zZ (show tameS (canonG g).1 by rw[canon_sch hm];exact Ht.out)
  have Hpb:=zZ (parts_byte (canon_may hm) (canon_ok Hok.out))
  have HE:=zZ (show codeE g=if mayB (codeF g)=true then 0 else 5 from if_pos hm)
  clear hm
  go_enter Tryz.func7,Tryz.ntmps7
  go_wp2_with fail
  refine T1.out.mono ?_
  rintro r w1 ⟨rfl,hB1⟩
  have H1:=zZ (H0.out.trans (hB1.mono H0.out.size))
  have p1:=p0.to hB1
  have a0:=p1.cell (j:=0) rfl
  have a1:=p1.cell (j:=1) rfl
  have a2:=p1.cell (j:=2) rfl
  clear hB1 H0 T1 p0
  go_wp2_with fail
  refine (T2.out _ H1.out).mono ?_
  rintro r w2 ⟨A1,c1,B1,d1,C1,e1,rfl,hg2,hB2⟩
  have H2:=zZ (H1.out.trans (hB2.mono H1.out.size))
  have T3:=zZ (rparts_any A1 B1 C1 (canonG g).1.length c1 (canonG g).2.1.length d1 (canonG g).2.2.length e1 (canonG g) w2 Hcm.out Hct.out hg2)
  clear hg2 hB2 H1 T2 a0 a1 a2 p1
  go_wp2_with fail
  refine T3.out.mono ?_
  rintro r w3 ⟨A3,n3,c3,rfl,hp3,hB3⟩
  have H3:=zZ (H2.out.trans (hB3.mono H2.out.size))
  have T4:=rfput_any A3 n3 c3 0 (partsG (canonG g)) w3 (by decide) hp3 Hpb.out
  rw[show ((0:Nat):Int)=0 from rfl] at T4
  have HT4:=zZ T4
  clear T3 T4 hp3 hB3 H2
  go_wp2_with fail
  refine HT4.out.mono ?_
  rintro r w4 ⟨B4,m4,cap4,E,rfl,hs,hB4⟩
  have H4:=zZ (H3.out.trans (hB4.mono H3.out.size))
  rcases hs with⟨hmb,hE0,hm4,hmc,hcm,hr4⟩ | ⟨hmb,hE1,hn,hz,hcz⟩
  ·have h0:codeE g=0:=HE.out.trans (if_pos hmb)
   have hb:codeB g=flowB (codeF g):=if_pos h0
   subst hE0
   have HX:=zZ (And.intro h0 (And.intro (show m4=(codeB g).length by rw[hb];exact hm4) (And.intro hmc (show Rd w4 B4 (u8s (codeB g)) by rw[hb];exact hr4))))
   clear hmb hm4 hmc hcm hr4 h0 hb hB4
   go_wp2
   go_ret2
   exact⟨B4,m4,cap4,(show Ending.returned (.tuple #[.slice B4 m4 cap4,.int .i64 0])=_ by rw[HX.out.1]),HX.out.2.1,HX.out.2.2.1,HX.out.2.2.2,H4.out⟩
  ·have h5:codeE g=5:=HE.out.trans (if_neg (by show ¬ mayB (0,partsG (canonG g))=true;exact fun h=>by simp[h] at hmb))
   have hb:codeB g=[]:=codeB_no (by rw[h5];decide)
   subst hE1
   have HX:=zZ (And.intro h5 hb)
   clear hmb hn hz hcz h5 hb hB4
   go_wp2
   go_ret2
   exact⟨none,0,0,(show Ending.returned (.tuple #[.slice none 0 0,.int .i64 5])=_ by rw[HX.out.1]),by rw[HX.out.2];rfl,zW _,by rw[HX.out.2];exact .inl rfl,H4.out⟩
end Go.Proofs.YtdlkmjfbmenedaaGreatDoor
