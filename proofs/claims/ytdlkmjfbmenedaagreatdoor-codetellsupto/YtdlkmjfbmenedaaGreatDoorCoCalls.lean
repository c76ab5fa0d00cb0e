/- The contracts of code's Put and Sum, whole: the bytes, or the sum, and OK; or why there are none. Condition: the table of kinds' texts is laid. -/
import Derived.Test.YtdlkmjfbmenedaaGreatDoorCoPut
import Derived.Test.YtdlkmjfbmenedaaGreatDoorAl
set_option maxRecDepth 100000
namespace Go.Proofs.YtdlkmjfbmenedaaGreatDoor
open Go.RowKit
theorem put1_any (A B C:Option Addr) (N c M d K e:Nat) (g:Gr) (k:Nat) (w:World) (hKt:Kt w) (hb:Blk w k 28 [.slice A N c,.slice B M d,.slice C K e]) (h:rGr (All w) w [.slice A N c,.slice B M d,.slice C K e] g):
  Calls Tryz.prog 16 #[.pointer (some ⟨k,0,none⟩)] w fun r w'=>Below w.heap.size w w'∧((∃ v,r=.returned v∧codeE g=0∧Byts (codeB g) v w')∨∃ n,r=Wrong n∧codeE g≠0∧n=codeE g):=by
 have T1:=zZ (write_any A B C N c M d K e g w hKt h)
 have a0:=hb.cell (j:=0) rfl
 have a1:=hb.cell (j:=1) rfl
 have a2:=hb.cell (j:=2) rfl
 clear h hKt hb
 go_enter Tryz.func16,Tryz.ntmps16
 go_wp2_with fail
 refine T1.out.mono ?_
 rintro r w1 ⟨hB1,⟨v,rfl,h0,hv⟩ | ⟨n,rfl,h0,hn⟩⟩
 ·have Hc:=zZ h0
  have Hv:=zZ hv
  have HB:=zZ hB1
  clear h0 hv hB1 T1 a0 a1 a2
  go_wp2
  go_ret
  exact⟨HB.out,.inl ⟨_,rfl,Hc.out,Hv.out⟩⟩
 ·have Hc:=zZ h0
  have Hn:=zZ hn
  have HB:=zZ hB1
  clear h0 hn hB1 T1 a0 a1 a2
  unfold Wrong
  go_wp2_with fail
  exact⟨rfl,HB.out,.inr ⟨_,rfl,Hc.out,Hn.out⟩⟩
theorem sum2_any (A B C:Option Addr) (N c M d K e:Nat) (g:Gr) (k:Nat) (w:World) (hKt:Kt w) (hb:Blk w k 28 [.slice A N c,.slice B M d,.slice C K e]) (h:rGr (All w) w [.slice A N c,.slice B M d,.slice C K e] g):
  Calls Tryz.prog 28 #[.pointer (some ⟨k,0,none⟩)] w fun r w'=>Below w.heap.size w w'∧((∃ v,r=.returned v∧codeE g=0∧v=.int .u32 (codeS g:Int))∨∃ n,r=Wrong n∧codeE g≠0∧n=codeE g):=by
 have T1:=zZ (sum1_any A B C N c M d K e g w hKt h)
 have a0:=hb.cell (j:=0) rfl
 have a1:=hb.cell (j:=1) rfl
 have a2:=hb.cell (j:=2) rfl
 clear h hKt hb
 go_enter Tryz.func28,Tryz.ntmps28
 go_wp2_with fail
 refine T1.out.mono ?_
 rintro r w1 ⟨hB1,⟨v,rfl,h0,hv⟩ | ⟨n,rfl,h0,hn⟩⟩
 ·have Hc:=zZ h0
  have Hv:=zZ hv
  have HB:=zZ hB1
  clear h0 hv hB1 T1 a0 a1 a2
  go_wp2
  go_ret
  exact⟨HB.out,.inl ⟨_,rfl,Hc.out,Hv.out⟩⟩
 ·have Hc:=zZ h0
  have Hn:=zZ hn
  have HB:=zZ hB1
  clear h0 hn hB1 T1 a0 a1 a2
  unfold Wrong
  go_wp2_with fail
  exact⟨rfl,HB.out,.inr ⟨_,rfl,Hc.out,Hn.out⟩⟩
theorem codeB_no {g:Gr} (h:codeE g≠0):codeB g=[]:=if_neg h
theorem codeS_no {g:Gr} (h:codeE g≠0):codeS g=0:=if_neg h
theorem cput_any (A B C:Option Addr) (N c M d K e:Nat) (g:Gr) (w:World) (hKt:Kt w) (h:rGr (All w) w [.slice A N c,.slice B M d,.slice C K e] g):
  Calls Tryz.prog 6 #[.agg #[.slice A N c,.slice B M d,.slice C K e]] w fun r w'=>∃ B1 m cap,r=.returned (.tuple #[.slice B1 m cap,.int .i64 (codeE g)])∧m=(codeB g).length∧m≤cap∧cap≤maxLen∧Rd w' B1 (u8s (codeB g))∧Below w.heap.size w w':=by
 have hmf:∀ (fn:Fn) (first cap:Array Value) (w:World),(Instr.makeFunc fn first cap).run Tryz.prog w=.ok (.func fn first cap) w:=fun _ _ _ _=>rfl
 have hB0:Below w.heap.size w (w.alloc (.cells #[.slice A N c,.slice B M d,.slice C K e] 28)):=(zA _ w).alloc (zW _) _
 have p0:=Blk.new w 28 [.slice A N c,.slice B M d,.slice C K e]
 have T1:=zZ (answerB_any (Good:=fun v w'=>codeE g=0∧Byts (codeB g) v w') (Bad:=fun n=>codeE g≠0∧n=codeE g) w.heap.size (w.alloc (.cells #[.slice A N c,.slice B M d,.slice C K e] 28)) (fun W hW=>put1_any A B C N c M d K e g _ W (hKt.below (hB0.trans (hW.mono hB0.size))) (p0.to hW) (gr_below hW (gr_below hB0 h))))
 have H0:=zZ hB0
 clear h hKt hB0 p0
 go_enter Tryz.func6,Tryz.ntmps6
 go_wp2_with fail
 refine T1.out.mono ?_
 rintro r w1 ⟨hB1,⟨v,rfl,h0,A1,m,c1,rfl,hm,hmc,hcm,hr⟩ | ⟨n,rfl,h0,rfl⟩⟩
 ·have HX:=zZ (And.intro hm (And.intro hmc (And.intro hcm (And.intro hr (H0.out.trans (hB1.mono H0.out.size))))))
  have Hc:=zZ h0
  clear h0 hB1 T1 hm hmc hcm hr
  go_wp2
  go_ret2
  exact⟨A1,m,c1,(show Ending.returned (.tuple #[.slice A1 m c1,.int .i64 0])=_ by rw[Hc.out]),HX.out⟩
 ·have Hb:=zZ (codeB_no h0)
  have HB:=zZ (H0.out.trans (hB1.mono H0.out.size))
  clear h0 hB1 T1
  go_wp2
  go_ret2
  exact⟨none,0,0,rfl,by rw[Hb.out];rfl,zW _,by simp[maxLen],by rw[Hb.out];exact .inl rfl,HB.out⟩
theorem csum_any (A B C:Option Addr) (N c M d K e:Nat) (g:Gr) (w:World) (hKt:Kt w) (h:rGr (All w) w [.slice A N c,.slice B M d,.slice C K e] g):
  Calls Tryz.prog 10 #[.agg #[.slice A N c,.slice B M d,.slice C K e]] w fun r w'=>r=.returned (.tuple #[.int .u32 (codeS g:Int),.int .i64 (codeE g)])∧Below w.heap.size w w':=by
 have hmf:∀ (fn:Fn) (first cap:Array Value) (w:World),(Instr.makeFunc fn first cap).run Tryz.prog w=.ok (.func fn first cap) w:=fun _ _ _ _=>rfl
 have hB0:Below w.heap.size w (w.alloc (.cells #[.slice A N c,.slice B M d,.slice C K e] 28)):=(zA _ w).alloc (zW _) _
 have p0:=Blk.new w 28 [.slice A N c,.slice B M d,.slice C K e]
 have T1:=zZ (answerU_any (Good:=fun v w'=>codeE g=0∧v=.int .u32 (codeS g:Int)) (Bad:=fun n=>codeE g≠0∧n=codeE g) w.heap.size (w.alloc (.cells #[.slice A N c,.slice B M d,.slice C K e] 28)) (fun W hW=>sum2_any A B C N c M d K e g _ W (hKt.below (hB0.trans (hW.mono hB0.size))) (p0.to hW) (gr_below hW (gr_below hB0 h))))
 have H0:=zZ hB0
 clear h hKt hB0 p0
 go_enter Tryz.func10,Tryz.ntmps10
 go_wp2_with fail
 refine T1.out.mono ?_
 rintro r w1 ⟨hB1,⟨v,rfl,h0,rfl⟩ | ⟨n,rfl,h0,rfl⟩⟩
 ·have HB:=zZ (H0.out.trans (hB1.mono H0.out.size))
  have Hc:=zZ h0
  clear h0 hB1 T1
  go_wp2
  go_ret2
  exact⟨(show Ending.returned (.tuple #[.int .u32 (codeS g:Int),.int .i64 0])=_ by rw[Hc.out]),HB.out⟩
 ·have Hb:=zZ (codeS_no h0)
  have HB:=zZ (H0.out.trans (hB1.mono H0.out.size))
  clear h0 hB1 T1
  go_wp2
  go_ret2
  exact⟨(show Ending.returned (.tuple #[.int .u32 0,.int .i64 (codeE g)])=_ by rw[Hb.out];rfl),HB.out⟩
end Go.Proofs.YtdlkmjfbmenedaaGreatDoor
