/- CodeTells: any graph has the bytes, and the sum, or none, and any bytes are the graph, or why not, as the document says. Conditions: the table of kinds' texts, and the variable errors.errorType, are laid; the graph's texts have at most 1048576 bytes, which the row's second form has. -/
import Derived.Test.YtdlkmjfbmenedaaGreatDoorCoRef8
import Derived.Test.YtdlkmjfbmenedaaGreatDoorCoRef4
import Derived.Test.YtdlkmjfbmenedaaGreatDoorCoAwake
import Derived.Test.YtdlkmjfbmenedaaGreatDoorCoGetAll
import Derived.Test.YtdlkmjfbmenedaaGreatDoorGRef
import Derived.Test.YtdlkmjfbmenedaaGreatDoorAl
set_option maxRecDepth 100000
set_option maxHeartbeats 4000000
namespace Go.Proofs.YtdlkmjfbmenedaaGreatDoor
open Go.RowKit
theorem codeTells_walk (w:World) (hL:Kt w∧Han w) (cs:Array Value) (g:Gr) (h:rGr (All w) w cs.toList g) (hshort:shortG g) (A2:Option Addr) (c2:Nat) (bs:List Nat) (hl:bs.length≤c2) (_:c2≤maxLen) (hb:∀ x∈bs,x<256) (hr:Rd w A2 (u8s bs)):
  Calls Tryz.prog 3 #[.agg cs,.slice A2 bs.length c2] w fun e w'=>e=.returned (.bool true)∧Below w.heap.size w w':=by
 obtain⟨A,c,B,d,C,e,rfl,h⟩:=gr_arg h
 have hB0:Below w.heap.size w (w.alloc (.cells #[.slice A g.1.length c,.slice B g.2.1.length d,.slice C g.2.2.length e] 28)):=(zA _ w).alloc (zW _) _
 have pa:=Blk.new w 28 [.slice A g.1.length c,.slice B g.2.1.length d,.slice C g.2.2.length e]
 have Fa:=zZ (fun W (hW:Below w.heap.size w W)=>gfew_any A B C g.1.length c g.2.1.length d g.2.2.length e g W (gr_below hW h))
 have Pa:=zZ (fun W (hW:Below w.heap.size w W)=>cput_any A B C g.1.length c g.2.1.length d g.2.2.length e g W (hL.1.below hW) (gr_below hW h))
 have Pr:=zZ (fun W (hW:Below w.heap.size w W) ht=>rcput_any A B C g.1.length c g.2.1.length d g.2.2.length e g W ht (gr_below hW h))
 have Sa:=zZ (fun W (hW:Below w.heap.size w W)=>csum_any A B C g.1.length c g.2.1.length d g.2.2.length e g W (hL.1.below hW) (gr_below hW h))
 have Sr:=zZ (fun W (hW:Below w.heap.size w W) ht=>rcsum_any A B C g.1.length c g.2.1.length d g.2.2.length e g W ht (gr_below hW h))
 have Ga:=zZ (fun W (hW:Below w.heap.size w W) hn=>cget_any A2 bs.length c2 bs W (hL.1.below hW) (hL.2.below hW) rfl hl hb (hr.below hW) hn)
 have Gr:=zZ (fun W (hW:Below w.heap.size w W) hn=>rcget_any A2 bs.length c2 bs W rfl hl hb (hr.below hW) hn)
 have HK:=zZ (fun W (hW:Below w.heap.size w W)=>hL.1.below hW)
 have HG:=zZ (fun W (hW:Below w.heap.size w W)=>hL.2.below hW)
 have Ht:=zZ (fun hf=>(short_tame (g:=g) hf hshort).2)
 have H0:=zZ hB0
 clear h hL hB0 hshort hb hr hl
 generalize hfa:fewG g=fa at *
 generalize g.1.length=N at *
 generalize g.2.1.length=M at *
 generalize g.2.2.length=K at *
 generalize hn:bs.length=n at *
 go_enter Tryz.func3,Tryz.ntmps3
 go_wp2_with fail
 refine (codeawake_any _ (HK.out _ H0.out) (HG.out _ H0.out)).mono ?_
 rintro r w1 ⟨rfl,hB1⟩
 have H1:=zZ (H0.out.trans (hB1.mono H0.out.size))
 replace pa:=pa.to hB1
 clear hB1 H0 HK HG
 have a0:=pa.cell (j:=0) rfl
 have a1:=pa.cell (j:=1) rfl
 have a2:=pa.cell (j:=2) rfl
 go_wp2_with fail
 refine (Fa.out _ H1.out).mono ?_
 rintro r w2 ⟨rfl,hB2⟩
 have H2:=zZ (H1.out.trans (hB2.mono H1.out.size))
 replace pa:=pa.to hB2
 clear hB2 H1 a0 a1 a2 Fa
 cases fa
 ·go_wp2
  go_ret
  exact⟨rfl,H2.out⟩
 by_cases hlen:n≤1500
 rotate_left
 ·have hd:decide ((1500:Int)<(n:Int))=true:=zJ (by omega)
  have hd2:decide (1500<n)=true:=zJ (by omega)
  clear hlen hn
  go_wp2
  go_ret
  exact⟨rfl,H2.out⟩
 have hd:decide ((1500:Int)<(n:Int))=false:=zK (by omega)
 have hd2:decide (1500<n)=false:=zK (by omega)
 have ht:=Ht.out (by trivial)
 have Ga:=zZ (fun W hW=>Ga.out W hW (by omega))
 have Gr:=zZ (fun W hW=>Gr.out W hW (by omega))
 have Pr:=zZ (fun W hW=>Pr.out W hW ht)
 have Sr:=zZ (fun W hW=>Sr.out W hW ht)
 clear hlen hn ht Ht hfa
 have a0:=pa.cell (j:=0) rfl
 have a1:=pa.cell (j:=1) rfl
 have a2:=pa.cell (j:=2) rfl
 go_wp2_with fail
 refine (Pa.out _ H2.out).mono ?_
 rintro r w3 ⟨B3,m3,cap3,rfl,hm3,-,-,hr3,hB3⟩
 have H3:=zZ (H2.out.trans (hB3.mono H2.out.size))
 have R3:=zZ hr3
 have M3:=zZ hm3
 replace pa:=pa.to hB3
 clear hB3 H2 a0 a1 a2 Pa hr3 hm3 hd hd2
 have a0:=pa.cell (j:=0) rfl
 have a1:=pa.cell (j:=1) rfl
 have a2:=pa.cell (j:=2) rfl
 go_wp2_with fail
 refine (Pr.out _ H3.out).mono ?_
 rintro r w4 ⟨B4,m4,cap4,rfl,hm4,-,hr4,hB4⟩
 have H4:=zZ (H3.out.trans (hB4.mono H3.out.size))
 have R3:=zZ (R3.out.below hB4)
 have R4:=zZ hr4
 have M4:=zZ hm4
 replace pa:=pa.to hB4
 clear hB4 H3 a0 a1 a2 Pr hr4 hm4
 go_wp2_with fail
 refine (Ga.out _ H4.out).mono ?_
 rintro r w5 ⟨A5,n5,c5,B5,m5,d5,C5,k5,e5,rfl,hg5,hB5⟩
 have hB5a:=hB5.alloc (o:=.cells #[.slice A5 n5 c5,.slice B5 m5 d5,.slice C5 k5 e5] 28) hB5.size
 have H5:=zZ (H4.out.trans (hB5a.mono H4.out.size))
 have p5:=Blk.new w5 28 [.slice A5 n5 c5,.slice B5 m5 d5,.slice C5 k5 e5]
 have hg5':=gr_below ((zA _ w5).alloc (zW _) (.cells #[.slice A5 n5 c5,.slice B5 m5 d5,.slice C5 k5 e5] 28)) hg5
 have R3:=zZ (R3.out.below hB5a)
 have R4:=zZ (R4.out.below hB5a)
 replace pa:=pa.to hB5a
 clear hB5 hB5a H4 Ga hg5
 go_wp2_with fail
 generalize w5.alloc (.cells #[.slice A5 n5 c5,.slice B5 m5 d5,.slice C5 k5 e5] 28)=w5a at *
 refine (Gr.out _ H5.out).mono ?_
 rintro r w6 ⟨A6,n6,c6,B6,m6,d6,C6,k6,e6,rfl,hg6,hB6⟩
 have hB6a:=hB6.alloc (o:=.cells #[.slice A6 n6 c6,.slice B6 m6 d6,.slice C6 k6 e6] 28) hB6.size
 have H6:=zZ (H5.out.trans (hB6a.mono H5.out.size))
 have p6:=Blk.new w6 28 [.slice A6 n6 c6,.slice B6 m6 d6,.slice C6 k6 e6]
 have hg6':=gr_below ((zA _ w6).alloc (zW _) (.cells #[.slice A6 n6 c6,.slice B6 m6 d6,.slice C6 k6 e6] 28)) hg6
 have G5:=zZ (gr_below hB6a hg5')
 have G6:=zZ hg6'
 have R3:=zZ (R3.out.below hB6a)
 have R4:=zZ (R4.out.below hB6a)
 replace pa:=pa.to hB6a
 replace p5:=p5.to hB6a
 clear hB6 hB6a H5 Gr hg6 hg5' hg6'
 have a0:=pa.cell (j:=0) rfl
 have a1:=pa.cell (j:=1) rfl
 have a2:=pa.cell (j:=2) rfl
 go_wp2_with fail
 generalize w6.alloc (.cells #[.slice A6 n6 c6,.slice B6 m6 d6,.slice C6 k6 e6] 28)=w6a at *
 refine (Sa.out _ H6.out).mono ?_
 rintro r w7 ⟨rfl,hB7⟩
 have H7:=zZ (H6.out.trans (hB7.mono H6.out.size))
 have R3:=zZ (R3.out.below hB7)
 have R4:=zZ (R4.out.below hB7)
 have G5:=zZ (gr_below hB7 G5.out)
 have G6:=zZ (gr_below hB7 G6.out)
 replace pa:=pa.to hB7
 replace p5:=p5.to hB7
 replace p6:=p6.to hB7
 clear hB7 H6 a0 a1 a2 Sa
 have a0:=pa.cell (j:=0) rfl
 have a1:=pa.cell (j:=1) rfl
 have a2:=pa.cell (j:=2) rfl
 go_wp2_with fail
 refine (Sr.out _ H7.out).mono ?_
 rintro r w8 ⟨rfl,hB8⟩
 have H8:=zZ (H7.out.trans (hB8.mono H7.out.size))
 have R3:=zZ (R3.out.below hB8)
 have R4:=zZ (R4.out.below hB8)
 have T9:=zZ (rgsame_any A5 B5 C5 n5 c5 m5 d5 k5 e5 A6 B6 C6 n6 c6 m6 d6 k6 e6 (codeG bs).1 (codeG bs).1 w8 (gr_below hB8 G5.out) (gr_below hB8 G6.out))
 replace p5:=p5.to hB8
 replace p6:=p6.to hB8
 clear hB8 H7 a0 a1 a2 Sr pa G5 G6
 have b0:=p5.cell (j:=0) rfl
 have b1:=p5.cell (j:=1) rfl
 have b2:=p5.cell (j:=2) rfl
 have d0:=p6.cell (j:=0) rfl
 have d1:=p6.cell (j:=1) rfl
 have d2:=p6.cell (j:=2) rfl
 go_wp2_with fail
 refine T9.out.mono ?_
 rintro r w9 ⟨rfl,hB9⟩
 have H9:=zZ (H8.out.trans (hB9.mono H8.out.size))
 have cv3:=conv_str (P:=Tryz.prog) w9 _ _ _ Tryz.underlying29 Tryz.underlying5 Tryz.underlying9 B3 (codeB g) m3 cap3 M3.out.symm (R3.out.below hB9)
 have cv4:=conv_str (P:=Tryz.prog) w9 _ _ _ Tryz.underlying29 Tryz.underlying5 Tryz.underlying9 B4 (codeB g) m4 cap4 M4.out.symm (R4.out.below hB9)
 clear hB9 H8 T9 p5 p6 b0 b1 b2 d0 d1 d2 R3 R4 M3 M4
 rw[show decide True=true from rfl]
 generalize strB (codeB g)=st at *
 generalize codeE g=E at *
 generalize codeS g=sm at *
 generalize (codeG bs).2=E2 at *
 go_wp2
 go_ret
 exact⟨rfl,H9.out⟩
end Go.Proofs.YtdlkmjfbmenedaaGreatDoor
