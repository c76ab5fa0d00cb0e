/- The contract of foliatelaw10's awake: the chapter's example, and one read, are as they are. Conditions: the table of kinds' texts, and the variable errors.errorType, are laid. -/
import Derived.Test.YtdlkmjfbmenedaaGreatDoorCoGetAll
import Derived.Test.YtdlkmjfbmenedaaGreatDoorCoEx
import Derived.Test.YtdlkmjfbmenedaaGreatDoorAl
set_option maxRecDepth 100000
set_option maxHeartbeats 2000000
namespace Go.Proofs.YtdlkmjfbmenedaaGreatDoor
open Go.RowKit
theorem codeawake_any (w:World) (hKt:Kt w) (hg:Han w):Calls Tryz.prog 4 #[] w fun r w'=>r=.returned (.bool true)∧Below w.heap.size w w':=by
 have hB0:Below w.heap.size w (w.alloc (.cells #[.string ⟨#[97]⟩,.slice none 0 0] 44)):=(zA _ w).alloc (zW _) _
 have hsch:rSch (All (w.alloc (.cells #[.string ⟨#[97]⟩,.slice none 0 0] 44))) (w.alloc (.cells #[.string ⟨#[97]⟩,.slice none 0 0] 44)) [.slice (some ⟨w.heap.size,0,none⟩) 1 1] [([97],[])]:=
  ⟨some ⟨w.heap.size,0,none⟩,1,[.string ⟨#[97]⟩,.slice none 0 0],rfl,zW _,by simp[maxLen],(Blk.new w 44 [.string ⟨#[97]⟩,.slice none 0 0]).rd,Chunks.one (size:=2) rfl (rTyp_mk (t:=([97],[])) (s:=⟨#[97]⟩) rfl (by decide) ⟨none,0,[],rfl,zW _,Nat.zero_le _,.inl rfl,Chunks.nil⟩)⟩
 have hgr:rGr (All (w.alloc (.cells #[.string ⟨#[97]⟩,.slice none 0 0] 44))) (w.alloc (.cells #[.string ⟨#[97]⟩,.slice none 0 0] 44)) [.slice (some ⟨w.heap.size,0,none⟩) 1 1,.slice none 0 0,.slice none 0 0] chapC:=
  rGr_mk (g:=chapC) hsch ⟨none,0,[],rfl,zW _,Nat.zero_le _,.inl rfl,Chunks.nil⟩ ⟨none,0,[],rfl,zW _,Nat.zero_le _,.inl rfl,Chunks.nil⟩
 have T1:=zZ (cput_any _ _ _ _ _ _ _ _ _ chapC _ (hKt.below hB0) hgr)
 have H0:=zZ hB0
 have HK:=zZ (fun W (hW:Below w.heap.size w W)=>hKt.below hW)
 have HG:=zZ (fun W (hW:Below w.heap.size w W)=>hg.below hW)
 have L49:=zZ chapC_len
 clear hKt hg hsch hgr hB0
 go_enter Tryz.func4,Tryz.ntmps4
 go_wp2_with fail
 refine T1.out.mono ?_
 rintro r w1 ⟨B1,m1,cap1,rfl,hm1,-,-,-,hB1⟩
 rw[L49.out] at hm1
 subst hm1
 rw[chapC_e]
 have H1:=zZ (H0.out.trans (hB1.mono H0.out.size))
 clear hB1 H0 T1
 go_wp2_with fail
 refine (two_any _).mono ?_
 rintro r w2 ⟨A2,c2,B2,C2,rfl,h2,hB2⟩
 have H2:=zZ (H1.out.trans (hB2.mono H1.out.size))
 have T2:=zZ (cput_any _ _ _ _ _ _ _ _ _ twoG _ (HK.out _ H2.out) h2)
 clear hB2 H1 h2
 go_wp2_with fail
 refine T2.out.mono ?_
 rintro r w3 ⟨B3,m3,cap3,rfl,hm3,hmc3,-,hr3,hB3⟩
 rw[two_e]
 have H3:=zZ (H2.out.trans (hB3.mono H2.out.size))
 have T3:=zZ (cget_any B3 m3 cap3 (codeB twoG) _ (HK.out _ H3.out) (HG.out _ H3.out) hm3.symm hmc3 (codeB_byte two_ok) hr3 (by have:=codeB_len two_ok;omega))
 rw[two_get] at T3
 clear hB3 H2 hm3 hmc3 hr3 T2
 go_wp2_with fail
 refine T3.out.mono ?_
 rintro r w4 ⟨A4,n4,c4,B4,m4,d4,C4,k4,e4,rfl,h4,hB4⟩
 obtain⟨hm4,-,-⟩:=slice_len (rGr_open h4).2.1
 obtain⟨bo,offo,F4,fc4,rfl,hbo,o0,o1,o2,hov,-,-⟩:=ob_at (rGr_open h4).2.1 (show twoC.2.1[0]?=some (0,0,[(7,[],0),(0,[],-1)]) from rfl)
 obtain⟨bv,offv,sv,rfl,hbv,v0,-,-,-,-,-,-⟩:=val_at hov (show ([(7,[],0),(0,[],-1)]:List Vl)[0]?=some (7,[],0) from rfl)
 have hm4':m4=1:=hm4.symm
 subst hm4'
 have H4:=zZ (H3.out.trans (hB4.mono H3.out.size))
 have hB5:Below w4.heap.size w4 (w4.alloc (.cells #[.slice A4 n4 c4,.slice (some ⟨bo,offo,none⟩) 1 d4,.slice C4 k4 e4] 28)):=(zA _ w4).alloc (zW _) _
 have p5:=Blk.new w4 28 [.slice A4 n4 c4,.slice (some ⟨bo,offo,none⟩) 1 d4,.slice C4 k4 e4]
 have o2':=(hB5.cell (p:=⟨bo,offo+0 * 3+2,none⟩) hbo).trans o2
 have v0':=(hB5.cell (p:=⟨bv,offv+0 * 3,none⟩) hbv).trans v0
 simp only[Nat.zero_mul,Nat.add_zero] at o2' v0'
 have H5:=zZ (H4.out.trans (hB5.mono H4.out.size))
 have P5:=zZ p5
 have HBo:=zZ (show bo<w4.heap.size+1∧bv<w4.heap.size+1 from ⟨Nat.lt_succ_of_lt hbo,Nat.lt_succ_of_lt hbv⟩)
 have S5:Hid ((w4.alloc (.cells #[.slice A4 n4 c4,.slice (some ⟨bo,offo,none⟩) 1 d4,.slice C4 k4 e4] 28)).heap.size=w4.heap.size+1):=zZ (by simp)
 have HO:=zZ (And.intro o2' v0')
 clear hB4 H3 T3 hm4 o0 o1 o2 v0 hov h4 H4 hB5 p5 hbo hbv o2' v0'
 go_wp2_with fail
 generalize w4.alloc (.cells #[.slice A4 n4 c4,.slice (some ⟨bo,offo,none⟩) 1 d4,.slice C4 k4 e4] 28)=w5 at *
 refine (two_any _).mono ?_
 rintro r w6 ⟨A6,c6,B6,C6,rfl,h6,hB6⟩
 have H6:=zZ (H5.out.trans (hB6.mono H5.out.size))
 have p6:=P5.out.to hB6
 have T6:=zZ (csum_any _ _ _ _ _ _ _ _ _ twoG _ (HK.out _ H6.out) h6)
 have HB6:=zZ hB6
 have P6:=zZ p6
 clear hB6 H5 h6 P5 p6
 go_wp2_with fail
 refine T6.out.mono ?_
 rintro r w7 ⟨rfl,hB7⟩
 rw[two_e]
 have p7:=P6.out.to hB7
 have hB57:=HB6.out.trans (hB7.mono HB6.out.size)
 have q1:=p7.cell (j:=1) rfl
 have x2:=(hB57.cell (p:=⟨bo,offo+2,none⟩) (by show bo<_;have:=HBo.out.1;have:=S5.out;omega)).trans HO.out.1
 have x0:=(hB57.cell (p:=⟨bv,offv,none⟩) (by show bv<_;have:=HBo.out.2;have:=S5.out;omega)).trans HO.out.2
 have HB9:=zZ (H6.out.trans (hB7.mono H6.out.size))
 obtain⟨sm,hsm⟩:∃ sm,sm+1=codeS twoG:=⟨codeS twoG - 1,by have:=two_sum;omega⟩
 rw[← hsm]
 have hpos:(0:Int)<((sm+1:Nat):Int):=by omega
 have hpos2:(0:Int)<(sm:Int)+1:=by omega
 clear hsm hB7 hB57 p7 T6
 go_wp2
 go_ret
 exact⟨rfl,HB9.out⟩
end Go.Proofs.YtdlkmjfbmenedaaGreatDoor
