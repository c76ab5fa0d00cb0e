/- The contract of foliatelaw11's awake: the chapter's example, and a value that is set. Condition: the table of kinds' texts is laid. -/
import Derived.Test.YtnljjnkindjeoaaGreatDoorDeMake
import Derived.Test.YtnljjnkindjeoaaGreatDoorDeApply
import Derived.Test.YtnljjnkindjeoaaGreatDoorDeEx
import Derived.Test.YtnljjnkindjeoaaGreatDoorGrSet
import Derived.Test.YtnljjnkindjeoaaGreatDoorAl
set_option maxRecDepth 100000
set_option maxHeartbeats 4000000
namespace Go.Proofs.YtnljjnkindjeoaaGreatDoor
open Go.RowKit
theorem dawake_any (w:World) (hKt:Kt w):Calls Tryz.prog 4 #[] w fun r w'=>r=.returned (.bool true)∧Below w.heap.size w w':=by
 have HK:=zZ (fun W (hW:Below w.heap.size w W)=>hKt.below hW)
 clear hKt
 go_enter Tryz.func4,Tryz.ntmps4
 go_wp2_with fail
 refine (two_any _).mono ?_
 rintro r w1 ⟨A,c,B,C,rfl,h1,hB1⟩
 have hBa:Below w1.heap.size w1 (w1.alloc (.cells #[.slice A 1 c,.slice B 2 2,.slice C 1 1] 28)):=(zA _ w1).alloc (zW _) _
 have pg:=Blk.new w1 28 [.slice A 1 c,.slice B 2 2,.slice C 1 1]
 have HG:=zZ (gr_below hBa h1)
 have PG:=zZ pg
 have Ha:=zZ (hB1.trans (hBa.mono hB1.size))
 have g0:=pg.cell (j:=0) rfl
 have g1:=pg.cell (j:=1) rfl
 have g2:=pg.cell (j:=2) rfl
 clear hB1 h1 hBa pg
 go_wp2_with fail
 generalize w1.alloc (.cells #[.slice A 1 c,.slice B 2 2,.slice C 1 1] 28)=wa at *
 refine (dmake_any A B C 1 c 2 2 1 1 A B C 1 c 2 2 1 1 twoG twoG _ (HK.out _ Ha.out) HG.out HG.out).mono ?_
 rintro r w2 ⟨B2,d2,C2,e2,rfl,hd2,hB2⟩
 have l2:(makeD twoG twoG).2.2.length=1:=by rw[two_self];rfl
 have i2:(makeD twoG twoG).2.2[0]?=some (0,0,[]):=by rw[two_self];rfl
 obtain⟨bI,oI,AI,cI,hC2,hbI,-,-,x2,-,-,-⟩:=itm_at (rDlt_open hd2).2.2.2 i2
 subst hC2
 rw[l2,two_make]
 simp only[Nat.zero_mul,Nat.add_zero,List.length_nil] at x2
 generalize (makeD twoG twoG).1=u2 at *
 generalize (makeD twoG twoG).2.1.length=r2 at *
 have hBb:Below w2.heap.size w2 (w2.alloc (.cells #[.int .u32 u2,.slice B2 r2 d2,.slice (some ⟨bI,oI,none⟩) 1 e2] 32)):=(zA _ w2).alloc (zW _) _
 have pd:=Blk.new w2 32 [.int .u32 u2,.slice B2 r2 d2,.slice (some ⟨bI,oI,none⟩) 1 e2]
 have K2:=zZ (fun W (hW:Below (w2.alloc (.cells #[.int .u32 u2,.slice B2 r2 d2,.slice (some ⟨bI,oI,none⟩) 1 e2] 32)).heap.size (w2.alloc (.cells #[.int .u32 u2,.slice B2 r2 d2,.slice (some ⟨bI,oI,none⟩) 1 e2] 32)) W)=>And.intro ((pd.to hW).cell (j:=2) rfl) (((hBb.trans (hW.mono hBb.size)).cell (p:=⟨bI,oI+2,none⟩) hbI).trans x2))
 have Hab:=zZ (hB2.trans (hBb.mono hB2.size))
 have g0':=(PG.out.to Hab.out).cell (j:=0) rfl
 have g1':=(PG.out.to Hab.out).cell (j:=1) rfl
 have g2':=(PG.out.to Hab.out).cell (j:=2) rfl
 clear hd2 hB2 l2 i2 hbI x2 hBb pd g0 g1 g2
 go_wp2_with fail
 generalize w2.alloc (.cells #[.int .u32 u2,.slice B2 r2 d2,.slice (some ⟨bI,oI,none⟩) 1 e2] 32)=wb at *
 refine (gset_any A B C 1 c 2 2 1 1 twoG 0 0 ⟨#[]⟩ (9,[],0) _ (gr_below Hab.out HG.out) (tame_may HG.out two_may) rfl (by decide) (by decide)).mono ?_
 rintro r w3 ⟨A3,c3,B3,d3,C3,e3,rfl,h3,hB3⟩
 rw[two_nine,two_set]
 rw[two_nine] at h3
 rw[show nineG.1.length=1 from rfl,show nineG.2.1.length=2 from rfl,show nineG.2.2.length=1 from rfl] at h3 ⊢
 have hBc:Below w3.heap.size w3 (w3.alloc (.cells #[.slice A3 1 c3,.slice B3 2 d3,.slice C3 1 e3] 28)):=(zA _ w3).alloc (zW _) _
 have ph:=Blk.new w3 28 [.slice A3 1 c3,.slice B3 2 d3,.slice C3 1 e3]
 have Hbc:=zZ (hB3.trans (hBc.mono hB3.size))
 have Hac:=zZ (Hab.out.trans (Hbc.out.mono Hab.out.size))
 have H3:=zZ (gr_below hBc h3)
 have g0:=(PG.out.to Hac.out).cell (j:=0) rfl
 have g1:=(PG.out.to Hac.out).cell (j:=1) rfl
 have g2:=(PG.out.to Hac.out).cell (j:=2) rfl
 have k0:=ph.cell (j:=0) rfl
 have k1:=ph.cell (j:=1) rfl
 have k2:=ph.cell (j:=2) rfl
 clear h3 hB3 hBc ph g0' g1' g2'
 go_wp2_with fail
 generalize w3.alloc (.cells #[.slice A3 1 c3,.slice B3 2 d3,.slice C3 1 e3] 28)=wc at *
 refine (dmake_any A B C 1 c 2 2 1 1 A3 B3 C3 1 c3 2 d3 1 e3 twoG nineG _ (HK.out _ (Ha.out.trans (Hac.out.mono Ha.out.size))) (gr_below Hac.out HG.out) H3.out).mono ?_
 rintro r w4 ⟨B4,d4,C4,e4,rfl,hd4,hB4⟩
 have l4:(makeD twoG nineG).2.2.length=1:=by rw[nine_items];rfl
 have i4:(makeD twoG nineG).2.2[0]?=some (0,0,[(0,(9,[],0))]):=by rw[nine_items];rfl
 obtain⟨bJ,oJ,AJ,cJ,hC4,hbJ,-,-,y2,-,-,-⟩:=itm_at (rDlt_open hd4).2.2.2 i4
 subst hC4
 rw[l4] at hd4 ⊢
 rw[nine_make]
 simp only[Nat.zero_mul,Nat.add_zero,List.length_cons,List.length_nil] at y2
 generalize hu4:(makeD twoG nineG).1=u4 at *
 generalize (makeD twoG nineG).2.1.length=r4 at *
 have hBd:Below w4.heap.size w4 (w4.alloc (.cells #[.int .u32 u4,.slice B4 r4 d4,.slice (some ⟨bJ,oJ,none⟩) 1 e4] 32)):=(zA _ w4).alloc (zW _) _
 have pc:=Blk.new w4 32 [.int .u32 u4,.slice B4 r4 d4,.slice (some ⟨bJ,oJ,none⟩) 1 e4]
 have K4:=zZ (fun W (hW:Below (w4.alloc (.cells #[.int .u32 u4,.slice B4 r4 d4,.slice (some ⟨bJ,oJ,none⟩) 1 e4] 32)).heap.size (w4.alloc (.cells #[.int .u32 u4,.slice B4 r4 d4,.slice (some ⟨bJ,oJ,none⟩) 1 e4] 32)) W)=>And.intro ((pc.to hW).cell (j:=0) rfl) (And.intro ((pc.to hW).cell (j:=1) rfl) (And.intro ((pc.to hW).cell (j:=2) rfl) (((hBd.trans (hW.mono hBd.size)).cell (p:=⟨bJ,oJ+2,none⟩) hbJ).trans y2))))
 have HD4:=zZ (dlt_below hBd hd4)
 have Hcd:=zZ (hB4.trans (hBd.mono hB4.size))
 have Had:=zZ (Hac.out.trans (Hcd.out.mono Hac.out.size))
 have g0':=(PG.out.to Had.out).cell (j:=0) rfl
 have g1':=(PG.out.to Had.out).cell (j:=1) rfl
 have g2':=(PG.out.to Had.out).cell (j:=2) rfl
 obtain⟨k40,k41,k42,k43⟩:=K4.out _ (zA _ _)
 have Hu4:=zZ hu4
 clear hd4 hB4 l4 i4 hbJ y2 hBd pc g0 g1 g2 k0 k1 k2 H3 k43 hu4
 go_wp2_with fail
 generalize w4.alloc (.cells #[.int .u32 u4,.slice B4 r4 d4,.slice (some ⟨bJ,oJ,none⟩) 1 e4] 32)=wd at *
 have TA:=zZ (dapply_any A B C 1 c 2 2 1 1 twoG B4 (some ⟨bJ,oJ,none⟩) r4 d4 1 e4 (makeD twoG nineG) _ (HK.out _ (Ha.out.trans (Had.out.mono Ha.out.size))) (gr_below Had.out HG.out) (by have:=HD4.out;rwa [← Hu4.out] at this) (by omega))
 rw[nine_apply,Hu4.out,show nineC.1.length=1 from rfl,show nineC.2.1.length=1 from rfl,show nineC.2.2.length=1 from rfl] at TA
 refine TA.out.mono ?_
 rintro r w5 ⟨A5,c5,B5,d5,C5,e5,rfl,h5,hB5⟩
 obtain⟨bo,offo,F5,fc5,rfl,hbo,-,-,o2,hov,-,-⟩:=ob_at (rGr_open h5).2.1 (show nineC.2.1[0]?=some (0,0,[(9,[],0),(0,[],-1)]) from rfl)
 obtain⟨bv,offv,sv,rfl,hbv,v0,-,-,-,-,-,-⟩:=val_at hov (show ([(9,[],0),(0,[],-1)]:List Vl)[0]?=some (9,[],0) from rfl)
 simp only[Nat.zero_mul,Nat.add_zero,List.length_cons,List.length_nil] at o2 v0
 have hBe:Below w5.heap.size w5 (w5.alloc (.cells #[.slice A5 1 c5,.slice (some ⟨bo,offo,none⟩) 1 d5,.slice C5 1 e5] 28)):=(zA _ w5).alloc (zW _) _
 have pk:=Blk.new w5 28 [.slice A5 1 c5,.slice (some ⟨bo,offo,none⟩) 1 d5,.slice C5 1 e5]
 have Hde:=zZ (hB5.trans (hBe.mono hB5.size))
 have q1:=pk.cell (j:=1) rfl
 have q2:=(hBe.cell (p:=⟨bo,offo+2,none⟩) hbo).trans o2
 have q3:=(hBe.cell (p:=⟨bv,offv,none⟩) hbv).trans v0
 obtain⟨k40',k41',k42',k43'⟩:=K4.out _ Hde.out
 obtain⟨x1',x2'⟩:=K2.out _ (Hbc.out.trans ((Hcd.out.trans (Hde.out.mono Hcd.out.size)).mono Hbc.out.size))
 have TS:=zZ (dsame_any B4 B4 (some ⟨bJ,oJ,none⟩) (some ⟨bJ,oJ,none⟩) r4 d4 r4 d4 1 e4 1 e4 (makeD twoG nineG) (makeD twoG nineG) _ (by have:=dlt_below Hde.out HD4.out;rwa [← Hu4.out] at this) (by have:=dlt_below Hde.out HD4.out;rwa [← Hu4.out] at this))
 rw[same_self,Hu4.out] at TS
 have HZ:=zZ (Ha.out.trans ((Had.out.trans (Hde.out.mono Had.out.size)).mono Ha.out.size))
 clear TA h5 hB5 hbo o2 hov hbv v0 hBe pk g0' g1' g2' k40 k41 k42
 go_wp2_with fail
 refine TS.out.mono ?_
 rintro r w6 ⟨rfl,hB6⟩
 go_wp2
 go_ret
 exact⟨rfl,HZ.out.trans (hB6.mono HZ.out.size)⟩
end Go.Proofs.YtnljjnkindjeoaaGreatDoor
