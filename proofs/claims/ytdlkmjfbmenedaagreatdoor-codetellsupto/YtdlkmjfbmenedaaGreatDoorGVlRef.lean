/- The texts VlRefPut, VlRefGet in one (as far as the seat has what they speak of); what each proves, and its conditions, stands before it. -/
import Derived.Test.YtdlkmjfbmenedaaGreatDoorGBytes
import Derived.Test.YtdlkmjfbmenedaaGreatDoorGRef
import Derived.Test.YtdlkmjfbmenedaaGreatDoorGValue
import Derived.Test.YtdlkmjfbmenedaaGreatDoorGFlRef
import Derived.Test.YtdlkmjfbmenedaaGreatDoorAl
set_option maxRecDepth 100000
set_option maxHeartbeats 4000000
namespace Go.Proofs.YtdlkmjfbmenedaaGreatDoor
open Go.RowKit
theorem byt_take_succ (s:ByteArray) (i:Nat) (h:i<s.size):(byt s).take (i+1)=(byt s).take i++[s[i].toNat]:=by
 have hl:i<(byt s).length:=by rw[byt_length];exact h
 rw[List.take_succ_eq_append_getElem hl]
 congr 2
 simp only[byt,List.getElem_map,Array.getElem_toList]
 rfl
theorem rvlput_any (a b s:ByteArray) (k n r:Int) (w:World) (h0:-9223372036854775808≤n) (h1:n≤9223372036854775807):
  Calls Tryz.prog 49 #[.agg #[.string a,.int .i64 k,.string b],.agg #[.int .i64 n,.string s,.int .i64 r]] w fun e w'=>
   ∃ v,e=.returned (.tuple #[v,.bool (fitsV k (n,byt s,r))])∧w'.ownsRow w.heap.size 5 1 v (putVF k (n,byt s,r)).length (u8s (putVF k (n,byt s,r)))∧Below w.heap.size w w':=by
 have T1:=zZ (fun W=>rvlfits_any a b s k n r W)
 have A0:=zZ (VlArgs.start w a b s k n r)
 cases hf:fitsV k (n,byt s,r)
 ·rw[hf] at T1
  rw[putVF_no hf]
  clear hf
  go_enter Tryz.func49,Tryz.ntmps49
  go_wp2_with fail
  refine (T1.out _).mono ?_
  rintro e w1 ⟨rfl,hC1⟩
  have A1:=A0.out.below hC1
  go_wp2
  go_ret2
  exact⟨_,rfl,World.ownsRow_nil _ _ _ _,A1.bel⟩
 ·rw[hf] at T1
  rw[putVF_yes hf]
  by_cases h4:k=4
  ·subst h4
   rw[vl_fits_4] at hf
   obtain⟨hl,-,-⟩:=of_decide_eq_true hf
   rw[vl_put_4]
   simp only[byt_length] at hl ⊢
   have hw:IntKind.u64.wrap (s.size:Int)=(s.size:Int):=by simp[IntKind.wrap,IntKind.bits,IntKind.signed];omega
   have hpl:=putL_len10 s.size (by omega)
   have T3:=zZ (fun W=>vrput_any s.size W (by omega))
   obtain⟨i0,hi,hz0,hz1,hz2⟩:=info_parts info_u8
   clear hf
   generalize hP:vputL s.size=P at *
   clear hP
   go_enter Tryz.func49,Tryz.ntmps49
   go_wp2_with fail
   refine (T1.out _).mono ?_
   rintro e w1 ⟨rfl,hC1⟩
   have A1:=A0.out.below hC1
   obtain⟨⟨c0,c1,c2⟩,d0,d1,d2⟩:=A1.cells
   go_wp2_with fail
   refine (T3.out _).mono ?_
   rintro e w3 ⟨v3,rfl,hown3,hC3⟩
   have A3:=A1.below hC3
   clear c0 c1 c2 d0 d1 d2
   go_wp2_with fail
   go_loopw [7,8] (fun v iv wr=>∃ (i:Nat) (pre:List Nat),i≤s.size∧iv=.int .i64 (i:Int)∧pre=P++(byt s).take i∧wr.ownsRow w1.heap.size 5 1 v pre.length (u8s pre)∧Below w1.heap.size w1 wr) (fun _ iv _=>s.size - (intOf iv).toNat)
   case atStart=>exact⟨0,P,by omega,rfl,by simp,hown3,hC3⟩
   case round=>
    obtain⟨i,pre,hi1,rfl,hpre,hown,hBr⟩:=hrel
    have Ar:=A1.below hBr
    have hsz:=hBr.size
    have hprel:pre.length≤22:=by rw[hpre,List.length_append,List.length_take,byt_length];omega
    obtain⟨⟨c0,c1,c2⟩,d0,d1,d2⟩:=Ar.cells
    have Hpre:=zZ hpre
    clear hpre
    by_cases hin:i<s.size
    ·have hd:decide ((i:Int)<(s.size:Int))=true:=zJ (by omega)
     have Hnext:=zZ (byt_take_succ s i hin)
     go_wp2_with (at_builtin;refine wpList_append_own _ rfl _ _ 29 rfl w1.heap.size 5 i0 (.int .u8 0) 1 1 Tryz.underlying29 hi hz0 hz1 hz2 rfl (by decide) _ _ _ rfl (hown.alloc _) ⟨wr.heap.size,0,none⟩ 1 1 [.int .u8 (((s[i]'hin).toNat:Nat):Int)] rfl rfl (cell_one_new _ _ _) (by simp[Value.oneCell']) (by simp only[maxLen];omega) (by omega) (by simp;omega) ?_;intro v' w4 hown' hgrow _)
     have R:=own_step hBr hown hsz hown' hgrow
     refine⟨⟨i+1,pre++[(s[i]'hin).toNat],by omega,by go_num,by rw[Hpre.out,Hnext.out,List.append_assoc],R.1,R.2⟩,?_⟩
     simp[intOf];omega
    ·have hd:decide ((i:Int)<(s.size:Int))=false:=zK (by omega)
     go_wp2
     go_ret2
     have he:pre=P++byt s:=by rw[Hpre.out,List.take_of_length_le (by rw[byt_length];omega)]
     rw[he] at hown
     exact⟨_,rfl,own_mono hown A1.bel.size,Ar.bel⟩
  ·by_cases h5:k=5
   ·subst h5
    rw[vl_fits_5] at hf
    obtain⟨hr0,hr1,-,-⟩:=of_decide_eq_true hf
    simp only at hr0 hr1
    obtain⟨u,hu⟩:∃ u:Nat,r+1=(u:Int):=⟨(r+1).toNat,by omega⟩
    rw[vl_put_5]
    simp only
    have hwr:IntKind.i64.wrap (r+1)=(u:Int):=by rw[← hu];simp[IntKind.wrap,IntKind.bits,IntKind.signed];omega
    have hwu:IntKind.u64.wrap (u:Int)=(u:Int):=by simp[IntKind.wrap,IntKind.bits,IntKind.signed];omega
    have hut:(r+1).toNat=u:=by omega
    rw[hut]
    have T3:=zZ (fun W=>vrput_any u W (by omega))
    clear hf
    go_enter Tryz.func49,Tryz.ntmps49
    go_wp2_with fail
    refine (T1.out _).mono ?_
    rintro e w1 ⟨rfl,hC1⟩
    have A1:=A0.out.below hC1
    obtain⟨⟨c0,c1,c2⟩,d0,d1,d2⟩:=A1.cells
    go_wp2_with fail
    refine (T3.out _).mono ?_
    rintro e w3 ⟨v3,rfl,hown3,hC3⟩
    have A3:=A1.below hC3
    go_wp2
    go_ret2
    exact⟨_,rfl,own_mono hown3 A1.bel.size,A3.bel⟩
   ·have e4:(k == 4)=false:=beq_false_of_ne h4
    have e5:(k == 5)=false:=beq_false_of_ne h5
    obtain⟨u,hu,hlt⟩:=vl_zig_nat h0 h1
    rw[vl_put_num h4 h5]
    simp only
    rw[hu,Int.toNat_natCast]
    have T3:=zZ (fun W=>rzig_any n W h0 h1)
    rw[hu] at T3
    have T4:=zZ (fun W=>vrput_any u W hlt)
    clear hf
    go_enter Tryz.func49,Tryz.ntmps49
    go_wp2_with fail
    refine (T1.out _).mono ?_
    rintro e w1 ⟨rfl,hC1⟩
    have A1:=A0.out.below hC1
    obtain⟨⟨c0,c1,c2⟩,d0,d1,d2⟩:=A1.cells
    go_wp2_with fail
    refine (T3.out _).mono ?_
    rintro e w3 ⟨rfl,rfl⟩
    go_wp2_with fail
    refine (T4.out _).mono ?_
    rintro e w4 ⟨v4,rfl,hown4,hC4⟩
    have A4:=A1.below hC4
    go_wp2
    go_ret2
    exact⟨_,rfl,own_mono hown4 A1.bel.size,A4.bel⟩
theorem rvlget_len (A:Option Addr) (c n:Nat) (bs:List Nat) (w:World) (hn:bs.length=n) (hl:n≤c) (hb:∀ x∈bs,x<256) (hr:Rd w A (u8s bs)) (hlen:n≤140737488355328):
  Calls Tryz.prog 58 #[.slice A n c] w fun e w'=>e=.returned (.tuple #[.int .u64 ((getL bs).1:Int),.int .i64 ((getL bs).2:Int)])∧Below w.heap.size w w':=by
 subst hn
 exact vrget_any A c bs w hl hb hr hlen
theorem rvlget_any (a b:ByteArray) (k:Int) (A:Option Addr) (N c:Nat) (bs:List Nat) (w:World) (hN:bs.length=N) (hNc:N≤c) (hb:∀ x∈bs,x<256) (hr:Rd w A (u8s bs)) (hlen:N≤140737488355328):
  Calls Tryz.prog 91 #[.agg #[.string a,.int .i64 k,.string b],.slice A N c] w fun e w'=>∃ s:ByteArray,byt s=(gotV k bs).2.1 ∧
   e=.returned (.tuple #[.agg #[.int .i64 (gotV k bs).1,.string s,.int .i64 (gotV k bs).2.2],.int .i64 (gotM k bs:Int),.bool (gotB k bs)])∧Below w.heap.size w w':=by
 obtain⟨g1,g2,g3⟩:=getL_le bs hb
 have T1:=zZ (fun W (h:Rd W A (u8s bs))=>rvlget_len A c N bs W hN hNc hb h hlen)
 have T4:=zZ (fun W=>rzag_any ((getL bs).1:Int) W (by omega) (by omega))
 have hstart:Below w.heap.size w ((w.alloc (.cells #[.string a,.int .i64 k,.string b] 81)).alloc (.cells #[.int .i64 0,.string ⟨#[]⟩,.int .i64 0] 47)):=((zA _ w).alloc (zW _) _).alloc (by simp) _
 have A0:=zZ (VlArgs.start w a b ⟨#[]⟩ k 0 0)
 by_cases h0:(getL bs).2=0
 ·have hg:=vl_get_none (k:=k) h0
  obtain⟨e1,e2,e3⟩:=vl_got_none hg
  rw[e1,e2,e3]
  clear hg e1 e2 e3
  rw[h0] at T1
  generalize (getL bs).1=g0 at *
  clear g1 g2 g3 h0
  go_enter Tryz.func91,Tryz.ntmps91
  go_wp2_with fail
  refine (T1.out _ (hr.below hstart)).mono ?_
  rintro e w1 ⟨rfl,hC1⟩
  have A1:=A0.out.below hC1
  obtain⟨⟨c0,c1,c2⟩,d0,d1,d2⟩:=A1.cells
  obtain⟨f0,f1,f2⟩:=A1.froz
  go_wp2
  refine ret_cell2 (d:=.struct _) rfl (A1.put _ _ _).val rfl rfl rfl rfl rfl ?_
  exact⟨⟨#[]⟩,rfl,rfl,(A1.put _ _ _).bel⟩
 ·have dm:(((getL bs).2:Int) == 0)=false:=beq_false_of_ne (by omega)
  rcases (by omega:k=4∨k=5∨(k≠4∧k≠5)) with rfl | rfl | ⟨h4,h5⟩
  ·have hg:=vl_get_4 h0
   by_cases hn:(getL bs).1≤12
   ·have dn:decide ((12:Int)<((getL bs).1:Int))=false:=zK (by omega)
    have hw1:IntKind.i64.wrap ((getL bs).1:Int)=((getL bs).1:Int):=IntWalk.i64_in _ (by omega)
    have hw2:IntKind.i64.wrap (((getL bs).2:Int)+((getL bs).1:Int))=((getL bs).2:Int)+((getL bs).1:Int):=IntWalk.i64_in _ (by omega)
    by_cases hfit:(getL bs).2+(getL bs).1≤N
    ·have df:decide ((N:Int)<((getL bs).2:Int)+((getL bs).1:Int))=false:=zK (by omega)
     rw[if_pos ⟨hn,by omega⟩] at hg
     have hfits:=(vl_get_back hb hg).1
     have hbt:=byt_strB (l:=(bs.drop (getL bs).2).take (getL bs).1) (fun x hx=>hb x (List.mem_of_mem_drop (List.mem_of_mem_take hx)))
     have T5:=zZ (fun W=>rvlfits_any a b (strB ((bs.drop (getL bs).2).take (getL bs).1)) 4 0 0 W)
     rw[hbt,hfits] at T5
     obtain⟨e1,e2,e3⟩:=vl_got_some hg
     rw[e1,e2,e3]
     simp only
     clear hg e1 e2 e3
     obtain⟨i0,hi,-,hz1,-⟩:=info_parts info_u8
     have hcut:=run_cut (P:=Tryz.prog) Tryz.underlying29 hi hz1 A N c (getL bs).2 ((getL bs).2+(getL bs).1) (by omega) (by omega)
     rw[Nat.add_sub_cancel_left,show ((((getL bs).2+(getL bs).1:Nat):Int))=((getL bs).2:Int)+((getL bs).1:Int) by omega] at hcut
     have hlk:((bs.drop (getL bs).2).take (getL bs).1).length=(getL bs).1:=by rw[List.length_take,List.length_drop];omega
     have hcs:∀ W:World,Rd W A (u8s bs)→(convert 29 9 (.slice (slA A c (getL bs).2) (getL bs).1 (c - (getL bs).2))).run Tryz.prog W=.ok (.string (strB ((bs.drop (getL bs).2).take (getL bs).1))) W:=fun W h=>
      conv_str (P:=Tryz.prog) W 29 5 9 Tryz.underlying29 Tryz.underlying5 Tryz.underlying9 _ _ _ _ hlk (by rw[← u8s_take,← u8s_drop];exact (Rd.cut h (by rw[u8s_length];omega) _).take _)
     have Hbt:=zZ hbt
     clear hbt hlk hfits
     generalize strB ((bs.drop (getL bs).2).take (getL bs).1)=t at *
     generalize (bs.drop (getL bs).2).take (getL bs).1=tl at *
     generalize zagV ((getL bs).1:Int)=z at *
     generalize (getL bs).1=g0 at *
     generalize (getL bs).2=gm at *
     generalize slA A c gm=A' at *
     go_enter Tryz.func91,Tryz.ntmps91
     go_wp2_with fail
     refine (T1.out _ (hr.below hstart)).mono ?_
     rintro e w1 ⟨rfl,hC1⟩
     have A1:=A0.out.below hC1
     go_wp2_with fail
     refine (T4.out _).mono ?_
     rintro e w2 ⟨rfl,rfl⟩
     have A2:=A1.alloc (.cells #[.int .i64 z,.string ⟨#[]⟩,.int .i64 0] 47)
     have hcs2:=hcs _ (hr.below A2.bel)
     have v2:=Blk.new w1 47 [.int .i64 z,.string ⟨#[]⟩,.int .i64 0]
     obtain⟨⟨c0,c1,c2⟩,d0,d1,d2⟩:=A2.cells
     obtain⟨f0,f1,f2⟩:=A2.froz
     have B2:=A1.alloc (.cells #[.int .i64 0,.string t,.int .i64 0] 47)
     obtain⟨⟨p0,p1,p2⟩,q0,q1,q2⟩:=B2.cells
     go_wp2_with fail
     refine (T5.out _).mono ?_
     rintro e w3 ⟨rfl,hC3⟩
     have A3:=B2.below hC3
     have v3:=(Blk.new w1 47 [.int .i64 0,.string t,.int .i64 0]).below (by simp) hC3
     have y0:=v3.cell (j:=0) rfl
     have y1:=v3.cell (j:=1) rfl
     have y2:=v3.cell (j:=2) rfl
     clear c0 c1 c2 d0 d1 d2 f0 f1 f2 p0 p1 p2 q0 q1 q2
     obtain⟨⟨c0,c1,c2⟩,d0,d1,d2⟩:=A3.cells
     obtain⟨f0,f1,f2⟩:=A3.froz
     go_wp2
     refine ret_cell2 (d:=.struct _) rfl (A3.put _ _ _).val rfl rfl rfl rfl rfl ?_
     exact⟨t,Hbt.out,rfl,(A3.put _ _ _).bel⟩
    ·have df:decide ((N:Int)<((getL bs).2:Int)+((getL bs).1:Int))=true:=zJ (by omega)
     rw[if_neg (by omega)] at hg
     obtain⟨e1,e2,e3⟩:=vl_got_none hg
     rw[e1,e2,e3]
     clear hg e1 e2 e3
     generalize zagV ((getL bs).1:Int)=z at *
     generalize (getL bs).1=g0 at *
     generalize (getL bs).2=gm at *
     go_enter Tryz.func91,Tryz.ntmps91
     go_wp2_with fail
     refine (T1.out _ (hr.below hstart)).mono ?_
     rintro e w1 ⟨rfl,hC1⟩
     have A1:=A0.out.below hC1
     go_wp2_with fail
     refine (T4.out _).mono ?_
     rintro e w2 ⟨rfl,rfl⟩
     have A2:=A1.alloc (.cells #[.int .i64 z,.string ⟨#[]⟩,.int .i64 0] 47)
     obtain⟨⟨c0,c1,c2⟩,d0,d1,d2⟩:=A2.cells
     obtain⟨f0,f1,f2⟩:=A2.froz
     go_wp2
     refine ret_cell2 (d:=.struct _) rfl (A2.put _ _ _).val rfl rfl rfl rfl rfl ?_
     exact⟨⟨#[]⟩,rfl,rfl,(A2.put _ _ _).bel⟩
   ·have dn:decide ((12:Int)<((getL bs).1:Int))=true:=zJ (by omega)
    rw[if_neg (by omega)] at hg
    obtain⟨e1,e2,e3⟩:=vl_got_none hg
    rw[e1,e2,e3]
    clear hg e1 e2 e3
    generalize zagV ((getL bs).1:Int)=z at *
    generalize (getL bs).1=g0 at *
    generalize (getL bs).2=gm at *
    go_enter Tryz.func91,Tryz.ntmps91
    go_wp2_with fail
    refine (T1.out _ (hr.below hstart)).mono ?_
    rintro e w1 ⟨rfl,hC1⟩
    have A1:=A0.out.below hC1
    go_wp2_with fail
    refine (T4.out _).mono ?_
    rintro e w2 ⟨rfl,rfl⟩
    have A2:=A1.alloc (.cells #[.int .i64 z,.string ⟨#[]⟩,.int .i64 0] 47)
    obtain⟨⟨c0,c1,c2⟩,d0,d1,d2⟩:=A2.cells
    obtain⟨f0,f1,f2⟩:=A2.froz
    go_wp2
    refine ret_cell2 (d:=.struct _) rfl (A2.put _ _ _).val rfl rfl rfl rfl rfl ?_
    exact⟨⟨#[]⟩,rfl,rfl,(A2.put _ _ _).bel⟩
  ·have hg:=vl_get_5 h0
   by_cases hn:(getL bs).1≤1073741825
   ·have dn:decide ((1073741825:Int)<((getL bs).1:Int))=false:=zK (by omega)
    have hw1:IntKind.i64.wrap ((getL bs).1:Int)=((getL bs).1:Int):=IntWalk.i64_in _ (by omega)
    have hw2:IntKind.i64.wrap (((getL bs).1:Int) - 1)=((getL bs).1:Int) - 1:=IntWalk.i64_in _ (by omega)
    rw[if_pos hn] at hg
    have hfits:=(vl_get_back hb hg).1
    have T5:=zZ (fun W=>rvlfits_any a b ⟨#[]⟩ 5 0 (((getL bs).1:Int) - 1) W)
    rw[byt_nil,hfits] at T5
    obtain⟨e1,e2,e3⟩:=vl_got_some hg
    rw[e1,e2,e3]
    simp only
    clear hg e1 e2 e3
    clear hfits
    generalize zagV ((getL bs).1:Int)=z at *
    generalize (getL bs).1=g0 at *
    generalize (getL bs).2=gm at *
    go_enter Tryz.func91,Tryz.ntmps91
    go_wp2_with fail
    refine (T1.out _ (hr.below hstart)).mono ?_
    rintro e w1 ⟨rfl,hC1⟩
    have A1:=A0.out.below hC1
    go_wp2_with fail
    refine (T4.out _).mono ?_
    rintro e w2 ⟨rfl,rfl⟩
    have A2:=A1.alloc (.cells #[.int .i64 z,.string ⟨#[]⟩,.int .i64 0] 47)
    have v2:=Blk.new w1 47 [.int .i64 z,.string ⟨#[]⟩,.int .i64 0]
    obtain⟨⟨c0,c1,c2⟩,d0,d1,d2⟩:=A2.cells
    obtain⟨f0,f1,f2⟩:=A2.froz
    have B2:=A1.alloc (.cells #[.int .i64 0,.string ⟨#[]⟩,.int .i64 ((g0:Int) - 1)] 47)
    obtain⟨⟨p0,p1,p2⟩,q0,q1,q2⟩:=B2.cells
    go_wp2_with fail
    refine (T5.out _).mono ?_
    rintro e w3 ⟨rfl,hC3⟩
    have A3:=B2.below hC3
    have v3:=(Blk.new w1 47 [.int .i64 0,.string ⟨#[]⟩,.int .i64 ((g0:Int) - 1)]).below (by simp) hC3
    have y0:=v3.cell (j:=0) rfl
    have y1:=v3.cell (j:=1) rfl
    have y2:=v3.cell (j:=2) rfl
    clear c0 c1 c2 d0 d1 d2 f0 f1 f2 p0 p1 p2 q0 q1 q2
    obtain⟨⟨c0,c1,c2⟩,d0,d1,d2⟩:=A3.cells
    obtain⟨f0,f1,f2⟩:=A3.froz
    go_wp2
    refine ret_cell2 (d:=.struct _) rfl (A3.put _ _ _).val rfl rfl rfl rfl rfl ?_
    exact⟨⟨#[]⟩,rfl,rfl,(A3.put _ _ _).bel⟩
   ·have dn:decide ((1073741825:Int)<((getL bs).1:Int))=true:=zJ (by omega)
    rw[if_neg hn] at hg
    obtain⟨e1,e2,e3⟩:=vl_got_none hg
    rw[e1,e2,e3]
    clear hg e1 e2 e3
    generalize zagV ((getL bs).1:Int)=z at *
    generalize (getL bs).1=g0 at *
    generalize (getL bs).2=gm at *
    go_enter Tryz.func91,Tryz.ntmps91
    go_wp2_with fail
    refine (T1.out _ (hr.below hstart)).mono ?_
    rintro e w1 ⟨rfl,hC1⟩
    have A1:=A0.out.below hC1
    go_wp2_with fail
    refine (T4.out _).mono ?_
    rintro e w2 ⟨rfl,rfl⟩
    have A2:=A1.alloc (.cells #[.int .i64 z,.string ⟨#[]⟩,.int .i64 0] 47)
    obtain⟨⟨c0,c1,c2⟩,d0,d1,d2⟩:=A2.cells
    obtain⟨f0,f1,f2⟩:=A2.froz
    go_wp2
    refine ret_cell2 (d:=.struct _) rfl (A2.put _ _ _).val rfl rfl rfl rfl rfl ?_
    exact⟨⟨#[]⟩,rfl,rfl,(A2.put _ _ _).bel⟩
  ·have e4:(k == 4)=false:=beq_false_of_ne h4
   have e5:(k == 5)=false:=beq_false_of_ne h5
   have hg:=vl_get_num h4 h5 h0
   have T5:=zZ (fun W=>rvlfits_any a b ⟨#[]⟩ k (zagV ((getL bs).1:Int)) 0 W)
   rw[byt_nil] at T5
   cases hf:fitsV k (zagV ((getL bs).1:Int),[],0)
   ·rw[hf] at T5 hg
    rw[if_neg (by decide)] at hg
    obtain⟨e1,e2,e3⟩:=vl_got_none hg
    rw[e1,e2,e3]
    clear hg e1 e2 e3
    clear hf
    generalize zagV ((getL bs).1:Int)=z at *
    generalize (getL bs).1=g0 at *
    generalize (getL bs).2=gm at *
    go_enter Tryz.func91,Tryz.ntmps91
    go_wp2_with fail
    refine (T1.out _ (hr.below hstart)).mono ?_
    rintro e w1 ⟨rfl,hC1⟩
    have A1:=A0.out.below hC1
    go_wp2_with fail
    refine (T4.out _).mono ?_
    rintro e w2 ⟨rfl,rfl⟩
    have A2:=A1.alloc (.cells #[.int .i64 z,.string ⟨#[]⟩,.int .i64 0] 47)
    obtain⟨⟨c0,c1,c2⟩,d0,d1,d2⟩:=A2.cells
    obtain⟨f0,f1,f2⟩:=A2.froz
    go_wp2_with fail
    refine (T5.out _).mono ?_
    rintro e w3 ⟨rfl,hC3⟩
    have A3:=A2.below hC3
    clear c0 c1 c2 d0 d1 d2 f0 f1 f2
    obtain⟨⟨c0,c1,c2⟩,d0,d1,d2⟩:=A3.cells
    obtain⟨f0,f1,f2⟩:=A3.froz
    go_wp2
    refine ret_cell2 (d:=.struct _) rfl (A3.put _ _ _).val rfl rfl rfl rfl rfl ?_
    exact⟨⟨#[]⟩,rfl,rfl,(A3.put _ _ _).bel⟩
   ·rw[hf] at T5 hg
    rw[if_pos rfl] at hg
    obtain⟨e1,e2,e3⟩:=vl_got_some hg
    rw[e1,e2,e3]
    simp only
    clear hg e1 e2 e3
    clear hf
    generalize zagV ((getL bs).1:Int)=z at *
    generalize (getL bs).1=g0 at *
    generalize (getL bs).2=gm at *
    go_enter Tryz.func91,Tryz.ntmps91
    go_wp2_with fail
    refine (T1.out _ (hr.below hstart)).mono ?_
    rintro e w1 ⟨rfl,hC1⟩
    have A1:=A0.out.below hC1
    go_wp2_with fail
    refine (T4.out _).mono ?_
    rintro e w2 ⟨rfl,rfl⟩
    have A2:=A1.alloc (.cells #[.int .i64 z,.string ⟨#[]⟩,.int .i64 0] 47)
    have v2:=Blk.new w1 47 [.int .i64 z,.string ⟨#[]⟩,.int .i64 0]
    obtain⟨⟨c0,c1,c2⟩,d0,d1,d2⟩:=A2.cells
    obtain⟨f0,f1,f2⟩:=A2.froz
    go_wp2_with fail
    refine (T5.out _).mono ?_
    rintro e w3 ⟨rfl,hC3⟩
    have A3:=A2.below hC3
    have v3:=v2.below v2.lt hC3
    have y0:=v3.cell (j:=0) rfl
    have y1:=v3.cell (j:=1) rfl
    have y2:=v3.cell (j:=2) rfl
    clear c0 c1 c2 d0 d1 d2 f0 f1 f2
    obtain⟨⟨c0,c1,c2⟩,d0,d1,d2⟩:=A3.cells
    obtain⟨f0,f1,f2⟩:=A3.froz
    go_wp2
    refine ret_cell2 (d:=.struct _) rfl (A3.put _ _ _).val rfl rfl rfl rfl rfl ?_
    exact⟨⟨#[]⟩,rfl,rfl,(A3.put _ _ _).bel⟩
end Go.Proofs.YtdlkmjfbmenedaaGreatDoor
