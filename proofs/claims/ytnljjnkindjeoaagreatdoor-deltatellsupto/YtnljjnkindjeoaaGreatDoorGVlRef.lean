/- The texts VlRefPut, VlRefGet in one (as far as the seat has what they speak of); what each proves, and its conditions, stands before it. -/
import Derived.Test.YtnljjnkindjeoaaGreatDoorGBytes
import Derived.Test.YtnljjnkindjeoaaGreatDoorGRef
import Derived.Test.YtnljjnkindjeoaaGreatDoorGValue
import Derived.Test.YtnljjnkindjeoaaGreatDoorGFlRef
import Derived.Test.YtnljjnkindjeoaaGreatDoorAl
set_option maxRecDepth 100000
set_option maxHeartbeats 2000000
namespace Go.Proofs.YtnljjnkindjeoaaGreatDoor
open Go.RowKit
theorem byt_take_succ (s:ByteArray) (i:Nat) (h:i<s.size):(byt s).take (i+1)=(byt s).take i++[s[i].toNat]:=by
 have hl:i<(byt s).length:=by rw[byt_length];exact h
 rw[List.take_succ_eq_append_getElem hl]
 congr 2
 simp only[byt,List.getElem_map,Array.getElem_toList]
 rfl
theorem rvlput_any (a b s:ByteArray) (k n r:Int) (w:World) (h0:-9223372036854775808≤n) (h1:n≤9223372036854775807):
  Calls Tryz.prog 111 #[.agg #[.string a,.int .i64 k,.string b],.agg #[.int .i64 n,.string s,.int .i64 r]] w fun e w'=>
   ∃ v,e=.returned (.tuple #[v,.bool (fitsV k (n,byt s,r))])∧w'.ownsRow w.heap.size 5 1 v (putVF k (n,byt s,r)).length (u8s (putVF k (n,byt s,r)))∧Below w.heap.size w w':=by
 have T1:=zZ (fun W=>rvlfits_any a b s k n r W)
 have A0:=zZ (VlArgs.start w a b s k n r)
 cases hf:fitsV k (n,byt s,r)
 ·rw[hf] at T1
  rw[putVF_no hf]
  clear hf
  go_enter Tryz.func111,Tryz.ntmps111
  go_wp2_with fail
  refine (T1.out _).mono ?_
  rintro e w1 ⟨rfl,hC1⟩
  have A1:=A0.out.below hC1
  go_wp2
  go_ret2
  exact⟨_,rfl,World.ownsRow_nil _ _ _ _,A1.bel⟩
 ·rw[hf] at T1
  rw[putVF_yes hf]
  by_cases h4:k=4
  ·subst h4
   rw[vl_fits_4] at hf
   obtain⟨hl,-,-⟩:=of_decide_eq_true hf
   rw[vl_put_4]
   simp only[byt_length] at hl ⊢
   have hw:IntKind.u64.wrap (s.size:Int)=(s.size:Int):=by simp[IntKind.wrap,IntKind.bits,IntKind.signed];omega
   have hpl:=putL_len10 s.size (by omega)
   have T3:=zZ (fun W=>vrput_any s.size W (by omega))
   obtain⟨i0,hi,hz0,hz1,hz2⟩:=info_parts info_u8
   clear hf
   generalize hP:vputL s.size=P at *
   clear hP
   go_enter Tryz.func111,Tryz.ntmps111
   go_wp2_with fail
   refine (T1.out _).mono ?_
   rintro e w1 ⟨rfl,hC1⟩
   have A1:=A0.out.below hC1
   obtain⟨⟨c0,c1,c2⟩,d0,d1,d2⟩:=A1.cells
   go_wp2_with fail
   refine (T3.out _).mono ?_
   rintro e w3 ⟨v3,rfl,hown3,hC3⟩
   have A3:=A1.below hC3
   clear c0 c1 c2 d0 d1 d2
   go_wp2_with fail
   go_loopw [7,8] (fun v iv wr=>∃ (i:Nat) (pre:List Nat),i≤s.size∧iv=.int .i64 (i:Int)∧pre=P++(byt s).take i∧wr.ownsRow w1.heap.size 5 1 v pre.length (u8s pre)∧Below w1.heap.size w1 wr) (fun _ iv _=>s.size - (intOf iv).toNat)
   case atStart=>exact⟨0,P,by omega,rfl,by simp,hown3,hC3⟩
   case round=>
    obtain⟨i,pre,hi1,rfl,hpre,hown,hBr⟩:=hrel
    have Ar:=A1.below hBr
    have hsz:=hBr.size
    have hprel:pre.length≤22:=by rw[hpre,List.length_append,List.length_take,byt_length];omega
    obtain⟨⟨c0,c1,c2⟩,d0,d1,d2⟩:=Ar.cells
    have Hpre:=zZ hpre
    clear hpre
    by_cases hin:i<s.size
    ·have hd:decide ((i:Int)<(s.size:Int))=true:=zJ (by omega)
     have Hnext:=zZ (byt_take_succ s i hin)
     go_wp2_with (at_builtin;refine wpList_append_own _ rfl _ _ 98 rfl w1.heap.size 5 i0 (.int .u8 0) 1 1 Tryz.underlying98 hi hz0 hz1 hz2 rfl (by decide) _ _ _ rfl (hown.alloc _) ⟨wr.heap.size,0,none⟩ 1 1 [.int .u8 (((s[i]'hin).toNat:Nat):Int)] rfl rfl (cell_one_new _ _ _) (by simp[Value.oneCell']) (by simp only[maxLen];omega) (by omega) (by simp;omega) ?_;intro v' w4 hown' hgrow _)
     have R:=own_step hBr hown hsz hown' hgrow
     refine⟨⟨i+1,pre++[(s[i]'hin).toNat],by omega,by go_num,by rw[Hpre.out,Hnext.out,List.append_assoc],R.1,R.2⟩,?_⟩
     simp[intOf];omega
    ·have hd:decide ((i:Int)<(s.size:Int))=false:=zK (by omega)
     go_wp2
     go_ret2
     have he:pre=P++byt s:=by rw[Hpre.out,List.take_of_length_le (by rw[byt_length];omega)]
     rw[he] at hown
     exact⟨_,rfl,own_mono hown A1.bel.size,Ar.bel⟩
  ·by_cases h5:k=5
   ·subst h5
    rw[vl_fits_5] at hf
    obtain⟨hr0,hr1,-,-⟩:=of_decide_eq_true hf
    simp only at hr0 hr1
    obtain⟨u,hu⟩:∃ u:Nat,r+1=(u:Int):=⟨(r+1).toNat,by omega⟩
    rw[vl_put_5]
    simp only
    have hwr:IntKind.i64.wrap (r+1)=(u:Int):=by rw[← hu];simp[IntKind.wrap,IntKind.bits,IntKind.signed];omega
    have hwu:IntKind.u64.wrap (u:Int)=(u:Int):=by simp[IntKind.wrap,IntKind.bits,IntKind.signed];omega
    have hut:(r+1).toNat=u:=by omega
    rw[hut]
    have T3:=zZ (fun W=>vrput_any u W (by omega))
    clear hf
    go_enter Tryz.func111,Tryz.ntmps111
    go_wp2_with fail
    refine (T1.out _).mono ?_
    rintro e w1 ⟨rfl,hC1⟩
    have A1:=A0.out.below hC1
    obtain⟨⟨c0,c1,c2⟩,d0,d1,d2⟩:=A1.cells
    go_wp2_with fail
    refine (T3.out _).mono ?_
    rintro e w3 ⟨v3,rfl,hown3,hC3⟩
    have A3:=A1.below hC3
    go_wp2
    go_ret2
    exact⟨_,rfl,own_mono hown3 A1.bel.size,A3.bel⟩
   ·have e4:(k == 4)=false:=beq_false_of_ne h4
    have e5:(k == 5)=false:=beq_false_of_ne h5
    obtain⟨u,hu,hlt⟩:=vl_zig_nat h0 h1
    rw[vl_put_num h4 h5]
    simp only
    rw[hu,Int.toNat_natCast]
    have T3:=zZ (fun W=>rzig_any n W h0 h1)
    rw[hu] at T3
    have T4:=zZ (fun W=>vrput_any u W hlt)
    clear hf
    go_enter Tryz.func111,Tryz.ntmps111
    go_wp2_with fail
    refine (T1.out _).mono ?_
    rintro e w1 ⟨rfl,hC1⟩
    have A1:=A0.out.below hC1
    obtain⟨⟨c0,c1,c2⟩,d0,d1,d2⟩:=A1.cells
    go_wp2_with fail
    refine (T3.out _).mono ?_
    rintro e w3 ⟨rfl,rfl⟩
    go_wp2_with fail
    refine (T4.out _).mono ?_
    rintro e w4 ⟨v4,rfl,hown4,hC4⟩
    have A4:=A1.below hC4
    go_wp2
    go_ret2
    exact⟨_,rfl,own_mono hown4 A1.bel.size,A4.bel⟩
end Go.Proofs.YtnljjnkindjeoaaGreatDoor
