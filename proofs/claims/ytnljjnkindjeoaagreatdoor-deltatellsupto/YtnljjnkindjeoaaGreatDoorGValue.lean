/- The texts BlkNew2, VlPut, VlGet in one (as far as the seat has what they speak of); what each proves, and its conditions, stands before it. -/
import Derived.Test.YtnljjnkindjeoaaGreatDoorGGen
import Derived.Test.YtnljjnkindjeoaaGreatDoorGBytes
import Derived.Test.YtnljjnkindjeoaaGreatDoorGVari
import Derived.Test.YtnljjnkindjeoaaGreatDoorGGraph
import Derived.Lib.AppendStr
import Derived.Test.YtnljjnkindjeoaaGreatDoorAl
set_option maxRecDepth 100000
set_option maxHeartbeats 1000000
namespace Go.Proofs.YtnljjnkindjeoaaGreatDoor
open Go.RowKit
theorem blk_new2 (w:World) (o:Obj) (t:TypeId) (cs:List Value):Blk ((w.alloc o).alloc (.cells cs.toArray t)) (w.heap.size+1) t cs:=by
 have:=Blk.new (w.alloc o) t cs
 rwa [World.size_alloc] at this
structure VlArgs (w0 w:World) (a b s:ByteArray) (k n r:Int):Prop where
 bel:Below w0.heap.size w0 w
 fld:Blk w w0.heap.size 97 [.string a,.int .i64 k,.string b]
 val:Blk w (w0.heap.size+1) 47 [.int .i64 n,.string s,.int .i64 r]
theorem VlArgs.start (w:World) (a b s:ByteArray) (k n r:Int):VlArgs w ((w.alloc (.cells #[.string a,.int .i64 k,.string b] 97)).alloc (.cells #[.int .i64 n,.string s,.int .i64 r] 47)) a b s k n r:=
 ⟨((zA _ w).alloc (zW _) _).alloc (by simp) _,(Blk.new w 97 [.string a,.int .i64 k,.string b]).alloc _,blk_new2 w _ 47 [.int .i64 n,.string s,.int .i64 r]⟩
section
variable {w0 w w' : World} {a b s : ByteArray} {k n r : Int}
theorem VlArgs.below (h:VlArgs w0 w a b s k n r) (hB:Below w.heap.size w w'):VlArgs w0 w' a b s k n r:=
 ⟨h.bel.trans (hB.mono h.bel.size),h.fld.below h.fld.lt hB,h.val.below h.val.lt hB⟩
theorem VlArgs.cells (h:VlArgs w0 w a b s k n r):(w.cell? ⟨w0.heap.size,0,none⟩=some (.string a)∧w.cell? ⟨w0.heap.size,1,none⟩=some (.int .i64 k)∧w.cell? ⟨w0.heap.size,2,none⟩=some (.string b)) ∧
  w.cell? ⟨w0.heap.size+1,0,none⟩=some (.int .i64 n)∧w.cell? ⟨w0.heap.size+1,1,none⟩=some (.string s)∧w.cell? ⟨w0.heap.size+1,2,none⟩=some (.int .i64 r):=
 ⟨⟨h.fld.cell rfl,h.fld.cell rfl,h.fld.cell rfl⟩,h.val.cell rfl,h.val.cell rfl,h.val.cell rfl⟩
end
theorem strCells_byt (s:ByteArray):Lib.strCells s=u8s (byt s):=by
 simp only[Lib.strCells,u8s,byt,List.map_map]
 rfl
theorem assert_str (k n r:Int) (s:ByteArray) (W:World):(Instr.typeAssert (holdV k n s r) 20 9 true).run Tryz.prog W=.ok (.tuple #[.string (if k=4 then s else ⟨#[]⟩),.bool (decide (k=4))]) W:=by
 rcases vl_kinds k with rfl | rfl | rfl | rfl | rfl | rfl | hk
 ·kernel_rfl
 ·kernel_rfl
 ·kernel_rfl
 ·kernel_rfl
 ·kernel_rfl
 ·kernel_rfl
 ·rw[vl_hold_x hk,zK (by omega),if_neg (by omega)];kernel_rfl
theorem assert_ref (n r:Int) (s:ByteArray) (W:World):(Instr.typeAssert (holdV 5 n s r) 20 193 false).run Tryz.prog W=.ok (.int .i64 r) W:=by kernel_rfl
theorem vlput_any (a b s:ByteArray) (k n r:Int) (w:World) (h0:-9223372036854775808≤n) (h1:n≤9223372036854775807):
  Calls Tryz.prog 154 #[.agg #[.string a,.int .i64 k,.string b],.agg #[.int .i64 n,.string s,.int .i64 r]] w fun e w'=>
   ∃ v,e=.returned (.tuple #[v,.bool (fitsV k (n,byt s,r))])∧w'.ownsRow w.heap.size 5 1 v (putVF k (n,byt s,r)).length (u8s (putVF k (n,byt s,r)))∧Below w.heap.size w w':=by
 have T1:=zZ (fun W=>vlfits_any a b s k n r W)
 have T2:=zZ (fun W=>vlhold_any a b s k n r W)
 have ts:=assert_str k n r s
 have A0:=zZ (VlArgs.start w a b s k n r)
 cases hf:fitsV k (n,byt s,r)
 ·rw[hf] at T1
  rw[putVF_no hf]
  clear hf ts
  go_enter Tryz.func154,Tryz.ntmps154
  go_wp2_with fail
  refine (T1.out _).mono ?_
  rintro e w1 ⟨rfl,hC1⟩
  have A1:=A0.out.below hC1
  go_wp2
  go_ret2
  exact⟨_,rfl,World.ownsRow_nil _ _ _ _,A1.bel⟩
 ·rw[hf] at T1
  rw[putVF_yes hf]
  by_cases h4:k=4
  ·subst h4
   rw[if_pos rfl,zJ rfl] at ts
   rw[vl_fits_4] at hf
   obtain⟨hl,-,-⟩:=of_decide_eq_true hf
   rw[vl_put_4]
   simp only[byt_length] at hl ⊢
   have hw:IntKind.u64.wrap (s.size:Int)=(s.size:Int):=by simp[IntKind.wrap,IntKind.bits,IntKind.signed];omega
   have hpl:=putL_len10 s.size (by omega)
   have T3:=zZ (fun W=>vput_any s.size W (by omega))
   obtain⟨i0,hi,hz0,hz1,hz2⟩:=info_parts info_u8
   clear hf
   generalize holdV 4 n s r=hv at *
   go_enter Tryz.func154,Tryz.ntmps154
   go_wp2_with fail
   refine (T1.out _).mono ?_
   rintro e w1 ⟨rfl,hC1⟩
   have A1:=A0.out.below hC1
   obtain⟨⟨c0,c1,c2⟩,d0,d1,d2⟩:=A1.cells
   go_wp2_with fail
   refine (T2.out _).mono ?_
   rintro e w2 ⟨rfl,hC2⟩
   have A2:=A1.below hC2
   clear c0 c1 c2 d0 d1 d2
   obtain⟨⟨c0,c1,c2⟩,d0,d1,d2⟩:=A2.cells
   go_wp2_with fail
   refine (T3.out _).mono ?_
   rintro e w3 ⟨v3,rfl,hown3,hC3⟩
   have A3:=A2.below hC3
   have hw3:=hC3.size
   clear c0 c1 c2 d0 d1 d2
   go_wp2_with (first | (at_builtin;refine Lib.wpList_append_own_string _ rfl (.tmp 25) (.tmp 26) 98 9 rfl w2.heap.size 5 i0 Tryz.underlying98 Tryz.underlying9 hi hz0 hz1 hz2 v3 _ _ rfl hown3 s rfl (by simp only[maxLen];omega) (by omega) hw3 ?_;intro v4 w4 hown4 hg4 _) | fail)
   go_ret2
   refine⟨_,rfl,?_,A3.bel.grown hg4 A3.bel.size (fun k hk=>Nat.le_trans A2.bel.size (hown3.lt k hk).1)⟩
   rw[strCells_byt,← u8s_append] at hown4
   rw[List.length_append,byt_length]
   exact own_mono hown4 A2.bel.size
  ·rw[zK h4,if_neg h4] at ts
   by_cases h5:k=5
   ·subst h5
    have tr:=assert_ref n r s
    rw[vl_fits_5] at hf
    obtain⟨hr0,hr1,-,-⟩:=of_decide_eq_true hf
    simp only at hr0 hr1
    obtain⟨u,hu⟩:∃ u:Nat,r+1=(u:Int):=⟨(r+1).toNat,by omega⟩
    rw[vl_put_5]
    simp only
    have hwr:IntKind.i64.wrap (r+1)=(u:Int):=by rw[← hu];simp[IntKind.wrap,IntKind.bits,IntKind.signed];omega
    have hwu:IntKind.u64.wrap (u:Int)=(u:Int):=by simp[IntKind.wrap,IntKind.bits,IntKind.signed];omega
    have hut:(r+1).toNat=u:=by omega
    rw[hut]
    have T3:=zZ (fun W=>vput_any u W (by omega))
    clear hf
    generalize holdV 5 n s r=hv at *
    go_enter Tryz.func154,Tryz.ntmps154
    go_wp2_with fail
    refine (T1.out _).mono ?_
    rintro e w1 ⟨rfl,hC1⟩
    have A1:=A0.out.below hC1
    obtain⟨⟨c0,c1,c2⟩,d0,d1,d2⟩:=A1.cells
    go_wp2_with fail
    refine (T2.out _).mono ?_
    rintro e w2 ⟨rfl,hC2⟩
    have A2:=A1.below hC2
    clear c0 c1 c2 d0 d1 d2
    obtain⟨⟨c0,c1,c2⟩,d0,d1,d2⟩:=A2.cells
    go_wp2_with fail
    refine (T3.out _).mono ?_
    rintro e w3 ⟨v3,rfl,hown3,hC3⟩
    have A3:=A2.below hC3
    go_wp2
    go_ret2
    exact⟨_,rfl,own_mono hown3 A2.bel.size,A3.bel⟩
   ·have e5:(k == 5)=false:=beq_false_of_ne h5
    obtain⟨u,hu,hlt⟩:=vl_zig_nat h0 h1
    rw[vl_put_num h4 h5]
    simp only
    rw[hu,Int.toNat_natCast]
    have T3:=zZ (fun W=>zig_any n W h0 h1)
    rw[hu] at T3
    have T4:=zZ (fun W=>vput_any u W hlt)
    clear hf
    generalize holdV k n s r=hv at *
    go_enter Tryz.func154,Tryz.ntmps154
    go_wp2_with fail
    refine (T1.out _).mono ?_
    rintro e w1 ⟨rfl,hC1⟩
    have A1:=A0.out.below hC1
    obtain⟨⟨c0,c1,c2⟩,d0,d1,d2⟩:=A1.cells
    go_wp2_with fail
    refine (T2.out _).mono ?_
    rintro e w2 ⟨rfl,hC2⟩
    have A2:=A1.below hC2
    clear c0 c1 c2 d0 d1 d2
    obtain⟨⟨c0,c1,c2⟩,d0,d1,d2⟩:=A2.cells
    go_wp2_with fail
    refine (T3.out _).mono ?_
    rintro e w3 ⟨rfl,rfl⟩
    go_wp2_with fail
    refine (T4.out _).mono ?_
    rintro e w4 ⟨v4,rfl,hown4,hC4⟩
    have A4:=A2.below hC4
    go_wp2
    go_ret2
    exact⟨_,rfl,own_mono hown4 A2.bel.size,A4.bel⟩
end Go.Proofs.YtnljjnkindjeoaaGreatDoor
