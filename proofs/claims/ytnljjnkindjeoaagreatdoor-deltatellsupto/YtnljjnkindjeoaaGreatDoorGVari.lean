/- The texts VaGet, VaNum, VaAll, VaPut, VaZig in one (as far as the seat has what they speak of); what each proves, and its conditions, stands before it. -/
import Derived.Test.YtnljjnkindjeoaaGreatDoorGGen
import Derived.Test.YtnljjnkindjeoaaGreatDoorGBytes
import Derived.RangeFuncBox
import Derived.RangeFuncLeaves
import Derived.Shelf.Abstract
import Derived.OwnWalkIn
import Derived.TacticsInMore
import Derived.LoopNIn
import Derived.LoopIn
import Derived.Maps.AppendAt
import Derived.Deep.QuietTactic
import Derived.BigQuiet
import Derived.Scope
import Derived.RangeFuncNested
import Derived.WalkKit
import Derived.WalkSpells
import Derived.WalkLawsBesides
import Derived.IntWalk
import Derived.Test.YtnljjnkindjeoaaGreatDoorAl
set_option maxRecDepth 100000
set_option maxHeartbeats 400000
namespace Go.Proofs.YtnljjnkindjeoaaGreatDoor
open Go.RowKit
end Go.Proofs.YtnljjnkindjeoaaGreatDoor
namespace Go.Proofs.YtnljjnkindjeoaaGreatDoor
open Go.RowKit Go.Shelf
attribute [local go_sem] Oper.semAt_some
attribute [local go_sem] Oper.semAt_some
end Go.Proofs.YtnljjnkindjeoaaGreatDoor
namespace Go.Proofs.YtnljjnkindjeoaaGreatDoor
open Go.RowKit
theorem own_step {B:Nat} {w wr w1:World} {v v':Value} {pre:List Nat} {x:Nat} {o:Obj} (hnx:Below B w wr) (hown:wr.ownsRow B 5 1 v pre.length (u8s pre)) (hle:B≤wr.heap.size)
  (hown':w1.ownsRow B 5 1 v' (pre.length+1) (u8s pre++[.int .u8 (x:Int)])) (hg:(wr.alloc o).grownBy w1 v.ownBlock):
  w1.ownsRow B 5 1 v' (pre++[x]).length (u8s (pre++[x]))∧Below B w w1:=by
 constructor
 ·rw[u8s_append];simpa [u8s] using hown'
 ·exact (hnx.alloc hle o).grown hg (by simp;omega) (fun k hk=>(hown.lt k hk).1)
theorem vput_any (N:Nat) (w:World) (hN:N<18446744073709551616):
  Calls Tryz.prog 95 #[.int .u64 (N:Int)] w fun e w'=>∃ v,e=.returned v∧w'.ownsRow w.heap.size 5 1 v (vputL N).length (u8s (vputL N))∧Below w.heap.size w w':=by
 obtain⟨i0,hi,hz0,hz1,hz2⟩:=info_parts info_u8
 have hmk:∀ w,(Instr.makeSlice 98 (.int .i64 0) (.int .i64 10)).run Tryz.prog w=.ok (.slice (some ⟨w.heap.size,0,none⟩) 0 10) (w.alloc (.cells #[.int .u8 0,.int .u8 0,.int .u8 0,.int .u8 0,.int .u8 0,.int .u8 0,.int .u8 0,.int .u8 0,.int .u8 0,.int .u8 0] 5)):=fun _=>by kernel_rfl
 have hl10:=putL_len10 N hN
 go_enter Tryz.func95,Tryz.ntmps95
 go_wp2
 go_loopw [0,3] (fun n v wr=>∃ (m:Nat) (pre:List Nat),n=.int .u64 (m:Int)∧m<18446744073709551616∧vputL N=pre++vputL m∧wr.ownsRow w.heap.size 5 1 v pre.length (u8s pre)∧Below w.heap.size w wr)
  (fun n _ _=>(intOf n).toNat)
 case atStart=>exact⟨N,[],rfl,hN,rfl,World.ownsRow_made _ _ 10 (zW _) (by simp[maxLen]) rfl,(zA _ _).alloc (zW _) _⟩
 case round=>
  obtain⟨m,pre,rfl,hm,hp,hown,hnx⟩:=hrel
  have hsz:=hnx.size
  have hpl:pre.length+(vputL m).length≤10:=by rw[← List.length_append,← hp];exact hl10
  by_cases h:m<128
  ·rw[putL_small h] at hp hpl
   have Hp:=zZ hp
   simp at hpl
   clear hp
   go_wp2_with (at_builtin;refine wpList_append_own _ rfl _ _ 98 rfl w.heap.size 5 i0 (.int .u8 0) 1 1 Tryz.underlying98 hi hz0 hz1 hz2 rfl (by decide) _ _ _ rfl (hown.alloc _) ⟨wr.heap.size,0,none⟩ 1 1 [.int .u8 (m:Int)] rfl rfl (cell_one_new _ _ _) (by simp[Value.oneCell']) (by simp only[maxLen];omega) (by omega) (by simp;omega) ?_;intro v' w1 hown' hgrow _)
   have R:=own_step hnx hown hsz hown' hgrow
   go_ret
   exact⟨_,rfl,by rw[Hp.out];exact R.1,R.2⟩
  ·rw[putL_big h] at hp hpl
   have Hp:=zZ hp
   simp at hpl
   clear hp
   go_wp2_with (at_builtin;refine wpList_append_own _ rfl _ _ 98 rfl w.heap.size 5 i0 (.int .u8 0) 1 1 Tryz.underlying98 hi hz0 hz1 hz2 rfl (by decide) _ _ _ rfl (hown.alloc _) ⟨wr.heap.size,0,none⟩ 1 1 [.int .u8 ((m % 128+128:Nat):Int)] rfl rfl (cell_one_new _ _ _) (by simp[Value.oneCell']) (by simp only[maxLen];omega) (by omega) (by simp;omega) ?_;intro v' w1 hown' hgrow _)
   have R:=own_step hnx hown hsz hown' hgrow
   refine⟨⟨m / 128,pre++[m % 128+128],by go_num,by omega,by rw[Hp.out];simp,R.1,R.2⟩,?_⟩
   simp[intOf];omega
theorem vrput_any (N:Nat) (w:World) (hN:N<18446744073709551616):
  Calls Tryz.prog 65 #[.int .u64 (N:Int)] w fun e w'=>∃ v,e=.returned v∧w'.ownsRow w.heap.size 5 1 v (vputL N).length (u8s (vputL N))∧Below w.heap.size w w':=by
 obtain⟨i0,hi,hz0,hz1,hz2⟩:=info_parts info_u8
 have hl10:=putL_len10 N hN
 go_enter Tryz.func65,Tryz.ntmps65
 go_wp2
 go_loopw [0,3] (fun n v wr=>∃ (m:Nat) (pre:List Nat),n=.int .u64 (m:Int)∧m<18446744073709551616∧vputL N=pre++vputL m∧wr.ownsRow w.heap.size 5 1 v pre.length (u8s pre)∧Below w.heap.size w wr)
  (fun n _ _=>(intOf n).toNat)
 case atStart=>exact⟨N,[],rfl,hN,rfl,World.ownsRow_nil _ _ _ _,zA _ _⟩
 case round=>
  obtain⟨m,pre,rfl,hm,hp,hown,hnx⟩:=hrel
  have hsz:=hnx.size
  have hpl:pre.length+(vputL m).length≤10:=by rw[← List.length_append,← hp];exact hl10
  by_cases h:m<128
  ·rw[putL_small h] at hp hpl
   have Hp:=zZ hp
   simp at hpl
   clear hp
   go_wp2_with (at_builtin;refine wpList_append_own _ rfl _ _ 98 rfl w.heap.size 5 i0 (.int .u8 0) 1 1 Tryz.underlying98 hi hz0 hz1 hz2 rfl (by decide) _ _ _ rfl (hown.alloc _) ⟨wr.heap.size,0,none⟩ 1 1 [.int .u8 (m:Int)] rfl rfl (cell_one_new _ _ _) (by simp[Value.oneCell']) (by simp only[maxLen];omega) (by omega) (by simp;omega) ?_;intro v' w1 hown' hgrow _)
   have R:=own_step hnx hown hsz hown' hgrow
   go_ret
   exact⟨_,rfl,by rw[Hp.out];exact R.1,R.2⟩
  ·rw[putL_big h] at hp hpl
   have Hp:=zZ hp
   simp at hpl
   clear hp
   go_wp2_with (at_builtin;refine wpList_append_own _ rfl _ _ 98 rfl w.heap.size 5 i0 (.int .u8 0) 1 1 Tryz.underlying98 hi hz0 hz1 hz2 rfl (by decide) _ _ _ rfl (hown.alloc _) ⟨wr.heap.size,0,none⟩ 1 1 [.int .u8 ((m % 128+128:Nat):Int)] rfl rfl (cell_one_new _ _ _) (by simp[Value.oneCell']) (by simp only[maxLen];omega) (by omega) (by simp;omega) ?_;intro v' w1 hown' hgrow _)
   have R:=own_step hnx hown hsz hown' hgrow
   refine⟨⟨m / 128,pre++[m % 128+128],by go_num,by omega,by rw[Hp.out];simp,R.1,R.2⟩,?_⟩
   simp[intOf];omega
theorem zig_any (n:Int) (w:World) (h0:-9223372036854775808≤n) (h1:n≤9223372036854775807):
  Calls Tryz.prog 161 #[.int .i64 n] w fun e w'=>e=.returned (.int .u64 (zigV n))∧w=w':=by
 by_cases h:0≤n
 ·go_enter Tryz.func161,Tryz.ntmps161
  go_wp2
  go_ret
  exact⟨ret_int (by rw[zigV,if_pos h]),rfl⟩
 ·go_enter Tryz.func161,Tryz.ntmps161
  go_wp2
  go_ret
  exact⟨ret_int (by rw[zigV,if_neg (by omega)]),rfl⟩
theorem rzig_any (n:Int) (w:World) (h0:-9223372036854775808≤n) (h1:n≤9223372036854775807):
  Calls Tryz.prog 143 #[.int .i64 n] w fun e w'=>e=.returned (.int .u64 (zigV n))∧w=w':=by
 by_cases h:0≤n
 ·go_enter Tryz.func143,Tryz.ntmps143
  go_wp2
  go_ret
  exact⟨ret_int (by rw[zigV,if_pos h]),rfl⟩
 ·go_enter Tryz.func143,Tryz.ntmps143
  go_wp2
  go_ret
  exact⟨ret_int (by rw[zigV,if_neg (by omega)]),rfl⟩
end Go.Proofs.YtnljjnkindjeoaaGreatDoor
