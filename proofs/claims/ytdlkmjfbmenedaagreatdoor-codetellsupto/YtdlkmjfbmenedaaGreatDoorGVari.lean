/- The texts VaGet, VaNum, VaAll, VaPut, VaZig in one (as far as the seat has what they speak of); what each proves, and its conditions, stands before it. -/
import Derived.Test.YtdlkmjfbmenedaaGreatDoorGGen
import Derived.Test.YtdlkmjfbmenedaaGreatDoorGBytes
import Derived.RangeFuncBox
import Derived.RangeFuncLeaves
import Derived.Shelf.Abstract
import Derived.OwnWalkIn
import Derived.TacticsInMore
import Derived.LoopNIn
import Derived.LoopIn
import Derived.Maps.AppendAt
import Derived.Deep.QuietTactic
import Derived.BigQuiet
import Derived.Scope
import Derived.RangeFuncNested
import Derived.WalkKit
import Derived.WalkSpells
import Derived.WalkLawsBesides
import Derived.IntWalk
import Derived.Test.YtdlkmjfbmenedaaGreatDoorAl
set_option maxRecDepth 100000
set_option maxHeartbeats 2000000
namespace Go.Proofs.YtdlkmjfbmenedaaGreatDoor
open Go.RowKit
theorem pow27 (k:Nat):(2:Int) ^ (7 * k)=((128 ^ k:Nat):Int):=by
 rw[Int.natCast_pow,Int.pow_mul];rfl
theorem shl_step (acc d k:Nat) (h:acc+d % 128 * 128 ^ k<18446744073709551616):
  IntKind.u64.wrap ((acc:Int)+IntKind.u64.wrap ((d:Int) % 128 * 2 ^ (7 * k)))=((acc+d % 128 * 128 ^ k:Nat):Int):=by
 have e:(d:Int) % 128 * 2 ^ (7 * k)=((d % 128 * 128 ^ k:Nat):Int):=by
  rw[pow27,Int.natCast_mul];rfl
 rw[e,IntKind.wrap_u64,IntKind.wrap_u64]
 generalize d % 128 * 128 ^ k=x at *
 omega
theorem acc_lt (acc d k:Nat) (h:acc<128 ^ k) (hk:k≤8):acc+d % 128 * 128 ^ k<128 ^ (k+1)∧128 ^ (k+1)≤9223372036854775808:=by
 constructor
 ·have h2:d % 128 * 128 ^ k≤127 * 128 ^ k:=Nat.mul_le_mul_right _ (by omega)
  rw[Nat.pow_succ];omega
 ·have e9:(128:Nat) ^ 9=9223372036854775808:=by decide
  rw[← e9]
  exact Nat.pow_le_pow_right (by omega) (by omega)
theorem ret_two {k l:IntKind} {a b c d:Int} (h:a=b) (h2:c=d):Ending.returned (.tuple #[.int k a,.int l c])=.returned (.tuple #[.int k b,.int l d]):=by rw[h,h2]
theorem vget_any (A:Option Addr) (c:Nat) (bs:List Nat) (w:World) (hb:∀ x∈bs,x<256) (hr:Rd w A (u8s bs)) (hlen:bs.length≤140737488355328):
  Calls Tryz.prog 119 #[.slice A bs.length c] w fun e w'=>e=.returned (.tuple #[.int .u64 ((getL bs).1:Int),.int .i64 ((getL bs).2:Int)])∧w=w':=by
 go_enter Tryz.func119,Tryz.ntmps119
 go_wp2
 go_loop [4,9] (fun n i=>∃ k acc:Nat,k≤bs.length∧k≤9∧acc<128 ^ k∧i=.int .i64 k∧n=.int .u64 acc∧getGo k acc (bs.drop k)=getL bs) (fun _ i=>bs.length - (intOf i).toNat)
 case atStart=>exact⟨0,0,Nat.zero_le _,by omega,by simp,rfl,rfl,rfl⟩
 case round=>
  obtain⟨k,acc,hk,hk9,hacc,rfl,rfl,hg⟩:=hrel
  by_cases hlt:k<bs.length
  ·obtain⟨b,off,rfl,hblt,hcell⟩:=u8s_at hr hlt
   have hd:bs[k]<256:=hb _ (List.getElem_mem hlt)
   rw[List.drop_eq_getElem_cons hlt] at hg
   generalize bs[k]=d at *
   rw[getGo] at hg
   by_cases h9:k=9
   ·subst h9
    have Hg:=zZ hg
    clear hg
    go_wp2
    ·go_ret2
     have:=Hg.out
     rw[if_pos ⟨trivial,by omega⟩] at this
     exact⟨ret_two (by rw[← this];rfl) (by rw[← this];rfl),rfl⟩
    ·go_ret2
     have:=Hg.out
     rw[if_neg (by omega),if_neg (by omega),if_pos (by omega)] at this
     exact⟨ret_two (by rw[← this];rfl) (by rw[← this];rfl),rfl⟩
    ·go_ret2
     have:=Hg.out
     rw[if_neg (by omega),if_neg (by omega),if_neg (by omega)] at this
     refine⟨ret_two ?_ (by rw[← this];rfl),rfl⟩
     rw[← this]
     show (acc:Int)+(d:Int) % 128 * 9223372036854775808=((acc+d % 128 * 128 ^ 9:Nat):Int)
     rw[show (128:Nat) ^ 9=9223372036854775808 from by decide]
     omega
   ·rw[if_neg (by omega)] at hg
    have hs:=acc_lt acc d k hacc (by omega)
    have hsh:=shl_step acc d k (by omega)
    have Hg:=zZ hg
    have Hs:=zZ hsh
    clear hg hsh
    go_wp2
    ·have:=Hg.out
     rw[if_pos (by omega)] at this
     refine⟨⟨k+1,acc+d % 128 * 128 ^ k,by omega,by omega,hs.1,by go_num,by rw[Hs.out],this⟩,?_⟩
     simp[intOf];omega
    ·go_ret2
     have:=Hg.out
     rw[if_neg (by omega),if_pos (by omega)] at this
     exact⟨ret_two (by rw[← this];rfl) (by rw[← this];rfl),rfl⟩
    ·go_ret2
     have:=Hg.out
     rw[if_neg (by omega),if_neg (by omega)] at this
     refine⟨ret_two ?_ (by rw[← this];rfl),rfl⟩
     rw[← this]
     have hd0:d=0:=by assumption
     have:=Hs.out
     subst hd0
     simpa using this
    ·go_ret2
     have:=Hg.out
     rw[if_neg (by omega),if_neg (by omega)] at this
     refine⟨ret_two ?_ (by rw[← this];rfl),rfl⟩
     rw[← this];exact Hs.out
  ·have:bs.drop k=[]:=List.drop_eq_nil_of_le (by omega)
   rw[this] at hg
   have Hg:=zZ hg
   clear hg this
   go_wp2
   go_ret2
   exact⟨ret_two (by rw[← Hg.out];rfl) (by rw[← Hg.out];rfl),rfl⟩
theorem get_len (A:Option Addr) (c n:Nat) (bs:List Nat) (w:World) (hn:bs.length=n) (hb:∀ x∈bs,x<256) (hr:Rd w A (u8s bs)) (hlen:n≤140737488355328):
  Calls Tryz.prog 119 #[.slice A n c] w fun e w'=>e=.returned (.tuple #[.int .u64 ((getL bs).1:Int),.int .i64 ((getL bs).2:Int)])∧w=w':=by
 subst hn
 exact vget_any A c bs w hb hr hlen
end Go.Proofs.YtdlkmjfbmenedaaGreatDoor
namespace Go.Proofs.YtdlkmjfbmenedaaGreatDoor
open Go.RowKit Go.Shelf
attribute [local go_sem] Oper.semAt_some
theorem numbers_in (n:Nat) (A:Option Addr) (len cap:Nat) (w:World):
  CallsIn Fence.wide n Tryz.prog 153 #[.slice A len cap] w fun e w'=>e=.returned (.func (.func 183) #[] #[.pointer (some ⟨w.heap.size,0,none⟩)])∧w'=w.alloc (.cells #[.slice A len cap] 29):=by
 refine callsIn_of_wp Tryz.func153 rfl trivial ?_ rfl
 simp only[Tryz.ntmps153,List.size_toArray,List.length_cons,List.length_nil,Nat.reduceAdd,Nat.reduceSub,Array.replicate_succ,Array.replicate_zero,List.push_toArray,List.append_toArray,List.nil_append,List.cons_append]
 gi_wp2
 go_ret
 exact⟨rfl,rfl⟩
def KpN (n₀ Bs:Nat) (W W':World):Prop:=Below n₀ W W'∧W'.heap[Bs]?=W.heap[Bs]?
theorem KpN.refl (n₀ Bs:Nat) (W:World):KpN n₀ Bs W W:=⟨zA _ _,rfl⟩
theorem KpN.trans {n₀ Bs:Nat} {A B C:World} (h:KpN n₀ Bs A B) (k:KpN n₀ Bs B C):KpN n₀ Bs A C:=⟨h.1.trans k.1,k.2.trans h.2⟩
theorem KpN.cell {n₀ Bs:Nat} {A B:World} (h:KpN n₀ Bs A B) (i:Nat):B.cell? ⟨Bs,i,none⟩=A.cell? ⟨Bs,i,none⟩:=World.cell?_of_block h.2
abbrev encN (x:Nat × Nat):Array Value:=#[.int .u64 (x.1:Int),.int .i64 (x.2:Int)]
theorem nums1_in (n:Nat) (hn:1≤n) (l Bs n₀:Nat) (A:Option Addr) (c:Nat) (bs:List Nat) (hc:bs.length≤c) (hb:∀ x∈bs,x<256) (hlen:bs.length≤140737488355328) (J Jx:List (Nat × Nat)→World→Prop)
  (hY:∀ pre x W,J pre W→pre.length<(numL bs).length→YieldAt Fence.wide (n - 1) Tryz.prog l (encN x) W fun e W'=>
   (e=.returned (.bool true)∧J (pre++[x]) W'∧KpN n₀ Bs W W')∨(e=.returned (.bool false)∧Jx (pre++[x]) W'))
  (W:World) (hBc:W.cell? ⟨Bs,0,none⟩=some (.slice A bs.length c)) (hr:∀ W',Below n₀ W W'→Rd W' A (u8s bs)) (h0:J [] W):
  CallsIn Fence.wide n Tryz.prog 183 #[.func (.yield l) #[] #[],.pointer (some ⟨Bs,0,none⟩)] W fun e W'=>(∃ v,e=.returned v) ∧
   ((∃ ys,ys=numL bs∧J ys W')∨(∃ pre,pre <+: numL bs∧Jx pre W')):=by
 refine callsIn_of_wp Tryz.func183 rfl trivial ?_ rfl
 simp only[Tryz.ntmps183,List.size_toArray,List.length_cons,List.length_nil,Nat.reduceAdd,Nat.reduceSub,Array.replicate_succ,Array.replicate_zero,List.push_toArray,List.append_toArray,List.nil_append,List.cons_append]
 gi_wp2
 gi_loopw [3] (fun i wr=>∃ (k:Nat) (pre:List (Nat × Nat)),k≤bs.length∧i=.int .i64 (k:Int)∧numL bs=pre++numL (bs.drop k)∧J pre wr∧KpN n₀ Bs W wr)
  (fun i _=>bs.length - (intOf i).toNat)
 case atStart=>exact⟨0,[],Nat.zero_le _,rfl,rfl,h0,KpN.refl _ _ _⟩
 case round=>
  obtain⟨k,pre,hk,rfl,hx,hJs,hnx⟩:=hrel
  have hBc':wr.cell? ⟨Bs,0,none⟩=some (.slice A bs.length c):=(hnx.cell 0).trans hBc
  by_cases hlt:k<bs.length
  ·have hrd:=hr wr hnx.1
   obtain⟨b,off,rfl,hblt,hcell⟩:=hrd.at (k:=k) (by simpa using hlt)
   have hget:=vget_any (some ⟨b,off+k,none⟩) (c - k) (bs.drop k) wr (fun x hx=>hb x (List.mem_of_mem_drop hx)) (by rw[← u8s_drop];exact hrd.drop k) (by rw[List.length_drop];omega)
   rw[List.length_drop] at hget
   have hgl:=getL_le (bs.drop k) (fun x hx=>hb x (List.mem_of_mem_drop hx))
   rw[List.length_drop] at hgl
   have hne:bs.drop k≠[]:=by intro e;have:=congrArg List.length e;simp at this;omega
   have hxs:∃ rest,numL bs=pre++(getL (bs.drop k) :: rest)∧((getL (bs.drop k)).2≠0→rest=numL (bs.drop (k+(getL (bs.drop k)).2)))∧((getL (bs.drop k)).2=0→rest=[]):=by
    by_cases h2:(getL (bs.drop k)).2=0
    ·exact⟨[],by rw[hx,numL_none _ hne h2],fun h=>absurd h2 h,fun _=>rfl⟩
    ·exact⟨_,by rw[hx,numL_some _ h2],fun _=>by rw[List.drop_drop],fun h=>absurd h h2⟩
   obtain⟨rest,hxs,hrest,hrest0⟩:=hxs
   generalize hgg:getL (bs.drop k)=g at *
   obtain⟨gn,gs⟩:=g
   obtain⟨fn,tmps,assign,body,hy,hR⟩:=hY pre (gn,gs) wr hJs (by rw[hxs];simp)
   dsimp only[encN] at hy
   dsimp only at hget hgl hrest hrest0
   have Hget:=zZ hget
   have Hx:=zZ hx
   have Hxs:=zZ hxs
   have Hrest:=zZ hrest
   have Hrest0:=zZ hrest0
   have Hgg:=zZ hgg
   have Hc:=zZ hcell
   clear hget hx hxs hrest hrest0 hgg hcell hr hY
   have hk0:(k:Int)<(bs.length:Int):=by omega
   by_cases h2:gs=0
   ·have hz:((gs:Int) == 0)=true:=by rw[h2];rfl
    have H2:=zZ h2
    clear h2
    gi_wp2_with (refine⟨trivial,?_⟩;gi_at_call 119;refine (callsIn_wide.2 Hget.out).mono ?_;rintro e w' ⟨rfl,rfl⟩)
    refine hR.mono ?_
    rintro e W3 (⟨rfl,hJ3,hk3⟩ | ⟨rfl,hJx3⟩)
    ·gi_wp2
     refine bodyPost_ret (results_none rfl _ _ _) rfl ?_
     exact⟨⟨_,rfl⟩,.inl ⟨pre++[(gn,gs)],by rw[Hxs.out,Hrest0.out H2.out],hJ3⟩⟩
    ·gi_wp2
     refine bodyPost_ret (results_none rfl _ _ _) rfl ?_
     exact⟨⟨_,rfl⟩,.inr ⟨pre++[(gn,gs)],⟨rest,by rw[Hxs.out];simp⟩,hJx3⟩⟩
   ·have hz:((gs:Int) == 0)=false:=by simp;omega
    gi_wp2_with (refine⟨trivial,?_⟩;gi_at_call 119;refine (callsIn_wide.2 Hget.out).mono ?_;rintro e w' ⟨rfl,rfl⟩)
    refine hR.mono ?_
    rintro e W3 (⟨rfl,hJ3,hk3⟩ | ⟨rfl,hJx3⟩)
    ·gi_wp2
     go_roundw
     case rel=>exact⟨k+gs,pre++[(gn,gs)],by omega,by go_num,by rw[Hxs.out,Hrest.out h2];simp,hJ3,hnx.trans hk3⟩
     case measure=>simp[intOf];omega
    ·gi_wp2
     refine bodyPost_ret (results_none rfl _ _ _) rfl ?_
     exact⟨⟨_,rfl⟩,.inr ⟨pre++[(gn,gs)],⟨rest,by rw[Hxs.out];simp⟩,hJx3⟩⟩
  ·have he:bs.drop k=[]:=List.drop_eq_nil_of_le (by omega)
   rw[he,numL_nil,List.append_nil] at hx
   have Hx:=zZ hx
   clear hx he
   gi_wp2
   go_end0
   exact⟨⟨_,rfl⟩,.inl ⟨pre,Hx.out.symm,hJs⟩⟩
attribute [local go_sem] Oper.semAt_some
theorem info_u64:(Tryz.prog.info? 71).map (fun i=>(i.zero,i.size,i.bytes))=some (some (.int .u64 0),1,8):=by kernel_rfl
theorem nums_stops (n:Nat) (hn:1≤n) (Bs:Nat) (A:Option Addr) (c:Nat) (bs:List Nat) (hc:bs.length≤c) (hb:∀ x∈bs,x<256) (hlen:bs.length≤140737488355328) (w:World) (n₀:Nat) (hBs:Bs<w.heap.size) (hn₀:n₀≤w.heap.size)
  (hBc:w.cell? ⟨Bs,0,none⟩=some (.slice A bs.length c)) (hr:∀ W',Below n₀ w W'→Rd W' A (u8s bs)):
  SeqStopsK Fence.wide n Tryz.prog 183 #[.pointer (some ⟨Bs,0,none⟩)] encN (KpN n₀ Bs) (fun ys=>ys=numL bs) (fun pre=>pre <+: numL bs) (numL bs).length w:=fun l J Jx W hW _ _ hY h0=>
 nums1_in n hn l Bs n₀ A c bs hc hb hlen J Jx hY W ((hW.cell (p:=⟨Bs,0,none⟩) hBs).trans hBc) (fun W' hb'=>hr W' ((hW.mono hn₀).trans hb')) h0
def IAll (w:World) (sl:Value) (pre:List (Nat × Nat)) (W:World):Prop:=
 (∃ v,Boxed W w.heap.size 135 v∧W.ownsRow w.heap.size 71 1 v pre.length (u64s (pre.map Prod.fst))∧∀ p∈pre,p.2≠0) ∧
 (Boxed W (w.heap.size+1) 4 (.bool true)∧(Boxed W (w.heap.size+2) 29 sl∧Below w.heap.size w W))
def IxAll (w:World) (c:Code) (pre:List (Nat × Nat)) (W:World):Prop:=
 (c=.exit 0∧∃ p∈pre,p.2=0)∧(Boxed W w.heap.size 135 (.slice none 0 0)∧(Boxed W (w.heap.size+1) 4 (.bool false)∧Below w.heap.size w W))
theorem IAll_own (w:World) (sl:Value) (B:Nat) (hB:w.heap.size≤B):OwnFrom B (IAll w sl):=
 OwnFrom.and (Own.from (holdsRow_own w.heap.size w.heap.size 135 71 1 (fun pre=>List.length pre) (fun pre=>u64s (pre.map Prod.fst)) (fun pre _=>∀ p∈pre,p.2≠0)) _)
  (OwnFrom.and (Own.from (boxed_own _ _ (fun _=>Value.bool true)) _) (OwnFrom.and (Own.from (boxed_own _ _ (fun _=>sl)) _) (ownFrom_below (zW _) hB)))
theorem IxAll_own (w:World) (c:Code) (B:Nat) (hB:w.heap.size≤B):OwnFrom B (IxAll w c):=
 OwnFrom.and (ownFrom_pure _ _) (OwnFrom.and (Own.from (boxed_own _ _ (fun _=>Value.slice none 0 0)) _) (OwnFrom.and (Own.from (boxed_own _ _ (fun _=>Value.bool false)) _) (ownFrom_below (zW _) hB)))
theorem IAll_step {w W w1:World} {sl v v':Value} {pre:List (Nat × Nat)} {x:Nat × Nat} {o:Obj} (hx:x.2≠0)
  (hv:Boxed W w.heap.size 135 v) (hrow:W.ownsRow w.heap.size 71 1 v pre.length (u64s (pre.map Prod.fst))) (hp:∀ p∈pre,p.2≠0) (hT:Boxed W (w.heap.size+1) 4 (.bool true)) (hS:Boxed W (w.heap.size+2) 29 sl) (hB:Below w.heap.size w W)
  (hown':w1.ownsRow w.heap.size 71 1 v' (pre.length+1) (u64s (pre.map Prod.fst)++[.int .u64 (x.1:Int)])) (hgrow:(W.alloc o).grownBy w1 v.ownBlock):
  (Boxed w1 w.heap.size 135 v∧KeepsOthers W (w1.setCell ⟨w.heap.size,0,none⟩ v')∧KpN w.heap.size (w.heap.size+2) W (w1.setCell ⟨w.heap.size,0,none⟩ v')∧IAll w sl (pre++[x]) (w1.setCell ⟨w.heap.size,0,none⟩ v')):=by
 obtain⟨hv1,hv2,hr2,hk2,hb2⟩:=hv.appended (by decide) hrow hB.size (zW _) hown' hgrow
 have hT2:Boxed (w1.setCell ⟨w.heap.size,0,none⟩ v') (w.heap.size+1) 4 (.bool true):=((hT.alloc o).kept hgrow (hT.not_row (by decide) hrow)).other (by omega) _
 have hS2:Boxed (w1.setCell ⟨w.heap.size,0,none⟩ v') (w.heap.size+2) 29 sl:=((hS.alloc o).kept hgrow (hS.not_row (by decide) hrow)).other (by omega) _
 refine⟨hv1,hk2,⟨hb2,(show _=_ from hS2).trans (show _=_ from hS).symm⟩,⟨_,hv2,?_,?_⟩,hT2,hS2,hB.trans hb2⟩
 ·simpa [u64s] using hr2
 ·intro p hp'
  rw[List.mem_append] at hp'
  rcases hp' with h | h
  ·exact hp p h
  ·simp at h;subst h;exact hx
theorem IxAll_step {w W:World} {v:Value} {pre:List (Nat × Nat)} {x:Nat × Nat} (hx:x.2=0)
  (hv:Boxed W w.heap.size 135 v) (hT:Boxed W (w.heap.size+1) 4 (.bool true)) (hB:Below w.heap.size w W):
  KeepsOthers W ((W.setCell ⟨w.heap.size,0,none⟩ (.slice none 0 0)).setCell ⟨w.heap.size+1,0,none⟩ (.bool false))∧IxAll w (.exit 0) (pre++[x]) ((W.setCell ⟨w.heap.size,0,none⟩ (.slice none 0 0)).setCell ⟨w.heap.size+1,0,none⟩ (.bool false)):=by
 refine⟨(KeepsOthers.setCell _ _ _).trans (KeepsOthers.setCell _ _ _),⟨rfl,x,by simp,hx⟩,?_,?_,?_⟩
 ·exact (hv.set _).other (by omega) _
 ·exact (hT.other (by omega) _).set _
 ·exact (hB.setCell (p:=⟨w.heap.size,0,none⟩) (zW _) _).setCell (p:=⟨w.heap.size+1,0,none⟩) (Nat.le_succ _) _
theorem all_in (n:Nat) (hn:3≤n) (A:Option Addr) (c:Nat) (bs:List Nat) (w:World) (hc:bs.length≤c) (hb:∀ x∈bs,x<256) (hlen:bs.length≤1048576) (hr:Rd w A (u8s bs)):
  CallsIn Fence.wide n Tryz.prog 118 #[.slice A bs.length c] w fun e w'=>∃ v,e=.returned (.tuple #[v,.bool (vallL bs).isSome])∧w'.ownsRow w.heap.size 71 1 v ((vallL bs).getD []).length (u64s ((vallL bs).getD []))∧Below w.heap.size w w':=by
 have h1:1≤n:=by omega
 obtain⟨i0,hi,hz0,hz1,hz2⟩:=info_parts info_u64
 refine callsIn_of_wp_marks Tryz.func118 rfl trivial ?_ rfl
 simp only[Tryz.ntmps118,List.size_toArray,List.length_cons,List.length_nil,Nat.reduceAdd,Nat.reduceSub,Array.replicate_succ,Array.replicate_zero,List.push_toArray,List.append_toArray,List.nil_append,List.cons_append]
 gi_wp2
 refine wpIn_wide.2 (wp_scope_straight ((wpIn_wide (n:=n)).1 ?_))
 gi_wp2
 refine wpIn_label ?_
 gi_wp2_with (refine⟨trivial,?_⟩;gi_at_call 153;refine (numbers_in (n - 1) _ _ _ _).mono ?_;rintro e w' ⟨rfl,rfl⟩)
 have bL:=Boxed.new w 135 (.slice none 0 0)
 have bT:=Boxed.new (w.alloc (.cells #[.slice none 0 0] 135)) 4 (.bool true)
 have bS:=Boxed.new ((w.alloc (.cells #[.slice none 0 0] 135)).alloc (.cells #[.bool true] 4)) 29 (.slice A bs.length c)
 rw[World.size_alloc] at bT
 rw[World.size_alloc,World.size_alloc] at bS
 have hB0:Below w.heap.size w (((w.alloc (.cells #[.slice none 0 0] 135)).alloc (.cells #[.bool true] 4)).alloc (.cells #[.slice A bs.length c] 29)):=(((zA _ w).alloc (zW _) _).alloc (by simp) _).alloc (by simp;omega) _
 have hnl:=numL_len bs.length bs (zW _)
 have hna:=numL_all bs.length bs (zW _)
 have Hna:=zZ hna
 clear hna
 refine wpIn_rangeFunc_ownG rfl h1 (gf:=183) (lb:=#[.pointer (some ⟨w.heap.size+1+1,0,none⟩)]) rfl trivial (enters_of Tryz.func183 (by kernel_rfl) rfl)
  (nums_stops (n - 1) (by omega) (w.heap.size+1+1) A c bs hc hb (by omega) _ w.heap.size (by simp) (by simp;omega) bS.cell (fun W' hb'=>hr.below (hB0.trans hb'))) (fun h k=>KpN.trans h k)
  (fun W l o o' hl h h' h''=>⟨belowK_b (w:=w) (zW _) W l o o' (by simp at hl;omega) h h' h'',(grownBy_putObj' W l o').block _ (by have:=(Array.getElem?_eq_some_iff.1 h).1;simp at hl;omega) (by intro e;cases e;simp at hl;omega)⟩)
  (zA _ _) (fun _=>rfl) (IAll w (.slice A bs.length c)) (IxAll w) (IAll_own _ _ _ (by simp;omega)) (fun c=>IxAll_own _ _ _ (by simp;omega))
  ⟨⟨_,(bL.alloc _).alloc _,World.ownsRow_nil _ _ _ _,by simp⟩,bT.alloc _,bS,hB0⟩
  (fun x=>{ tmps:=#[.slice A bs.length c,undef,.slice none 0 0,.bool false,.pointer (some ⟨w.heap.size,0,none⟩),.pointer (some ⟨w.heap.size+1,0,none⟩),.int .u64 (x.1:Int),.int .i64 (x.2:Int),.slice A bs.length c,
   .func (.func 183) #[] #[.pointer (some ⟨w.heap.size+1+1,0,none⟩)],.int .u64 (x.1:Int),.int .i64 (x.2:Int),undef,undef,undef,undef,undef,undef,undef,undef,undef],defers:=[] }) ?assign ?body ?done ?stop
 case assign=>
  intro l x W K hK
  gi_wp2
  exact hK
 case body=>
  rintro l pre x W ⟨⟨v,hv,hrow,hp⟩,hT,hS,hB⟩ hlt
  have hcL:=hv.cell
  have hcT:=hT.cell
  have hfL:=hv.frozen
  have hfT:=hT.frozen
  by_cases hx:x.2=0
  ·have hz:((x.2:Int) == 0)=true:=by rw[hx];rfl
   have Hx:=zZ hx
   clear hx
   gi_wp2
   obtain⟨q1,q2⟩:=IxAll_step (pre:=pre) (x:=x) Hx.out hv hT hB
   exact⟨q1.from _,q2⟩
  ·have hz:((x.2:Int) == 0)=false:=by simp;omega
   gi_wp2_with (gi_at_builtin;refine wpListIn_append_own _ rfl _ _ 135 rfl w.heap.size 71 i0 (.int .u64 0) 1 8 Tryz.underlying135 hi hz0 hz1 hz2 rfl (by decide) _ _ _ rfl (hrow.alloc _) ⟨W.heap.size,0,none⟩ 1 1 [.int .u64 (x.1:Int)] rfl rfl (cell_one_new _ _ _) (by simp[Value.oneCell']) (by simp only[maxLen];omega) (by omega) (by have:=hB.size;simp;omega) ?_;intro v' w1 hown' hgrow _;obtain⟨g',cap',rfl⟩:=ownsRow_succ hown';obtain⟨hv1,hk2,hkp,hI2⟩:=IAll_step hx hv hrow hp hT hS hB hown' hgrow;have hc1:=hv1.cell;have hf1:=hv1.frozen)
   exact⟨hk2.from _,hkp,hI2⟩
 case done=>
  rintro D ys W hD rfl ⟨⟨v,hv,hrow,hp⟩,hT,hS,hB⟩ hK
  have hcL:=hv.cell
  have hcT:=hT.cell
  have hall:=Hna.out.1 hp
  have Hall:=zZ hall
  clear hall
  gi_wp2
  refine wpIn_wide.2 ?_
  go_quiet (fail)
  gi_wp2
  refine⟨by simp,.inl ⟨_,_,rfl,run_takeDeferred hK,?_⟩⟩
  refine⟨_,results_tmp2 rfl _ _ _,v,?_,?_,(below_drewN hB nq).trans (belowK_b (w:=w) (zW _) (W.drewN nq) D _ _ (by simp at hD;omega) hK rfl rfl)⟩
  ·rw[Hall.out];rfl
  ·rw[Hall.out]
   have:=ownsRow_putObj (W:=W.drewN nq) hrow (.deferred none) hK rfl
   simpa using this
 case stop=>
  rintro D c' pre W hD hpre ⟨⟨rfl,p,hp,hp0⟩,hv,hT,hB⟩ hK
  have hcL:=hv.cell
  have hcT:=hT.cell
  have hall:=Hna.out.2 ⟨p,hpre.subset hp,hp0⟩
  have Hall:=zZ hall
  clear hall
  gi_wp2
  refine wpIn_wide.2 ?_
  go_quiet (fail)
  gi_wp2
  refine⟨by simp,.inl ⟨_,_,rfl,run_takeDeferred hK,?_⟩⟩
  refine⟨_,results_tmp2 rfl _ _ _,.slice none 0 0,?_,?_,(below_drewN hB nq).trans (belowK_b (w:=w) (zW _) (W.drewN nq) D _ _ (by simp at hD;omega) hK rfl rfl)⟩
  ·rw[Hall.out];rfl
  ·rw[Hall.out]
   exact World.ownsRow_nil _ _ _ _
theorem vall_any (A:Option Addr) (c:Nat) (bs:List Nat) (w:World) (hc:bs.length≤c) (hb:∀ x∈bs,x<256) (hlen:bs.length≤1048576) (hr:Rd w A (u8s bs)):
  Calls Tryz.prog 118 #[.slice A bs.length c] w fun e w'=>∃ v,e=.returned (.tuple #[v,.bool (vallL bs).isSome])∧w'.ownsRow w.heap.size 71 1 v ((vallL bs).getD []).length (u64s ((vallL bs).getD []))∧Below w.heap.size w w':=
 callsIn_wide.1 (all_in 3 (zW _) A c bs w hc hb hlen hr)
end Go.Proofs.YtdlkmjfbmenedaaGreatDoor
namespace Go.Proofs.YtdlkmjfbmenedaaGreatDoor
open Go.RowKit
theorem own_step {B:Nat} {w wr w1:World} {v v':Value} {pre:List Nat} {x:Nat} {o:Obj} (hnx:Below B w wr) (hown:wr.ownsRow B 5 1 v pre.length (u8s pre)) (hle:B≤wr.heap.size)
  (hown':w1.ownsRow B 5 1 v' (pre.length+1) (u8s pre++[.int .u8 (x:Int)])) (hg:(wr.alloc o).grownBy w1 v.ownBlock):
  w1.ownsRow B 5 1 v' (pre++[x]).length (u8s (pre++[x]))∧Below B w w1:=by
 constructor
 ·rw[u8s_append];simpa [u8s] using hown'
 ·exact (hnx.alloc hle o).grown hg (by simp;omega) (fun k hk=>(hown.lt k hk).1)
theorem vput_any (N:Nat) (w:World) (hN:N<18446744073709551616):
  Calls Tryz.prog 63 #[.int .u64 (N:Int)] w fun e w'=>∃ v,e=.returned v∧w'.ownsRow w.heap.size 5 1 v (vputL N).length (u8s (vputL N))∧Below w.heap.size w w':=by
 obtain⟨i0,hi,hz0,hz1,hz2⟩:=info_parts info_u8
 have hmk:∀ w,(Instr.makeSlice 29 (.int .i64 0) (.int .i64 10)).run Tryz.prog w=.ok (.slice (some ⟨w.heap.size,0,none⟩) 0 10) (w.alloc (.cells #[.int .u8 0,.int .u8 0,.int .u8 0,.int .u8 0,.int .u8 0,.int .u8 0,.int .u8 0,.int .u8 0,.int .u8 0,.int .u8 0] 5)):=fun _=>by kernel_rfl
 have hl10:=putL_len10 N hN
 go_enter Tryz.func63,Tryz.ntmps63
 go_wp2
 go_loopw [0,3] (fun n v wr=>∃ (m:Nat) (pre:List Nat),n=.int .u64 (m:Int)∧m<18446744073709551616∧vputL N=pre++vputL m∧wr.ownsRow w.heap.size 5 1 v pre.length (u8s pre)∧Below w.heap.size w wr)
  (fun n _ _=>(intOf n).toNat)
 case atStart=>exact⟨N,[],rfl,hN,rfl,World.ownsRow_made _ _ 10 (zW _) (by simp[maxLen]) rfl,(zA _ _).alloc (zW _) _⟩
 case round=>
  obtain⟨m,pre,rfl,hm,hp,hown,hnx⟩:=hrel
  have hsz:=hnx.size
  have hpl:pre.length+(vputL m).length≤10:=by rw[← List.length_append,← hp];exact hl10
  by_cases h:m<128
  ·rw[putL_small h] at hp hpl
   have Hp:=zZ hp
   simp at hpl
   clear hp
   go_wp2_with (at_builtin;refine wpList_append_own _ rfl _ _ 29 rfl w.heap.size 5 i0 (.int .u8 0) 1 1 Tryz.underlying29 hi hz0 hz1 hz2 rfl (by decide) _ _ _ rfl (hown.alloc _) ⟨wr.heap.size,0,none⟩ 1 1 [.int .u8 (m:Int)] rfl rfl (cell_one_new _ _ _) (by simp[Value.oneCell']) (by simp only[maxLen];omega) (by omega) (by simp;omega) ?_;intro v' w1 hown' hgrow _)
   have R:=own_step hnx hown hsz hown' hgrow
   go_ret
   exact⟨_,rfl,by rw[Hp.out];exact R.1,R.2⟩
  ·rw[putL_big h] at hp hpl
   have Hp:=zZ hp
   simp at hpl
   clear hp
   go_wp2_with (at_builtin;refine wpList_append_own _ rfl _ _ 29 rfl w.heap.size 5 i0 (.int .u8 0) 1 1 Tryz.underlying29 hi hz0 hz1 hz2 rfl (by decide) _ _ _ rfl (hown.alloc _) ⟨wr.heap.size,0,none⟩ 1 1 [.int .u8 ((m % 128+128:Nat):Int)] rfl rfl (cell_one_new _ _ _) (by simp[Value.oneCell']) (by simp only[maxLen];omega) (by omega) (by simp;omega) ?_;intro v' w1 hown' hgrow _)
   have R:=own_step hnx hown hsz hown' hgrow
   refine⟨⟨m / 128,pre++[m % 128+128],by go_num,by omega,by rw[Hp.out];simp,R.1,R.2⟩,?_⟩
   simp[intOf];omega
theorem vrput_any (N:Nat) (w:World) (hN:N<18446744073709551616):
  Calls Tryz.prog 30 #[.int .u64 (N:Int)] w fun e w'=>∃ v,e=.returned v∧w'.ownsRow w.heap.size 5 1 v (vputL N).length (u8s (vputL N))∧Below w.heap.size w w':=by
 obtain⟨i0,hi,hz0,hz1,hz2⟩:=info_parts info_u8
 have hl10:=putL_len10 N hN
 go_enter Tryz.func30,Tryz.ntmps30
 go_wp2
 go_loopw [0,3] (fun n v wr=>∃ (m:Nat) (pre:List Nat),n=.int .u64 (m:Int)∧m<18446744073709551616∧vputL N=pre++vputL m∧wr.ownsRow w.heap.size 5 1 v pre.length (u8s pre)∧Below w.heap.size w wr)
  (fun n _ _=>(intOf n).toNat)
 case atStart=>exact⟨N,[],rfl,hN,rfl,World.ownsRow_nil _ _ _ _,zA _ _⟩
 case round=>
  obtain⟨m,pre,rfl,hm,hp,hown,hnx⟩:=hrel
  have hsz:=hnx.size
  have hpl:pre.length+(vputL m).length≤10:=by rw[← List.length_append,← hp];exact hl10
  by_cases h:m<128
  ·rw[putL_small h] at hp hpl
   have Hp:=zZ hp
   simp at hpl
   clear hp
   go_wp2_with (at_builtin;refine wpList_append_own _ rfl _ _ 29 rfl w.heap.size 5 i0 (.int .u8 0) 1 1 Tryz.underlying29 hi hz0 hz1 hz2 rfl (by decide) _ _ _ rfl (hown.alloc _) ⟨wr.heap.size,0,none⟩ 1 1 [.int .u8 (m:Int)] rfl rfl (cell_one_new _ _ _) (by simp[Value.oneCell']) (by simp only[maxLen];omega) (by omega) (by simp;omega) ?_;intro v' w1 hown' hgrow _)
   have R:=own_step hnx hown hsz hown' hgrow
   go_ret
   exact⟨_,rfl,by rw[Hp.out];exact R.1,R.2⟩
  ·rw[putL_big h] at hp hpl
   have Hp:=zZ hp
   simp at hpl
   clear hp
   go_wp2_with (at_builtin;refine wpList_append_own _ rfl _ _ 29 rfl w.heap.size 5 i0 (.int .u8 0) 1 1 Tryz.underlying29 hi hz0 hz1 hz2 rfl (by decide) _ _ _ rfl (hown.alloc _) ⟨wr.heap.size,0,none⟩ 1 1 [.int .u8 ((m % 128+128:Nat):Int)] rfl rfl (cell_one_new _ _ _) (by simp[Value.oneCell']) (by simp only[maxLen];omega) (by omega) (by simp;omega) ?_;intro v' w1 hown' hgrow _)
   have R:=own_step hnx hown hsz hown' hgrow
   refine⟨⟨m / 128,pre++[m % 128+128],by go_num,by omega,by rw[Hp.out];simp,R.1,R.2⟩,?_⟩
   simp[intOf];omega
theorem zig_any (n:Int) (w:World) (h0:-9223372036854775808≤n) (h1:n≤9223372036854775807):
  Calls Tryz.prog 143 #[.int .i64 n] w fun e w'=>e=.returned (.int .u64 (zigV n))∧w=w':=by
 by_cases h:0≤n
 ·go_enter Tryz.func143,Tryz.ntmps143
  go_wp2
  go_ret
  exact⟨ret_int (by rw[zigV,if_pos h]),rfl⟩
 ·go_enter Tryz.func143,Tryz.ntmps143
  go_wp2
  go_ret
  exact⟨ret_int (by rw[zigV,if_neg (by omega)]),rfl⟩
theorem zag_any (n:Int) (w:World) (h0:0≤n) (h1:n≤18446744073709551615):
  Calls Tryz.prog 185 #[.int .u64 n] w fun e w'=>e=.returned (.int .i64 (zagV n))∧w=w':=by
 by_cases h:n % 2=0
 ·go_enter Tryz.func185,Tryz.ntmps185
  go_wp2
  go_ret
  exact⟨ret_int (by rw[zagV,if_pos h]),rfl⟩
 ·go_enter Tryz.func185,Tryz.ntmps185
  go_wp2
  go_ret
  exact⟨ret_int (by rw[zagV,if_neg h]),rfl⟩
theorem rzig_any (n:Int) (w:World) (h0:-9223372036854775808≤n) (h1:n≤9223372036854775807):
  Calls Tryz.prog 80 #[.int .i64 n] w fun e w'=>e=.returned (.int .u64 (zigV n))∧w=w':=by
 by_cases h:0≤n
 ·go_enter Tryz.func80,Tryz.ntmps80
  go_wp2
  go_ret
  exact⟨ret_int (by rw[zigV,if_pos h]),rfl⟩
 ·go_enter Tryz.func80,Tryz.ntmps80
  go_wp2
  go_ret
  exact⟨ret_int (by rw[zigV,if_neg (by omega)]),rfl⟩
theorem rzag_any (n:Int) (w:World) (h0:0≤n) (h1:n≤18446744073709551615):
  Calls Tryz.prog 122 #[.int .u64 n] w fun e w'=>e=.returned (.int .i64 (zagV n))∧w=w':=by
 by_cases h:n % 2=0
 ·go_enter Tryz.func122,Tryz.ntmps122
  go_wp2
  go_ret
  exact⟨ret_int (by rw[zagV,if_pos h]),rfl⟩
 ·go_enter Tryz.func122,Tryz.ntmps122
  go_wp2
  go_ret
  exact⟨ret_int (by rw[zagV,if_neg h]),rfl⟩
end Go.Proofs.YtdlkmjfbmenedaaGreatDoor
