/- The contract of the laws' Two, and what the plain functions tell of it. No condition. -/
import Derived.Test.YtnljjnkindjeoaaGreatDoorGCanon
import Derived.Test.YtnljjnkindjeoaaGreatDoorAl
set_option maxRecDepth 100000
set_option maxHeartbeats 1000000
namespace Go.Proofs.YtnljjnkindjeoaaGreatDoor
open Go.RowKit
def twoG:Gr:=(oneS,[(0,0,[(7,[],0),(0,[],-1)]),(5,0,[(8,[],0),(0,[],0)])],[0])
theorem two_may:mayG twoG=true:=by
 rw[mayG,show twoG.1=oneS from rfl,one_may]
 decide
def twoV1:List Value:=[.int .i64 7,.string ⟨#[]⟩,.int .i64 0,.int .i64 0,.string ⟨#[]⟩,.int .i64 (-1)]
def twoV2:List Value:=[.int .i64 8,.string ⟨#[]⟩,.int .i64 0,.int .i64 0,.string ⟨#[]⟩,.int .i64 0]
theorem two_any (w:World):Calls Tryz.prog 14 #[] w fun e w'=>∃ A c B C,e=.returned (.agg #[.slice A 1 c,.slice B 2 2,.slice C 1 1])∧rGr (All w') w' [.slice A 1 c,.slice B 2 2,.slice C 1 1] twoG∧Below w.heap.size w w':=by
 have p0:=Blk.new w 28 [.slice none 0 0,.slice none 0 0,.slice none 0 0]
 have hB0:Below w.heap.size w (w.alloc (.cells #[.slice none 0 0,.slice none 0 0,.slice none 0 0] 28)):=(zA _ w).alloc (zW _) _
 have s0:(w.alloc (.cells #[.slice none 0 0,.slice none 0 0,.slice none 0 0] 28)).heap.size=w.heap.size+1:=by simp
 go_enter Tryz.func14,Tryz.ntmps14
 go_wp2_with fail
 refine (sone_own _).mono ?_
 rintro e w1 ⟨A,c,rfl,hs,hB1⟩
 replace p0:=p0.to hB1
 have hz:=hB1.size
 rw[s0] at hz
 obtain⟨q1,q2,q3,q4⟩:=four_boxes w1 (.cells twoV1.toArray 47) (.cells twoV2.toArray 47) (.cells #[.int .i64 0,.int .i64 0,.slice (some ⟨w1.heap.size,0,none⟩) 2 2,.int .i64 5,.int .i64 0,.slice (some ⟨w1.heap.size+1,0,none⟩) 2 2] 53) (.cells #[.int .i64 0] 3)
 have hB4:Below w1.heap.size w1 ((((w1.alloc (.cells twoV1.toArray 47)).alloc (.cells twoV2.toArray 47)).alloc (.cells #[.int .i64 0,.int .i64 0,.slice (some ⟨w1.heap.size,0,none⟩) 2 2,.int .i64 5,.int .i64 0,.slice (some ⟨w1.heap.size+1,0,none⟩) 2 2] 53)).alloc (.cells #[.int .i64 0] 3)):=
  ((((zA w1.heap.size w1).alloc (zW _) _).alloc (by simp) _).alloc (by simp;omega) _).alloc (by simp;omega) _
 have p4:=p0.to hB4
 have y0:=p4.cell (j:=0) rfl
 have y1:=p4.cell (j:=1) rfl
 have y2:=p4.cell (j:=2) rfl
 have g0:=p4.frozen 0
 have g1:=p4.frozen 1
 have g2:=p4.frozen 2
 have s5:((((w1.alloc (.cells twoV1.toArray 47)).alloc (.cells twoV2.toArray 47)).alloc (.cells #[.int .i64 0,.int .i64 0,.slice (some ⟨w1.heap.size,0,none⟩) 2 2,.int .i64 5,.int .i64 0,.slice (some ⟨w1.heap.size+1,0,none⟩) 2 2] 53)).alloc (.cells #[.int .i64 0] 3)).heap.size=w1.heap.size+4:=by simp
 unfold twoV1 twoV2 at *
 go_wp2
 generalize ((((w1.alloc (.cells #[.int .i64 7,.string ⟨#[]⟩,.int .i64 0,.int .i64 0,.string ⟨#[]⟩,.int .i64 (-1)] 47)).alloc (.cells #[.int .i64 8,.string ⟨#[]⟩,.int .i64 0,.int .i64 0,.string ⟨#[]⟩,.int .i64 0] 47)).alloc (.cells #[.int .i64 0,.int .i64 0,.slice (some ⟨w1.heap.size,0,none⟩) 2 2,.int .i64 5,.int .i64 0,.slice (some ⟨w1.heap.size+1,0,none⟩) 2 2] 53)).alloc (.cells #[.int .i64 0] 3))=w5 at *
 have P9:=((p4.set 0 (.slice A 1 c)).set 1 (.slice (some ⟨w1.heap.size+2,0,none⟩) 2 2)).set 2 (.slice (some ⟨w1.heap.size+3,0,none⟩) 1 1)
 refine ret_cell0 (d:=.struct _) (cs:=[.slice A 1 c,.slice (some ⟨w1.heap.size+2,0,none⟩) 2 2,.slice (some ⟨w1.heap.size+3,0,none⟩) 1 1]) rfl P9 rfl rfl rfl rfl rfl ?_
 have hk:∀ b,b≠w.heap.size→(((w5.setCell ⟨w.heap.size,0,none⟩ (.slice A 1 c)).setCell ⟨w.heap.size,1,none⟩ (.slice (some ⟨w1.heap.size+2,0,none⟩) 2 2)).setCell ⟨w.heap.size,2,none⟩ (.slice (some ⟨w1.heap.size+3,0,none⟩) 1 1)).heap[b]?=w5.heap[b]?:=fun b n=>by
  rw[Below.heap_setCell _ _ _ _ n,Below.heap_setCell _ _ _ _ n,Below.heap_setCell _ _ _ _ n]
 have hB5:=hB0.trans ((hB1.trans (hB4.mono hB1.size)).mono hB0.size)
 have hsz:(((w5.setCell ⟨w.heap.size,0,none⟩ (.slice A 1 c)).setCell ⟨w.heap.size,1,none⟩ (.slice (some ⟨w1.heap.size+2,0,none⟩) 2 2)).setCell ⟨w.heap.size,2,none⟩ (.slice (some ⟨w1.heap.size+3,0,none⟩) 1 1)).heap.size=w1.heap.size+4:=by simpa using s5
 refine⟨A,c,some ⟨w1.heap.size+2,0,none⟩,some ⟨w1.heap.size+3,0,none⟩,rfl,?_,((hB5.setCell (p:=⟨w.heap.size,0,none⟩) (zW _) _).setCell (p:=⟨w.heap.size,1,none⟩) (zW _) _).setCell (p:=⟨w.heap.size,2,none⟩) (zW _) _⟩
 generalize ((w5.setCell ⟨w.heap.size,0,none⟩ (.slice A 1 c)).setCell ⟨w.heap.size,1,none⟩ (.slice (some ⟨w1.heap.size+2,0,none⟩) 2 2)).setCell ⟨w.heap.size,2,none⟩ (.slice (some ⟨w1.heap.size+3,0,none⟩) 1 1)=W at *
 have z1:Blk W w1.heap.size 47 [.int .i64 7,.string ⟨#[]⟩,.int .i64 0,.int .i64 0,.string ⟨#[]⟩,.int .i64 (-1)]:=(hk _ (by omega)).trans q1
 have z2:Blk W (w1.heap.size+1) 47 [.int .i64 8,.string ⟨#[]⟩,.int .i64 0,.int .i64 0,.string ⟨#[]⟩,.int .i64 0]:=(hk _ (by omega)).trans q2
 have z3:Blk W (w1.heap.size+2) 53 [.int .i64 0,.int .i64 0,.slice (some ⟨w1.heap.size,0,none⟩) 2 2,.int .i64 5,.int .i64 0,.slice (some ⟨w1.heap.size+1,0,none⟩) 2 2]:=(hk _ (by omega)).trans q3
 have z4:Blk W (w1.heap.size+3) 3 [.int .i64 0]:=(hk _ (by omega)).trans q4
 refine rGr_mk (rSch_stays.to (fun b hb=>⟨by show b<_;omega,by rw[hk b (by omega),hB4.block b hb.2]⟩) hs) ?_ ?_
 ·refine blk_slice (l:=[(0,0,[(7,[],0),(0,[],-1)]),(5,0,[(8,[],0),(0,[],0)])]) z3 ?_ (by show _<_;omega) (by decide)
  have c1:Chunks 3 (rVal (All W) W) [.int .i64 7,.string ⟨#[]⟩,.int .i64 0,.int .i64 0,.string ⟨#[]⟩,.int .i64 (-1)] ([(7,[],0),(0,[],-1)]:List Vl):=
   (Chunks.one (size:=3) (cs:=[.int .i64 7,.string ⟨#[]⟩,.int .i64 0]) (a:=((7,[],0):Vl)) rfl (rVal_mk (v:=((7,[],0):Vl)) rfl (Nat.zero_le _) (by decide) (by decide))).append (Chunks.one (size:=3) (cs:=[.int .i64 0,.string ⟨#[]⟩,.int .i64 (-1)]) (a:=((0,[],-1):Vl)) rfl (rVal_mk (v:=((0,[],-1):Vl)) rfl (Nat.zero_le _) (by decide) (by decide)))
  have c2:Chunks 3 (rVal (All W) W) [.int .i64 8,.string ⟨#[]⟩,.int .i64 0,.int .i64 0,.string ⟨#[]⟩,.int .i64 0] ([(8,[],0),(0,[],0)]:List Vl):=
   (Chunks.one (size:=3) (cs:=[.int .i64 8,.string ⟨#[]⟩,.int .i64 0]) (a:=((8,[],0):Vl)) rfl (rVal_mk (v:=((8,[],0):Vl)) rfl (Nat.zero_le _) (by decide) (by decide))).append (Chunks.one (size:=3) (cs:=[.int .i64 0,.string ⟨#[]⟩,.int .i64 0]) (a:=((0,[],0):Vl)) rfl (rVal_mk (v:=((0,[],0):Vl)) rfl (Nat.zero_le _) (by decide) (by decide)))
  have v1:rVals (All W) W [.slice (some ⟨w1.heap.size,0,none⟩) 2 2] [(7,[],0),(0,[],-1)]:=blk_slice z1 c1 (by show w1.heap.size<_;omega) (by decide)
  have v2:rVals (All W) W [.slice (some ⟨w1.heap.size+1,0,none⟩) 2 2] [(8,[],0),(0,[],0)]:=blk_slice z2 c2 (by show w1.heap.size+1<_;omega) (by decide)
  have k1:rOb (All W) W [.int .i64 0,.int .i64 0,.slice (some ⟨w1.heap.size,0,none⟩) 2 2] (0,0,[(7,[],0),(0,[],-1)]):=rOb_mk (o:=(0,0,[(7,[],0),(0,[],-1)])) (by decide) (by decide) v1
  have k2:rOb (All W) W [.int .i64 5,.int .i64 0,.slice (some ⟨w1.heap.size+1,0,none⟩) 2 2] (5,0,[(8,[],0),(0,[],0)]):=rOb_mk (o:=(5,0,[(8,[],0),(0,[],0)])) (by decide) (by decide) v2
  exact (Chunks.one rfl k1).append (Chunks.one rfl k2)
 ·exact blk_slice (l:=[0]) z4 (Chunks.one rfl ⟨rfl,by decide⟩) (by show _<_;omega) (by decide)
end Go.Proofs.YtnljjnkindjeoaaGreatDoor
