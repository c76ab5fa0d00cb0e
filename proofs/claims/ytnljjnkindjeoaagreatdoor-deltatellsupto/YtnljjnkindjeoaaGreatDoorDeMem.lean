/- Deltas in memory: the cells of what is set, of an item, of a delta; what stands at a place. No condition. -/
import Derived.Test.YtnljjnkindjeoaaGreatDoorGGraph
import Derived.Test.YtnljjnkindjeoaaGreatDoorDePlain
import Derived.Test.YtnljjnkindjeoaaGreatDoorAl
namespace Go.Proofs.YtnljjnkindjeoaaGreatDoor
open Go.RowKit
abbrev rCel:Reader Cel:=rBoth 1 (rInt .i64) rVal
abbrev rCels:Reader (List Cel):=rSlice 4 rCel
abbrev rItm:Reader Itm:=rBoth 1 (rInt .i64) (rBoth 1 (rInt .i64) rCels)
abbrev rItms:Reader (List Itm):=rSlice 3 rItm
abbrev rDlt:Reader Dlt:=rBoth 1 (rInt .u32) (rBoth 1 rIds rItms)
theorem rCel_stays:Stays rCel:=rBoth_stays (rInt_stays _) rVal_stays
theorem rCels_stays:Stays rCels:=rSlice_stays rCel_stays
theorem rItm_stays:Stays rItm:=rBoth_stays (rInt_stays _) (rBoth_stays (rInt_stays _) rCels_stays)
theorem rItms_stays:Stays rItms:=rSlice_stays rItm_stays
theorem rDlt_stays:Stays rDlt:=rBoth_stays (rInt_stays _) (rBoth_stays rIds_stays rItms_stays)
section
variable {S : Nat → Prop} {w : World} {cs : List Value}
theorem rCel_open {x:Cel} (h:rCel S w cs x):∃ s:ByteArray,cs=[.int .i64 x.1,.int .i64 x.2.1,.string s,.int .i64 x.2.2.2]∧byt s=x.2.2.1∧s.size≤maxLen∧(-9223372036854775808≤x.1∧x.1≤9223372036854775807)∧(-9223372036854775808≤x.2.1∧x.2.1≤9223372036854775807)∧(-9223372036854775808≤x.2.2.2∧x.2.2.2≤9223372036854775807):=by
 obtain⟨_,⟨h1,h2⟩,h3⟩:=h
 obtain⟨s,h4,h5,h6,h7,h8⟩:=rVal_open h3
 refine⟨s,?_,h5,h6,bounds_i64 h2,h7,h8⟩
 rw[← List.take_append_drop 1 cs,h1,h4]
 rfl
theorem rCel_mk {x:Cel} {s:ByteArray} (h0:(Lit.int .i64 x.1).wf=true) (h1:byt s=x.2.2.1) (h2:s.size≤maxLen) (h3:(Lit.int .i64 x.2.1).wf=true) (h4:(Lit.int .i64 x.2.2.2).wf=true):rCel S w [.int .i64 x.1,.int .i64 x.2.1,.string s,.int .i64 x.2.2.2] x:=
 ⟨rfl,⟨rfl,h0⟩,rVal_mk h1 h2 h3 h4⟩
theorem rItm_open {x:Itm} (h:rItm S w cs x):∃ A c,cs=[.int .i64 x.1,.int .i64 x.2.1,.slice A x.2.2.length c]∧rCels S w [.slice A x.2.2.length c] x.2.2∧(-9223372036854775808≤x.1∧x.1≤9223372036854775807)∧(-9223372036854775808≤x.2.1∧x.2.1≤9223372036854775807):=by
 obtain⟨_,⟨h1,h2⟩,_,⟨h3,h4⟩,h5⟩:=h
 obtain⟨A,c,h6,h7⟩:=slice_form h5
 refine⟨A,c,?_,h7,bounds_i64 h2,bounds_i64 h4⟩
 rw[← List.take_append_drop 1 cs,h1,← List.take_append_drop 1 (cs.drop 1),h3,h6]
 rfl
theorem rItm_mk {x:Itm} {A:Option Addr} {n c:Nat} (h1:(Lit.int .i64 x.1).wf=true) (h2:(Lit.int .i64 x.2.1).wf=true) (h3:rCels S w [.slice A n c] x.2.2):rItm S w [.int .i64 x.1,.int .i64 x.2.1,.slice A n c] x:=
 ⟨rfl,⟨rfl,h1⟩,rfl,⟨rfl,h2⟩,h3⟩
theorem cel_at {A0:Option Addr} {n c:Nat} {l:List Cel} {i:Nat} {x:Cel} (h:rCels S w [.slice A0 n c] l) (hi:l[i]?=some x):
  ∃ b off s,A0=some ⟨b,off,none⟩∧S b∧w.cell? ⟨b,off+i * 4,none⟩=some (.int .i64 x.1)∧w.cell? ⟨b,off+i * 4+1,none⟩=some (.int .i64 x.2.1)∧w.cell? ⟨b,off+i * 4+2,none⟩=some (.string s)∧w.cell? ⟨b,off+i * 4+3,none⟩=some (.int .i64 x.2.2.2) ∧
   byt s=x.2.2.1∧s.size≤maxLen∧(-9223372036854775808≤x.1∧x.1≤9223372036854775807)∧(-9223372036854775808≤x.2.1∧x.2.1≤9223372036854775807)∧(-9223372036854775808≤x.2.2.2∧x.2.2.2≤9223372036854775807):=by
 obtain⟨b,off,cs,hA,hb,hR,hl,hc⟩:=slice_at h hi (by omega)
 obtain⟨s,rfl,h1,h2,h3,h4,h5⟩:=rCel_open hR
 exact⟨b,off,s,hA,hb,hc 0 _ rfl,hc 1 _ rfl,hc 2 _ rfl,hc 3 _ rfl,h1,h2,h3,h4,h5⟩
theorem itm_at {A0:Option Addr} {n c:Nat} {l:List Itm} {i:Nat} {x:Itm} (h:rItms S w [.slice A0 n c] l) (hi:l[i]?=some x):
  ∃ b off A c',A0=some ⟨b,off,none⟩∧S b∧w.cell? ⟨b,off+i * 3,none⟩=some (.int .i64 x.1)∧w.cell? ⟨b,off+i * 3+1,none⟩=some (.int .i64 x.2.1)∧w.cell? ⟨b,off+i * 3+2,none⟩=some (.slice A x.2.2.length c') ∧
   rCels S w [.slice A x.2.2.length c'] x.2.2∧(-9223372036854775808≤x.1∧x.1≤9223372036854775807)∧(-9223372036854775808≤x.2.1∧x.2.1≤9223372036854775807):=by
 obtain⟨b,off,cs,hA,hb,hR,hl,hc⟩:=slice_at h hi (by omega)
 obtain⟨A,c',rfl,h1,h2,h3⟩:=rItm_open hR
 exact⟨b,off,A,c',hA,hb,hc 0 _ rfl,hc 1 _ rfl,hc 2 _ rfl,h1,h2,h3⟩
theorem rDlt_open {B C:Option Addr} {u:Int} {M d K e:Nat} {x:Dlt} (h:rDlt S w [.int .u32 u,.slice B M d,.slice C K e] x):u=x.1∧(0≤x.1∧x.1≤4294967295)∧rIds S w [.slice B M d] x.2.1∧rItms S w [.slice C K e] x.2.2:=by
 obtain⟨_,⟨h0,h1⟩,_,h2,h3⟩:=h
 simp only[List.take_succ_cons,List.take_zero,List.cons.injEq,Value.int.injEq,true_and,and_true] at h0
 exact⟨h0,bounds_u32 h1,h2,h3⟩
theorem rDlt_mk {B C:Option Addr} {M d K e:Nat} {x:Dlt} (h0:(Lit.int .u32 x.1).wf=true) (h1:rIds S w [.slice B M d] x.2.1) (h2:rItms S w [.slice C K e] x.2.2):rDlt S w [.int .u32 x.1,.slice B M d,.slice C K e] x:=⟨rfl,⟨rfl,h0⟩,rfl,h1,h2⟩
end
theorem dlt_below {w w':World} {cs:List Value} {g:Dlt} (hB:Below w.heap.size w w') (h:rDlt (All w) w cs g):rDlt (All w') w' cs g:=rDlt_stays.to (Keeps.below hB) h
theorem itms_below {w w':World} {cs:List Value} {g:List Itm} (hB:Below w.heap.size w w') (h:rItms (All w) w cs g):rItms (All w') w' cs g:=rItms_stays.to (Keeps.below hB) h
theorem cels_below {w w':World} {cs:List Value} {g:List Cel} (hB:Below w.heap.size w w') (h:rCels (All w) w cs g):rCels (All w') w' cs g:=rCels_stays.to (Keeps.below hB) h
theorem dlt_arg {w:World} {cs:Array Value} {g:Dlt} (h:rDlt (All w) w cs.toList g):∃ B d C e,cs=#[.int .u32 g.1,.slice B g.2.1.length d,.slice C g.2.2.length e]∧rDlt (All w) w [.int .u32 g.1,.slice B g.2.1.length d,.slice C g.2.2.length e] g:=by
 obtain⟨_,⟨h0,h1⟩,_,h2,h3⟩:=h
 obtain⟨B,d,e2,h2⟩:=slice_form h2
 obtain⟨C,e,e3,h3⟩:=slice_form h3
 refine⟨B,d,C,e,?_,rDlt_mk h1 h2 h3⟩
 have:cs.toList=[.int .u32 g.1,.slice B g.2.1.length d,.slice C g.2.2.length e]:=by
  rw[← List.take_append_drop 1 cs.toList,h0,← List.take_append_drop 1 (cs.toList.drop 1),e2,e3];rfl
 cases cs
 simpa using this
end Go.Proofs.YtnljjnkindjeoaaGreatDoor
