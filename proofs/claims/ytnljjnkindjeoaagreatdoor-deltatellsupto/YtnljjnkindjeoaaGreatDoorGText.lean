/- The texts ScText, ScCut, ScReadF, ScReadFs, ScReadT, ScRead in one (as far as the seat has what they speak of); what each proves, and its conditions, stands before it. -/
import Derived.Test.YtnljjnkindjeoaaGreatDoorGGraph
import Derived.BigQuiet
import Derived.Test.YtnljjnkindjeoaaGreatDoorGBytes
import Derived.OwnWalk
import Derived.Test.YtnljjnkindjeoaaGreatDoorGGen
import Derived.Test.YtnljjnkindjeoaaGreatDoorAl
set_option maxRecDepth 100000
set_option maxHeartbeats 2000000
namespace Go.Proofs.YtnljjnkindjeoaaGreatDoor
open Go.RowKit
def kts:List Value:=[.string ⟨#[105,56]⟩,.string ⟨#[105,49,54]⟩,.string ⟨#[105,51,50]⟩,.string ⟨#[105,54,52]⟩,.string ⟨#[116]⟩,.string ⟨#[42]⟩]
def Kt (w:World):Prop:=∃ t,Blk w 0 t kts
theorem Kt.below {w w':World} (h:Kt w) (hB:Below w.heap.size w w'):Kt w':=h.elim fun t b=>⟨t,b.to hB⟩
theorem fieldText_any (x y:ByteArray) (k:Nat) (w:World) (hK:Kt w) (hk:k<6) (hx:x.size≤16) (hy:y.size≤16):
  Calls Tryz.prog 160 #[.agg #[.string x,.int .i64 (k:Int),.string y]] w fun e w'=>∃ t,e=.returned (.string t)∧byt t=byt x++58 :: (kindT (k:Int)++byt y)∧Below w.heap.size w w':=by
 have hB:∀ u,Below w.heap.size w (w.alloc (.cells u 97)):=fun u=>(zA _ w).alloc (zW _) _
 have hK1:∀ u,Kt (w.alloc (.cells u 97)):=fun u=>hK.below (hB u)
 have hc:∀ u j v,kts[j]?=some v→(w.alloc (.cells u 97)).cell? ⟨0,j,none⟩=some v:=fun u j v hv=>(hK1 u).elim fun t b=>b.cell hv
 have h6:k=0∨k=1∨k=2∨k=3∨k=4∨k=5:=by omega
 rcases h6 with rfl | rfl | rfl | rfl | rfl | rfl
 ·have hc':=fun u=>hc u 0 _ rfl
  clear hc hK1 hK
  go_enter Tryz.func160,Tryz.ntmps160
  go_wp2
  go_quiet (fail)
  go_wp2
  go_ret
  refine⟨_,rfl,?_,below_drewN (hB _) _⟩
  rw[byt_append,byt_append,byt_append,List.append_assoc,List.append_assoc]
  rfl
 ·have hc':=fun u=>hc u 1 _ rfl
  clear hc hK1 hK
  go_enter Tryz.func160,Tryz.ntmps160
  go_wp2
  go_quiet (fail)
  go_wp2
  go_ret
  refine⟨_,rfl,?_,below_drewN (hB _) _⟩
  rw[byt_append,byt_append,byt_append,List.append_assoc,List.append_assoc]
  rfl
 ·have hc':=fun u=>hc u 2 _ rfl
  clear hc hK1 hK
  go_enter Tryz.func160,Tryz.ntmps160
  go_wp2
  go_quiet (fail)
  go_wp2
  go_ret
  refine⟨_,rfl,?_,below_drewN (hB _) _⟩
  rw[byt_append,byt_append,byt_append,List.append_assoc,List.append_assoc]
  rfl
 ·have hc':=fun u=>hc u 3 _ rfl
  clear hc hK1 hK
  go_enter Tryz.func160,Tryz.ntmps160
  go_wp2
  go_quiet (fail)
  go_wp2
  go_ret
  refine⟨_,rfl,?_,below_drewN (hB _) _⟩
  rw[byt_append,byt_append,byt_append,List.append_assoc,List.append_assoc]
  rfl
 ·have hc':=fun u=>hc u 4 _ rfl
  clear hc hK1 hK
  go_enter Tryz.func160,Tryz.ntmps160
  go_wp2
  go_quiet (fail)
  go_wp2
  go_ret
  refine⟨_,rfl,?_,below_drewN (hB _) _⟩
  rw[byt_append,byt_append,byt_append,List.append_assoc,List.append_assoc]
  rfl
 ·have hc':=fun u=>hc u 5 _ rfl
  clear hc hK1 hK
  go_enter Tryz.func160,Tryz.ntmps160
  go_wp2
  go_quiet (fail)
  go_wp2
  go_ret
  refine⟨_,rfl,?_,below_drewN (hB _) _⟩
  rw[byt_append,byt_append,byt_append,List.append_assoc,List.append_assoc]
  rfl
theorem may_small {n:List Nat} (h:mayN n=true):n.length≤16:=by
 have h1:=encL_len (sgn n)
 rw[may_enc h] at h1
 have:=(nameS_ok h).2.1
 omega
def smallF (f:Fld):Prop:=(0≤f.2.1∧f.2.1<6)∧f.1.length≤16∧f.2.2.length≤16
def smallT (t:Typ):Prop:=t.1.length≤16∧t.2.length≤5∧∀ f∈t.2,smallF f
theorem mayS_small {s:Sch} (h:mayS s=true):s.length≤4∧∀ t∈s,smallT t:=by
 obtain⟨hl,h2⟩:=(mayS_iff s).1 h
 have hn:∀ t∈s,mayN t.1=true:=fun t ht=>by
  obtain⟨i,hi⟩:=List.getElem?_of_mem ht
  exact ((mayT_iff s i t).1 (h2 i t hi)).1
 refine⟨hl.2,fun t ht=>?_⟩
 obtain⟨i,hi⟩:=List.getElem?_of_mem ht
 obtain⟨h3,_,h5,h4⟩:=(mayT_iff s i t).1 (h2 i t hi)
 refine⟨may_small h3,h5,fun f hf=>?_⟩
 obtain⟨j,hj⟩:=List.getElem?_of_mem hf
 obtain⟨h5,_,h6⟩:=(mayF_iff s t.2 j f).1 (h4 j f hj)
 rw[leadS] at h6
 by_cases hk:f.2.1=5
 ·rw[if_pos hk,decide_eq_true_iff] at h6
  obtain⟨t',ht',hn'⟩:=findS_some h6
  exact⟨by omega,may_small h5,by rw[← hn'];exact may_small (hn t' ht')⟩
 ·rw[if_neg hk,Bool.and_eq_true,Bool.and_eq_true,decide_eq_true_iff,decide_eq_true_iff,decide_eq_true_iff] at h6
  exact⟨h6.1,may_small h5,by rw[h6.2];exact Nat.zero_le _⟩
theorem kindT_len (k:Int):(kindT k).length≤3:=by
 unfold kindT
 (repeat' split) <;> simp
theorem fsText_take {fs:List Fld} {i:Nat} {f:Fld} (hi:fs[i]?=some f):fsText (fs.take (i+1))=if i=0 then fText f else fsText (fs.take i)++44 :: fText f:=by
 have hlt:=(List.getElem?_eq_some_iff.1 hi).1
 rw[List.take_add_one,hi,Option.toList_some]
 by_cases h0:i=0
 ·subst h0;rw[if_pos rfl];rfl
 ·rw[if_neg h0,fsText_snoc]
  intro e
  have:=congrArg List.length e
  rw[List.length_take,List.length_nil] at this
  omega
theorem typeText_any (x:ByteArray) (A:Option Addr) (N c:Nat) (t:Typ) (w:World) (hK:Kt w) (hx:byt x=t.1) (ht:smallT t) (hf:rFlds (All w) w [.slice A N c] t.2):
  Calls Tryz.prog 153 #[.agg #[.string x,.slice A N c]] w fun e w'=>∃ r,e=.returned (.string r)∧byt r=tText t∧r.size≤300∧Below w.heap.size w w':=by
 obtain⟨hN,hNc,hcm⟩:=flds_len hf
 simp only[maxLen] at hcm
 obtain⟨ht1,ht2,ht3⟩:=ht
 have hxs:x.size≤16:=by rw[← byt_length,hx];exact ht1
 have hB0:Below w.heap.size w (w.alloc (.cells #[.string x,.slice A N c] 82)):=(zA _ w).alloc (zW _) _
 have Hx:=zZ hx
 clear hx
 go_enter Tryz.func153,Tryz.ntmps153
 go_wp2
 go_loopw [3,12] (fun tv iv w'=>∃ (i:Nat) (r:ByteArray),i≤N∧iv=.int .i64 (i:Int)∧tv=.string r∧r.size≤17+40 * i∧Hid (byt r=t.1++123 :: fsText (t.2.take i))∧Below w.heap.size w w') (fun _ iv _=>N - (intOf iv).toNat)
 case atStart=>exact⟨0,x++⟨#[123]⟩,by omega,rfl,rfl,by rw[ByteArray.size_append,show (⟨#[123]⟩:ByteArray).size=1 from rfl];omega,zZ (by rw[byt_append,Hx.out];rfl),hB0⟩
 case round=>
  rename_i tv iv wr
  obtain⟨i,r,hi,rfl,rfl,hrs,hr,hB⟩:=hrel
  clear hB0
  by_cases hin:i<N
  ·have hfi:t.2[i]?=some t.2[i]:=zV (by omega)
   obtain⟨b,off,u,v,rfl,hb,p1,p2,p3,e1,e2,_,_,_⟩:=fld_at (flds_below hB hf) hfi
   have hsm:=ht3 t.2[i] (List.getElem_mem _)
   have hil:(i:Int)<(N:Int):=by omega
   have hi0:(0:Int)≤(i:Int):=by omega
   have htk:=fsText_take hfi
   have Htk:=zZ htk
   clear htk hfi
   generalize t.2[i]=f at *
   obtain⟨⟨hk0,hk6⟩,hl1,hl2⟩:=hsm
   obtain⟨k,hk⟩:=Int.eq_ofNat_of_zero_le hk0
   have hft:fText f=byt u++58 :: (kindT (k:Int)++byt v):=by rw[fText,e1,e2,hk]
   have hftl:(fText f).length≤36:=by
    have:=kindT_len f.2.1
    rw[fText,List.length_append,List.length_cons,List.length_append];omega
   rw[hk] at p2
   have hB1:∀ a,Below wr.heap.size wr (wr.alloc (.cells a 97)):=fun a=>(zA _ wr).alloc (zW _) _
   have hK1:Kt wr:=hK.below hB
   have T1:=zZ (fun a=>fieldText_any u v k (wr.alloc (.cells a 97)) (hK1.below (hB1 a)) (by omega) (by rw[← byt_length,e1];exact hl1) (by rw[← byt_length,e2];exact hl2))
   rw[← hft] at T1
   have HB:=zZ hB
   have Hl:=zZ hftl
   clear hft hftl e1 e2 hk hk0 hk6 hl1 hl2 hK1 hB hf
   by_cases h0:i=0
   ·subst h0
    simp only[Nat.zero_mul,Nat.add_zero] at p1 p2 p3
    go_wp2_with (first | (go_at_call 160;refine (T1.out _).mono ?_;rintro e w1 ⟨q,rfl,hq,hB2⟩;have hqs:q.size≤36:=(by rw[← byt_length,hq];exact Hl.out)) | fail)
    go_roundw
    case rel=>exact⟨1,r++q,by omega,by go_num,rfl,by rw[ByteArray.size_append];omega,zZ (by rw[byt_append,hr.out,hq,Htk.out,List.take_zero,fsText,List.append_assoc];simp),HB.out.trans (((hB1 _).trans (hB2.mono (hB1 _).size)).mono HB.out.size)⟩
    case measure=>simp[intOf];omega
   ·have h0':decide ((0:Int)<(i:Int))=true:=zJ (by omega)
    go_wp2_with (first | (go_at_call 160;refine (T1.out _).mono ?_;rintro e w1 ⟨q,rfl,hq,hB2⟩;have hqs:q.size≤36:=(by rw[← byt_length,hq];exact Hl.out)) | fail)
    go_roundw
    case rel=>exact⟨i+1,r++⟨#[44]⟩++q,by omega,by go_num,rfl,by rw[ByteArray.size_append,ByteArray.size_append,show (⟨#[44]⟩:ByteArray).size=1 from rfl];omega,zZ (by rw[byt_append,byt_append,hr.out,hq,Htk.out,if_neg h0,List.append_assoc,List.append_assoc,List.cons_append];rfl),HB.out.trans (((hB1 _).trans (hB2.mono (hB1 _).size)).mono HB.out.size)⟩
    case measure=>simp[intOf];omega
  ·obtain rfl:i=N:=by omega
   have hr':=hr.out
   rw[List.take_of_length_le (by omega)] at hr'
   have Hr:=zZ hr'
   clear hr hr'
   go_wp2
   go_ret
   refine⟨r++⟨#[125]⟩,rfl,?_,by rw[ByteArray.size_append,show (⟨#[125]⟩:ByteArray).size=1 from rfl];omega,hB⟩
   rw[byt_append,Hr.out,tText,List.append_assoc]
   rfl
theorem text_any (A:Option Addr) (N c:Nat) (l:Sch) (w:World) (hK:Kt w) (h:rSch (All w) w [.slice A N c] l):
  Calls Tryz.prog 131 #[.agg #[.slice A N c]] w fun e w'=>∃ r,e=.returned (.string r)∧byt r=textS l∧r.size≤1200∧Below w.heap.size w w':=by
 obtain⟨hN,hNc,hcm⟩:=sch_len h
 simp only[maxLen] at hcm
 have hB0:Below w.heap.size w (w.alloc (.cells #[.slice A N c] 24)):=(zA _ w).alloc (zW _) _
 have b0:=Blk.new w 24 [.slice A N c]
 have T0:=zZ (may_any A N c l (w.alloc (.cells #[.slice A N c] 24)) (sch_below hB0 h))
 have Ht:=zZ (fun h=>textS_may (s:=l) h)
 have Hf:=zZ (fun h=>textS_not (s:=l) h)
 have Hs:=zZ (fun h=>mayS_small (s:=l) h)
 generalize mayS l=m at *
 go_enter Tryz.func131,Tryz.ntmps131
 go_wp2_with fail
 refine T0.out.mono ?_
 rintro e w1 ⟨rfl,hB1⟩
 have hBB:=hB0.trans (hB1.mono hB0.size)
 cases m
 ·go_wp2
  go_ret
  exact⟨_,rfl,by rw[Hf.out (by simp)];rfl,by decide,hBB⟩
 ·have b1:Blk w1 w.heap.size 24 [.slice A N c]:=b0.to hB1
  have c1:=b1.cell (j:=0) rfl
  obtain⟨hl4,hsm⟩:=Hs.out (by simp)
  have hte:=Ht.out (by simp)
  have Hte:=zZ hte
  clear hte Ht Hf Hs T0 hB0 hB1 b0
  go_wp2
  go_loopw [3,12] (fun tv iv w'=>∃ (i:Nat) (r:ByteArray),i≤N∧iv=.int .i64 (i:Int)∧tv=.string r∧r.size≤300 * i∧Hid (byt r=sText (l.take i))∧Below w.heap.size w w') (fun _ iv _=>N - (intOf iv).toNat)
  case atStart=>exact⟨0,⟨#[]⟩,by omega,rfl,rfl,zW _,zZ rfl,hBB⟩
  case round=>
   rename_i tv iv wr
   obtain⟨i,r,hi,rfl,rfl,hrs,hr,hB⟩:=hrel
   clear hBB
   by_cases hin:i<N
   ·have hfi:l[i]?=some l[i]:=zV (by omega)
    obtain⟨b,off,x,A2,c2,rfl,hb,p1,p2,e1,_,hfs⟩:=typ_at (sch_below hB h) hfi
    have hsm1:=hsm l[i] (List.getElem_mem _)
    have hil:(i:Int)<(N:Int):=by omega
    have hi0:(0:Int)≤(i:Int):=by omega
    have htk:sText (l.take (i+1))=sText (l.take i)++tText l[i]:=by
     rw[List.take_add_one,hfi,Option.toList_some,sText_append,sText,sText,List.append_nil]
    have Htk:=zZ htk
    clear htk hfi hsm
    generalize l[i]=t at *
    have hB1:∀ a,Below wr.heap.size wr (wr.alloc (.cells a 82)):=fun a=>(zA _ wr).alloc (zW _) _
    have hK1:Kt wr:=hK.below hB
    have T1:=zZ (fun a=>typeText_any x A2 t.2.length c2 t (wr.alloc (.cells a 82)) (hK1.below (hB1 a)) e1 hsm1 (flds_below (hB1 a) hfs))
    have HB:=zZ hB
    clear hK1 hB hfs e1 h
    go_wp2_with (first | (go_at_call 153;refine (T1.out _).mono ?_;rintro e w2 ⟨q,rfl,hq,hqs,hB2⟩) | fail)
    go_roundw
    case rel=>exact⟨i+1,r++q,by omega,by go_num,rfl,by rw[ByteArray.size_append];omega,zZ (by rw[byt_append,hr.out,hq,Htk.out]),HB.out.trans (((hB1 _).trans (hB2.mono (hB1 _).size)).mono HB.out.size)⟩
    case measure=>simp[intOf];omega
   ·obtain rfl:i=N:=by omega
    have hr':=hr.out
    rw[List.take_of_length_le (by omega)] at hr'
    have Hr:=zZ hr'
    clear hr hr'
    go_wp2
    go_ret
    exact⟨r,rfl,Hr.out.trans Hte.out.symm,by omega,hB⟩
end Go.Proofs.YtnljjnkindjeoaaGreatDoor
