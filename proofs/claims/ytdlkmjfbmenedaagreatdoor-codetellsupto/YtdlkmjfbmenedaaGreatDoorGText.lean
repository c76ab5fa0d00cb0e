/- The texts ScText, ScCut, ScReadF, ScReadFs, ScReadT, ScRead in one (as far as the seat has what they speak of); what each proves, and its conditions, stands before it. -/
import Derived.Test.YtdlkmjfbmenedaaGreatDoorGGraph
import Derived.BigQuiet
import Derived.Test.YtdlkmjfbmenedaaGreatDoorGBytes
import Derived.OwnWalk
import Derived.Test.YtdlkmjfbmenedaaGreatDoorGGen
import Derived.Test.YtdlkmjfbmenedaaGreatDoorAl
set_option maxRecDepth 100000
set_option maxHeartbeats 4000000
namespace Go.Proofs.YtdlkmjfbmenedaaGreatDoor
open Go.RowKit
def kts:List Value:=[.string ⟨#[105,56]⟩,.string ⟨#[105,49,54]⟩,.string ⟨#[105,51,50]⟩,.string ⟨#[105,54,52]⟩,.string ⟨#[116]⟩,.string ⟨#[42]⟩]
def Kt (w:World):Prop:=∃ t,Blk w 1 t kts
theorem Kt.below {w w':World} (h:Kt w) (hB:Below w.heap.size w w'):Kt w':=h.elim fun t b=>⟨t,b.to hB⟩
theorem fieldText_any (x y:ByteArray) (k:Nat) (w:World) (hK:Kt w) (hk:k<6) (hx:x.size≤16) (hy:y.size≤16):
  Calls Tryz.prog 140 #[.agg #[.string x,.int .i64 (k:Int),.string y]] w fun e w'=>∃ t,e=.returned (.string t)∧byt t=byt x++58 :: (kindT (k:Int)++byt y)∧Below w.heap.size w w':=by
 have hB:∀ u,Below w.heap.size w (w.alloc (.cells u 81)):=fun u=>(zA _ w).alloc (zW _) _
 have hK1:∀ u,Kt (w.alloc (.cells u 81)):=fun u=>hK.below (hB u)
 have hc:∀ u j v,kts[j]?=some v→(w.alloc (.cells u 81)).cell? ⟨1,j,none⟩=some v:=fun u j v hv=>(hK1 u).elim fun t b=>b.cell hv
 have h6:k=0∨k=1∨k=2∨k=3∨k=4∨k=5:=by omega
 rcases h6 with rfl | rfl | rfl | rfl | rfl | rfl
 ·have hc':=fun u=>hc u 0 _ rfl
  clear hc hK1 hK
  go_enter Tryz.func140,Tryz.ntmps140
  go_wp2
  go_quiet (fail)
  go_wp2
  go_ret
  refine⟨_,rfl,?_,below_drewN (hB _) _⟩
  rw[byt_append,byt_append,byt_append,List.append_assoc,List.append_assoc]
  rfl
 ·have hc':=fun u=>hc u 1 _ rfl
  clear hc hK1 hK
  go_enter Tryz.func140,Tryz.ntmps140
  go_wp2
  go_quiet (fail)
  go_wp2
  go_ret
  refine⟨_,rfl,?_,below_drewN (hB _) _⟩
  rw[byt_append,byt_append,byt_append,List.append_assoc,List.append_assoc]
  rfl
 ·have hc':=fun u=>hc u 2 _ rfl
  clear hc hK1 hK
  go_enter Tryz.func140,Tryz.ntmps140
  go_wp2
  go_quiet (fail)
  go_wp2
  go_ret
  refine⟨_,rfl,?_,below_drewN (hB _) _⟩
  rw[byt_append,byt_append,byt_append,List.append_assoc,List.append_assoc]
  rfl
 ·have hc':=fun u=>hc u 3 _ rfl
  clear hc hK1 hK
  go_enter Tryz.func140,Tryz.ntmps140
  go_wp2
  go_quiet (fail)
  go_wp2
  go_ret
  refine⟨_,rfl,?_,below_drewN (hB _) _⟩
  rw[byt_append,byt_append,byt_append,List.append_assoc,List.append_assoc]
  rfl
 ·have hc':=fun u=>hc u 4 _ rfl
  clear hc hK1 hK
  go_enter Tryz.func140,Tryz.ntmps140
  go_wp2
  go_quiet (fail)
  go_wp2
  go_ret
  refine⟨_,rfl,?_,below_drewN (hB _) _⟩
  rw[byt_append,byt_append,byt_append,List.append_assoc,List.append_assoc]
  rfl
 ·have hc':=fun u=>hc u 5 _ rfl
  clear hc hK1 hK
  go_enter Tryz.func140,Tryz.ntmps140
  go_wp2
  go_quiet (fail)
  go_wp2
  go_ret
  refine⟨_,rfl,?_,below_drewN (hB _) _⟩
  rw[byt_append,byt_append,byt_append,List.append_assoc,List.append_assoc]
  rfl
theorem may_small {n:List Nat} (h:mayN n=true):n.length≤16:=by
 have h1:=encL_len (sgn n)
 rw[may_enc h] at h1
 have:=(nameS_ok h).2.1
 omega
def smallF (f:Fld):Prop:=(0≤f.2.1∧f.2.1<6)∧f.1.length≤16∧f.2.2.length≤16
def smallT (t:Typ):Prop:=t.1.length≤16∧t.2.length≤5∧∀ f∈t.2,smallF f
theorem mayS_small {s:Sch} (h:mayS s=true):s.length≤4∧∀ t∈s,smallT t:=by
 obtain⟨hl,h2⟩:=(mayS_iff s).1 h
 have hn:∀ t∈s,mayN t.1=true:=fun t ht=>by
  obtain⟨i,hi⟩:=List.getElem?_of_mem ht
  exact ((mayT_iff s i t).1 (h2 i t hi)).1
 refine⟨hl.2,fun t ht=>?_⟩
 obtain⟨i,hi⟩:=List.getElem?_of_mem ht
 obtain⟨h3,_,h5,h4⟩:=(mayT_iff s i t).1 (h2 i t hi)
 refine⟨may_small h3,h5,fun f hf=>?_⟩
 obtain⟨j,hj⟩:=List.getElem?_of_mem hf
 obtain⟨h5,_,h6⟩:=(mayF_iff s t.2 j f).1 (h4 j f hj)
 rw[leadS] at h6
 by_cases hk:f.2.1=5
 ·rw[if_pos hk,decide_eq_true_iff] at h6
  obtain⟨t',ht',hn'⟩:=findS_some h6
  exact⟨by omega,may_small h5,by rw[← hn'];exact may_small (hn t' ht')⟩
 ·rw[if_neg hk,Bool.and_eq_true,Bool.and_eq_true,decide_eq_true_iff,decide_eq_true_iff,decide_eq_true_iff] at h6
  exact⟨h6.1,may_small h5,by rw[h6.2];exact Nat.zero_le _⟩
theorem kindT_len (k:Int):(kindT k).length≤3:=by
 unfold kindT
 (repeat' split) <;> simp
theorem fsText_take {fs:List Fld} {i:Nat} {f:Fld} (hi:fs[i]?=some f):fsText (fs.take (i+1))=if i=0 then fText f else fsText (fs.take i)++44 :: fText f:=by
 have hlt:=(List.getElem?_eq_some_iff.1 hi).1
 rw[List.take_add_one,hi,Option.toList_some]
 by_cases h0:i=0
 ·subst h0;rw[if_pos rfl];rfl
 ·rw[if_neg h0,fsText_snoc]
  intro e
  have:=congrArg List.length e
  rw[List.length_take,List.length_nil] at this
  omega
theorem typeText_any (x:ByteArray) (A:Option Addr) (N c:Nat) (t:Typ) (w:World) (hK:Kt w) (hx:byt x=t.1) (ht:smallT t) (hf:rFlds (All w) w [.slice A N c] t.2):
  Calls Tryz.prog 105 #[.agg #[.string x,.slice A N c]] w fun e w'=>∃ r,e=.returned (.string r)∧byt r=tText t∧r.size≤300∧Below w.heap.size w w':=by
 obtain⟨hN,hNc,hcm⟩:=flds_len hf
 simp only[maxLen] at hcm
 obtain⟨ht1,ht2,ht3⟩:=ht
 have hxs:x.size≤16:=by rw[← byt_length,hx];exact ht1
 have hB0:Below w.heap.size w (w.alloc (.cells #[.string x,.slice A N c] 44)):=(zA _ w).alloc (zW _) _
 have Hx:=zZ hx
 clear hx
 go_enter Tryz.func105,Tryz.ntmps105
 go_wp2
 go_loopw [3,12] (fun tv iv w'=>∃ (i:Nat) (r:ByteArray),i≤N∧iv=.int .i64 (i:Int)∧tv=.string r∧r.size≤17+40 * i∧Hid (byt r=t.1++123 :: fsText (t.2.take i))∧Below w.heap.size w w') (fun _ iv _=>N - (intOf iv).toNat)
 case atStart=>exact⟨0,x++⟨#[123]⟩,by omega,rfl,rfl,by rw[ByteArray.size_append,show (⟨#[123]⟩:ByteArray).size=1 from rfl];omega,zZ (by rw[byt_append,Hx.out];rfl),hB0⟩
 case round=>
  rename_i tv iv wr
  obtain⟨i,r,hi,rfl,rfl,hrs,hr,hB⟩:=hrel
  clear hB0
  by_cases hin:i<N
  ·have hfi:t.2[i]?=some t.2[i]:=zV (by omega)
   obtain⟨b,off,u,v,rfl,hb,p1,p2,p3,e1,e2,_,_,_⟩:=fld_at (flds_below hB hf) hfi
   have hsm:=ht3 t.2[i] (List.getElem_mem _)
   have hil:(i:Int)<(N:Int):=by omega
   have hi0:(0:Int)≤(i:Int):=by omega
   have htk:=fsText_take hfi
   have Htk:=zZ htk
   clear htk hfi
   generalize t.2[i]=f at *
   obtain⟨⟨hk0,hk6⟩,hl1,hl2⟩:=hsm
   obtain⟨k,hk⟩:=Int.eq_ofNat_of_zero_le hk0
   have hft:fText f=byt u++58 :: (kindT (k:Int)++byt v):=by rw[fText,e1,e2,hk]
   have hftl:(fText f).length≤36:=by
    have:=kindT_len f.2.1
    rw[fText,List.length_append,List.length_cons,List.length_append];omega
   rw[hk] at p2
   have hB1:∀ a,Below wr.heap.size wr (wr.alloc (.cells a 81)):=fun a=>(zA _ wr).alloc (zW _) _
   have hK1:Kt wr:=hK.below hB
   have T1:=zZ (fun a=>fieldText_any u v k (wr.alloc (.cells a 81)) (hK1.below (hB1 a)) (by omega) (by rw[← byt_length,e1];exact hl1) (by rw[← byt_length,e2];exact hl2))
   rw[← hft] at T1
   have HB:=zZ hB
   have Hl:=zZ hftl
   clear hft hftl e1 e2 hk hk0 hk6 hl1 hl2 hK1 hB hf
   by_cases h0:i=0
   ·subst h0
    simp only[Nat.zero_mul,Nat.add_zero] at p1 p2 p3
    go_wp2_with (first | (go_at_call 140;refine (T1.out _).mono ?_;rintro e w1 ⟨q,rfl,hq,hB2⟩;have hqs:q.size≤36:=(by rw[← byt_length,hq];exact Hl.out)) | fail)
    go_roundw
    case rel=>exact⟨1,r++q,by omega,by go_num,rfl,by rw[ByteArray.size_append];omega,zZ (by rw[byt_append,hr.out,hq,Htk.out,List.take_zero,fsText,List.append_assoc];simp),HB.out.trans (((hB1 _).trans (hB2.mono (hB1 _).size)).mono HB.out.size)⟩
    case measure=>simp[intOf];omega
   ·have h0':decide ((0:Int)<(i:Int))=true:=zJ (by omega)
    go_wp2_with (first | (go_at_call 140;refine (T1.out _).mono ?_;rintro e w1 ⟨q,rfl,hq,hB2⟩;have hqs:q.size≤36:=(by rw[← byt_length,hq];exact Hl.out)) | fail)
    go_roundw
    case rel=>exact⟨i+1,r++⟨#[44]⟩++q,by omega,by go_num,rfl,by rw[ByteArray.size_append,ByteArray.size_append,show (⟨#[44]⟩:ByteArray).size=1 from rfl];omega,zZ (by rw[byt_append,byt_append,hr.out,hq,Htk.out,if_neg h0,List.append_assoc,List.append_assoc,List.cons_append];rfl),HB.out.trans (((hB1 _).trans (hB2.mono (hB1 _).size)).mono HB.out.size)⟩
    case measure=>simp[intOf];omega
  ·obtain rfl:i=N:=by omega
   have hr':=hr.out
   rw[List.take_of_length_le (by omega)] at hr'
   have Hr:=zZ hr'
   clear hr hr'
   go_wp2
   go_ret
   refine⟨r++⟨#[125]⟩,rfl,?_,by rw[ByteArray.size_append,show (⟨#[125]⟩:ByteArray).size=1 from rfl];omega,hB⟩
   rw[byt_append,Hr.out,tText,List.append_assoc]
   rfl
theorem text_any (A:Option Addr) (N c:Nat) (l:Sch) (w:World) (hK:Kt w) (h:rSch (All w) w [.slice A N c] l):
  Calls Tryz.prog 72 #[.agg #[.slice A N c]] w fun e w'=>∃ r,e=.returned (.string r)∧byt r=textS l∧r.size≤1200∧Below w.heap.size w w':=by
 obtain⟨hN,hNc,hcm⟩:=sch_len h
 simp only[maxLen] at hcm
 have hB0:Below w.heap.size w (w.alloc (.cells #[.slice A N c] 24)):=(zA _ w).alloc (zW _) _
 have b0:=Blk.new w 24 [.slice A N c]
 have T0:=zZ (may_any A N c l (w.alloc (.cells #[.slice A N c] 24)) (sch_below hB0 h))
 have Ht:=zZ (fun h=>textS_may (s:=l) h)
 have Hf:=zZ (fun h=>textS_not (s:=l) h)
 have Hs:=zZ (fun h=>mayS_small (s:=l) h)
 generalize mayS l=m at *
 go_enter Tryz.func72,Tryz.ntmps72
 go_wp2_with fail
 refine T0.out.mono ?_
 rintro e w1 ⟨rfl,hB1⟩
 have hBB:=hB0.trans (hB1.mono hB0.size)
 cases m
 ·go_wp2
  go_ret
  exact⟨_,rfl,by rw[Hf.out (by simp)];rfl,by decide,hBB⟩
 ·have b1:Blk w1 w.heap.size 24 [.slice A N c]:=b0.to hB1
  have c1:=b1.cell (j:=0) rfl
  obtain⟨hl4,hsm⟩:=Hs.out (by simp)
  have hte:=Ht.out (by simp)
  have Hte:=zZ hte
  clear hte Ht Hf Hs T0 hB0 hB1 b0
  go_wp2
  go_loopw [3,12] (fun tv iv w'=>∃ (i:Nat) (r:ByteArray),i≤N∧iv=.int .i64 (i:Int)∧tv=.string r∧r.size≤300 * i∧Hid (byt r=sText (l.take i))∧Below w.heap.size w w') (fun _ iv _=>N - (intOf iv).toNat)
  case atStart=>exact⟨0,⟨#[]⟩,by omega,rfl,rfl,zW _,zZ rfl,hBB⟩
  case round=>
   rename_i tv iv wr
   obtain⟨i,r,hi,rfl,rfl,hrs,hr,hB⟩:=hrel
   clear hBB
   by_cases hin:i<N
   ·have hfi:l[i]?=some l[i]:=zV (by omega)
    obtain⟨b,off,x,A2,c2,rfl,hb,p1,p2,e1,_,hfs⟩:=typ_at (sch_below hB h) hfi
    have hsm1:=hsm l[i] (List.getElem_mem _)
    have hil:(i:Int)<(N:Int):=by omega
    have hi0:(0:Int)≤(i:Int):=by omega
    have htk:sText (l.take (i+1))=sText (l.take i)++tText l[i]:=by
     rw[List.take_add_one,hfi,Option.toList_some,sText_append,sText,sText,List.append_nil]
    have Htk:=zZ htk
    clear htk hfi hsm
    generalize l[i]=t at *
    have hB1:∀ a,Below wr.heap.size wr (wr.alloc (.cells a 44)):=fun a=>(zA _ wr).alloc (zW _) _
    have hK1:Kt wr:=hK.below hB
    have T1:=zZ (fun a=>typeText_any x A2 t.2.length c2 t (wr.alloc (.cells a 44)) (hK1.below (hB1 a)) e1 hsm1 (flds_below (hB1 a) hfs))
    have HB:=zZ hB
    clear hK1 hB hfs e1 h
    go_wp2_with (first | (go_at_call 105;refine (T1.out _).mono ?_;rintro e w2 ⟨q,rfl,hq,hqs,hB2⟩) | fail)
    go_roundw
    case rel=>exact⟨i+1,r++q,by omega,by go_num,rfl,by rw[ByteArray.size_append];omega,zZ (by rw[byt_append,hr.out,hq,Htk.out]),HB.out.trans (((hB1 _).trans (hB2.mono (hB1 _).size)).mono HB.out.size)⟩
    case measure=>simp[intOf];omega
   ·obtain rfl:i=N:=by omega
    have hr':=hr.out
    rw[List.take_of_length_le (by omega)] at hr'
    have Hr:=zZ hr'
    clear hr hr'
    go_wp2
    go_ret
    exact⟨r,rfl,Hr.out.trans Hte.out.symm,by omega,hB⟩
theorem sig_mark {l:List Nat} {m:Nat} (hl:l≠[]) (hm:m<128) (h:(sig l).1=m):∃ t,l=m :: t:=by
 have:=sig_back hl (by omega)
 rw[h,encS,if_pos hm] at this
 exact⟨_,this⟩
theorem mark_next {l:List Nat} {m pos:Nat} (hm:m<128) (h:m ∉ l.take pos) (hc:(sig (l.drop pos)).1≠m):m ∉ l.take (pos+(sig (l.drop pos)).2):=by
 intro hi
 rw[List.take_add,List.mem_append] at hi
 rcases hi with hi | hi
 ·exact h hi
 ·generalize l.drop pos=q at *
  obtain⟨k,hk,he⟩:=List.getElem_of_mem hi
  rw[List.length_take] at hk
  rw[List.getElem_take] at he
  have hg:q.getD k 0=m:=by rw[List.getD_eq_getElem?_getD,zV (by omega),he];rfl
  by_cases hk0:k=0
  ·subst hk0
   apply hc
   rw[sig,hg,sig_1 (by omega)]
  ·have:=mid_of ((sig_wide q).2.2 k (by omega) (by omega))
   omega
theorem cut_here {l t:List Nat} {m pos:Nat} (h:m ∉ l.take pos) (ht:l.drop pos=m :: t):cutL m l=(l.take pos,t,true)∧l.drop (pos+1)=t:=by
 have e:l=l.take pos++m :: t:=by rw[← ht,List.take_append_drop]
 refine⟨?_,by rw[← List.drop_drop,ht];rfl⟩
 have:=cutL_yes t h
 rw[← e] at this
 exact this
theorem cut_any (s:ByteArray) (m:Nat) (w:World) (hm:m<128) (hs:s.size≤maxLen):Calls Tryz.prog 180 #[.string s,.int .i32 (m:Int)] w fun e w'=>∃ x y,e=.returned (.tuple #[.string x,.string y,.bool (cutL m (byt s)).2.2]) ∧
  byt x=(cutL m (byt s)).1∧byt y=(cutL m (byt s)).2.1∧Below w.heap.size w w':=by
 simp only[maxLen] at hs
 have HN:=zZ (fun h=>cutL_no (m:=m) (a:=byt s) h)
 have HS:=zZ (fun pos t=>cut_here (l:=byt s) (m:=m) (pos:=pos) (t:=t))
 have hm':m≤2147483647:=by omega
 generalize cutL m (byt s)=r at *
 go_enter Tryz.func180,Tryz.ntmps180
 go_wp2
 go_loopw [11] (fun _ w'=>∃ pos:Nat,w'=w.iter s pos∧Hid (m ∉ (byt s).take pos)) (fun _ w'=>s.size - w'.iterPos w.heap.size)
 case atStart=>exact⟨0,rfl,zZ (by simp)⟩
 case round=>
  obtain⟨pos,rfl,hno⟩:=hrel
  by_cases hp:pos<s.size
  ·obtain⟨c,n,hdec,hsig,_,hcl,hn1,hn2⟩:=sgn_at hp
   have hnx:∀ ty,(Instr.next (.pointer (some ⟨w.heap.size,0,none⟩)) true ty).run Tryz.prog (w.iter s pos)=_:=fun ty=>run_next_any w s pos ty hp
   rw[hdec] at hnx
   clear hdec
   by_cases hcm:c=m
   ·subst hcm
    obtain⟨t,ht⟩:=sig_mark (drop_ne hp) hm (by rw[hsig])
    obtain⟨rfl,h3⟩:=HS.out pos t hno.out ht
    have hx:byt (s.extract 0 pos)=(byt s).take pos:=by rw[byt_extract,List.drop_zero]
    have hy:byt (s.extract (pos+1) s.size)=t:=by rw[byt_extract,List.take_of_length_le (by simp),h3]
    have Hx:=zZ hx
    have Hy:=zZ hy
    clear HN HS hno hsig ht h3 hx hy
    have hq1:(0:Int)≤(pos:Int):=by omega
    have hq2:(pos:Int)≤(s.size:Int):=by omega
    have hq3:IntKind.i64.wrap ((pos:Int)+1)=(pos:Int)+1:=IntWalk.i64_in _ (by omega)
    have hq4:(pos:Int)+1≤(s.size:Int):=by omega
    have hq5:(0:Int)≤(pos:Int)+1:=by omega
    go_wp2
    go_quiet (fail)
    go_wp2
    go_ret3
    exact⟨_,_,rfl,Hx.out,Hy.out,below_drewN (below_iter _ _ _) _⟩
   ·have hcm':((c:Int) == (m:Int))=false:=by simp;omega
    have hno2:=mark_next hm hno.out (by rw[hsig];exact hcm)
    rw[hsig] at hno2
    have Hno2:=zZ hno2
    clear hno2 hsig HN HS hno
    go_wp2
    go_roundw
    case rel=>exact⟨pos+n,rfl,Hno2⟩
    case measure=>simp;omega
  ·have hnx:∀ ty,(Instr.next (.pointer (some ⟨w.heap.size,0,none⟩)) true ty).run Tryz.prog (w.iter s pos)=_:=fun ty=>run_next_end w s pos ty hp
   have hno2:=hno.out
   rw[List.take_of_length_le (by simp;omega)] at hno2
   obtain rfl:=HN.out hno2
   clear HN HS hno hno2
   go_wp2
   go_ret3
   exact⟨_,_,rfl,rfl,rfl,below_iter _ _ _⟩
theorem prefix_take {p l:List Nat}:p.isPrefixOf l=decide (p.length≤l.length∧l.take p.length=p):=by
 rw[Bool.eq_iff_iff,decide_eq_true_iff,List.isPrefixOf_iff_prefix]
 constructor
 ·rintro⟨r,rfl⟩;simp
 ·rintro⟨_,h⟩;exact⟨l.drop p.length,by have:=List.take_append_drop p.length l;rw[h] at this;exact this⟩
theorem hasPrefix_any (s p:ByteArray) (w:World):Calls Tryz.prog 199 #[.string s,.string p] w fun e w'=>e=.returned (.bool ((byt p).isPrefixOf (byt s)))∧w'=w:=by
 have hb:=str_beq (s.extract 0 p.size) p
 rw[byt_extract,List.drop_zero] at hb
 have hr:(byt p).isPrefixOf (byt s)=(decide (p.size≤s.size) && decide ((byt s).take p.size=byt p)):=by
  rw[prefix_take,byt_length,byt_length]
  by_cases h1:p.size≤s.size <;> simp[h1]
 by_cases h1:p.size≤s.size
 ·have h1':decide ((p.size:Int)≤(s.size:Int))=true:=zJ (by omega)
  have h2:(p.size:Int)≤(s.size:Int):=by omega
  have h3:(0:Int)≤(p.size:Int):=by omega
  rw[zJ h1,Bool.true_and,← hb] at hr
  have HR:=zZ hr
  clear hr hb h1
  go_enter Tryz.func199,Tryz.ntmps199
  go_wp2
  go_ret
  exact⟨by rw[HR.out];rfl,rfl⟩
 ·have h1':decide ((p.size:Int)≤(s.size:Int))=false:=zK (by omega)
  rw[zK h1,Bool.false_and] at hr
  rw[hr]
  clear hr hb
  go_enter Tryz.func199,Tryz.ntmps199
  go_wp2
  go_ret
  exact⟨rfl,rfl⟩
theorem lcutPrefix_any (s p:ByteArray) (w:World):Calls Tryz.prog 198 #[.string s,.string p] w fun e w'=>∃ x,e=.returned (.tuple #[.string x,.bool ((byt p).isPrefixOf (byt s))]) ∧
  ((byt p).isPrefixOf (byt s)=true→byt x=(byt s).drop (byt p).length)∧x.size≤s.size∧w'=w:=by
 have T1:=zZ (hasPrefix_any s p w)
 have hl:(byt p).isPrefixOf (byt s)=true→p.size≤s.size∧byt (s.extract p.size s.size)=(byt s).drop (byt p).length:=fun h=>by
  rw[prefix_take,decide_eq_true_iff,byt_length,byt_length] at h
  exact⟨h.1,by rw[byt_extract,List.take_of_length_le (by simp),byt_length]⟩
 have Hl:=zZ hl
 clear hl
 generalize (byt p).isPrefixOf (byt s)=r at *
 go_enter Tryz.func198,Tryz.ntmps198
 go_wp2_with fail
 refine T1.out.mono ?_
 rintro e w1 ⟨rfl,rfl⟩
 cases r
 ·go_wp2
  go_ret2
  exact⟨s,rfl,(fun h=>by cases h),zW _,rfl⟩
 ·obtain⟨h1,h2⟩:=Hl.out (by simp)
  have H2:=zZ h2
  clear h2 Hl
  have h3:(0:Int)≤(p.size:Int):=by omega
  have h4:(p.size:Int)≤(s.size:Int):=by omega
  go_wp2
  go_ret2
  exact⟨_,rfl,(by simpa using H2.out),(by simp),rfl⟩
theorem cutPrefix_any (s p:ByteArray) (w:World):Calls Tryz.prog 197 #[.string s,.string p] w fun e w'=>∃ x,e=.returned (.tuple #[.string x,.bool ((byt p).isPrefixOf (byt s))]) ∧
  ((byt p).isPrefixOf (byt s)=true→byt x=(byt s).drop (byt p).length)∧x.size≤s.size∧w'=w:=by
 have T1:=zZ (lcutPrefix_any s p w)
 generalize (byt p).isPrefixOf (byt s)=r at *
 generalize (byt s).drop (byt p).length=q at *
 go_enter Tryz.func197,Tryz.ntmps197
 go_wp2_with fail
 refine T1.out.mono ?_
 rintro e w1 ⟨x,rfl,h1,h2,rfl⟩
 have H1:=zZ h1
 clear h1
 go_wp2
 go_ret2
 exact⟨_,rfl,H1.out,h2,rfl⟩
theorem info_fld:(Tryz.prog.info? 81).map (fun i=>(i.zero,i.size))=some (some (.agg #[.string ⟨#[]⟩,.int .i64 0,.string ⟨#[]⟩]),3):=by kernel_rfl
def FldIs (o:Option Fld) (x y:ByteArray) (k:Int) (b:Bool):Prop:=match o with
 | none=>b=false∧x=⟨#[]⟩∧y=⟨#[]⟩∧k=0
 | some f=>b=true∧byt x=f.1∧k=f.2.1∧byt y=f.2.2
theorem readField_any (s:ByteArray) (w:World) (hK:Kt w) (hs:s.size≤140737488355328):
  Calls Tryz.prog 193 #[.string s] w fun e w'=>∃ x y k b,e=.returned (.tuple #[.agg #[.string x,.int .i64 k,.string y],.bool b])∧FldIs (pF (byt s)) x y k b∧x.size≤s.size∧y.size≤s.size∧(0≤k∧k<6)∧Below w.heap.size w w':=by
 obtain⟨hz,hsz⟩:=zero_of_info info_fld
 have hB0:Below w.heap.size w (w.alloc (.cells #[.string ⟨#[]⟩,.int .i64 0,.string ⟨#[]⟩] 81)):=(zA _ w).alloc (zW _) _
 have b0:=Blk.new w 81 [.string ⟨#[]⟩,.int .i64 0,.string ⟨#[]⟩]
 have T1:=zZ (fun W=>cut_any s 58 W (by omega) (by simp only[maxLen];omega))
 have hpf:pF (byt s)=if (cutL 58 (byt s)).2.2=true then (pKs allK (cutL 58 (byt s)).2.1).map (fun x=>((cutL 58 (byt s)).1,x.1,x.2)) else none:=rfl
 have hl:=cutL_len 58 (byt s)
 rw[byt_length] at hl
 have Hpf:=zZ hpf
 have Hl:=zZ hl
 clear hpf hl
 generalize pF (byt s)=o at *
 generalize cutL 58 (byt s)=r at *
 go_enter Tryz.func193,Tryz.ntmps193
 go_wp2_with fail
 refine (T1.out _).mono ?_
 rintro e w1 ⟨x,y,rfl,hx,hy,hB1⟩
 have b1:Blk w1 w.heap.size 81 [.string ⟨#[]⟩,.int .i64 0,.string ⟨#[]⟩]:=b0.to hB1
 have hB:=hB0.trans (hB1.mono hB0.size)
 have hK1:=hK.below hB
 have hxs:x.size≤s.size:=by rw[← byt_length,hx];exact Hl.out.1
 have hys:y.size≤s.size:=by rw[← byt_length,hy];exact Hl.out.2.1
 clear T1 hB0 b0 hB1 hK
 obtain⟨r1,r2,r3⟩:=r
 dsimp only at hx hy
 subst hx hy
 have hx0:=b1.cell (j:=0) rfl
 have hx1:=b1.cell (j:=1) rfl
 have hx2:=b1.cell (j:=2) rfl
 have hf0:=b1.frozen 0
 have hf1:=b1.frozen 1
 have hf2:=b1.frozen 2
 cases r3
 ·have Hrw:=zZ (((b1.set 0 (.string ⟨#[]⟩)).set 1 (.int .i64 0)).set 2 (.string ⟨#[]⟩))
  have HBr:=zZ (((hB.setCell (p:=⟨w.heap.size,0,none⟩) (zW w.heap.size) (.string ⟨#[]⟩)).setCell (p:=⟨w.heap.size,1,none⟩) (zW w.heap.size) (.int .i64 0)).setCell (p:=⟨w.heap.size,2,none⟩) (zW w.heap.size) (.string ⟨#[]⟩))
  go_wp2
  refine ret_cell1 rfl Hrw.out Tryz.underlying81 rfl hsz rfl rfl ?_
  exact⟨_,_,_,_,rfl,by rw[Hpf.out];exact⟨rfl,rfl,rfl,rfl⟩,Nat.zero_le _,Nat.zero_le _,⟨by omega,by omega⟩,HBr.out⟩
 ·have hc:∀ j v,kts[j]?=some v→w1.cell? ⟨1,j,none⟩=some v:=fun j v hv=>hK1.elim fun t b=>b.cell hv
  have k0:=hc 0 _ rfl
  have k1:=hc 1 _ rfl
  have k2:=hc 2 _ rfl
  have k3:=hc 3 _ rfl
  have k4:=hc 4 _ rfl
  have k5:=hc 5 _ rfl
  clear hc
  have Hp:Hid (o=(pKs (allK.drop 0) (byt y)).map (fun z=>(byt x,z.1,z.2))):=zZ (by have:=Hpf.out;simpa using this)
  clear Hpf Hl hx0 hx1 hx2 hf0 hf1 hf2
  go_wp2
  clear k0 k1 k2 k3 k4 k5
  go_loopw [21] (fun iv w'=>∃ i:Nat,i≤6∧iv=.int .i64 (i:Int)∧Below w.heap.size w w'∧Blk w' w.heap.size 81 [.string ⟨#[]⟩,.int .i64 0,.string ⟨#[]⟩]∧Hid (o=(pKs (allK.drop i) (byt y)).map (fun z=>(byt x,z.1,z.2)))) (fun iv _=>6 - (intOf iv).toNat)
  case atStart=>exact⟨0,by omega,rfl,hB,b1,Hp⟩
  case round=>
   rename_i iv wr
   obtain⟨i,hi,rfl,hB,b1,hp⟩:=hrel
   clear Hp
   have h7:i=0∨i=1∨i=2∨i=3∨i=4∨i=5∨i=6:=by omega
   rcases h7 with rfl | rfl | rfl | rfl | rfl | rfl | rfl
   ·have hix:∀ W:World,(Instr.index 233 (.agg #[.string ⟨#[105,56]⟩,.string ⟨#[105,49,54]⟩,.string ⟨#[105,51,50]⟩,.string ⟨#[105,54,52]⟩,.string ⟨#[116]⟩,.string ⟨#[42]⟩]) (.int .i64 0)).run Tryz.prog W=.ok (.string ⟨#[105,56]⟩) W:=fun _=>by kernel_rfl
    have T2:=zZ (fun W=>cutPrefix_any y ⟨#[105,56]⟩ W)
    have hp':=hp.out
    have e:pKs (allK.drop 0) (byt y)=if (kindT 0).isPrefixOf (byt y)=true then some (0,(byt y).drop (kindT 0).length) else pKs (allK.drop 1) (byt y):=rfl
    rw[e] at hp'
    have ek:byt ⟨#[105,56]⟩=kindT 0:=rfl
    rw[ek] at T2
    have Hp2:=zZ hp'
    clear hp' hp e ek
    generalize (kindT 0).isPrefixOf (byt y)=q at *
    generalize (byt y).drop (kindT 0).length=d at *
    go_wp2_with fail
    refine (T2.out _).mono ?_
    rintro e w2 ⟨z,rfl,hz1,hzs,rfl⟩
    have Hz1:=zZ hz1
    clear hz1
    cases q
    ·go_wp2
     go_roundw
     case rel=>exact⟨1,by omega,by go_num,hB,b1,zZ (by have:=Hp2.out;simpa using this)⟩
     case measure=>simp[intOf]
    ·go_wp2_with fail
     refine (sclone_any x _ (by omega)).mono ?_
     rintro e w3 ⟨rfl,hB3⟩
     go_wp2_with fail
     refine (sclone_any z _ (by omega)).mono ?_
     rintro e w4 ⟨rfl,hB4⟩
     have hB5:=(hB.trans (hB3.mono hB.size)).trans (hB4.mono (Nat.le_trans hB.size hB3.size))
     have b5:=(b1.to hB3).to hB4
     clear hB hB3 hB4 b1
     have hx0:=b5.cell (j:=0) rfl
     have hx1:=b5.cell (j:=1) rfl
     have hx2:=b5.cell (j:=2) rfl
     have hf0:=b5.frozen 0
     have hf1:=b5.frozen 1
     have hf2:=b5.frozen 2
     have Hrw:=zZ (((b5.set 0 (.string x)).set 1 (.int .i64 0)).set 2 (.string z))
     have HBr:=zZ (((hB5.setCell (p:=⟨w.heap.size,0,none⟩) (zW w.heap.size) (.string x)).setCell (p:=⟨w.heap.size,1,none⟩) (zW w.heap.size) (.int .i64 0)).setCell (p:=⟨w.heap.size,2,none⟩) (zW w.heap.size) (.string z))
     go_wp2
     refine ret_cell1 rfl Hrw.out Tryz.underlying81 rfl hsz rfl rfl ?_
     exact⟨_,_,_,_,rfl,by have:=Hp2.out;simp at this;rw[this];exact⟨rfl,rfl,rfl,Hz1.out (by simp)⟩,hxs,by omega,⟨by omega,by omega⟩,HBr.out⟩
   ·have hix:∀ W:World,(Instr.index 233 (.agg #[.string ⟨#[105,56]⟩,.string ⟨#[105,49,54]⟩,.string ⟨#[105,51,50]⟩,.string ⟨#[105,54,52]⟩,.string ⟨#[116]⟩,.string ⟨#[42]⟩]) (.int .i64 1)).run Tryz.prog W=.ok (.string ⟨#[105,49,54]⟩) W:=fun _=>by kernel_rfl
    have T2:=zZ (fun W=>cutPrefix_any y ⟨#[105,49,54]⟩ W)
    have hp':=hp.out
    have e:pKs (allK.drop 1) (byt y)=if (kindT 1).isPrefixOf (byt y)=true then some (1,(byt y).drop (kindT 1).length) else pKs (allK.drop 2) (byt y):=rfl
    rw[e] at hp'
    have ek:byt ⟨#[105,49,54]⟩=kindT 1:=rfl
    rw[ek] at T2
    have Hp2:=zZ hp'
    clear hp' hp e ek
    generalize (kindT 1).isPrefixOf (byt y)=q at *
    generalize (byt y).drop (kindT 1).length=d at *
    go_wp2_with fail
    refine (T2.out _).mono ?_
    rintro e w2 ⟨z,rfl,hz1,hzs,rfl⟩
    have Hz1:=zZ hz1
    clear hz1
    cases q
    ·go_wp2
     go_roundw
     case rel=>exact⟨2,by omega,by go_num,hB,b1,zZ (by have:=Hp2.out;simpa using this)⟩
     case measure=>simp[intOf]
    ·go_wp2_with fail
     refine (sclone_any x _ (by omega)).mono ?_
     rintro e w3 ⟨rfl,hB3⟩
     go_wp2_with fail
     refine (sclone_any z _ (by omega)).mono ?_
     rintro e w4 ⟨rfl,hB4⟩
     have hB5:=(hB.trans (hB3.mono hB.size)).trans (hB4.mono (Nat.le_trans hB.size hB3.size))
     have b5:=(b1.to hB3).to hB4
     clear hB hB3 hB4 b1
     have hx0:=b5.cell (j:=0) rfl
     have hx1:=b5.cell (j:=1) rfl
     have hx2:=b5.cell (j:=2) rfl
     have hf0:=b5.frozen 0
     have hf1:=b5.frozen 1
     have hf2:=b5.frozen 2
     have Hrw:=zZ (((b5.set 0 (.string x)).set 1 (.int .i64 1)).set 2 (.string z))
     have HBr:=zZ (((hB5.setCell (p:=⟨w.heap.size,0,none⟩) (zW w.heap.size) (.string x)).setCell (p:=⟨w.heap.size,1,none⟩) (zW w.heap.size) (.int .i64 1)).setCell (p:=⟨w.heap.size,2,none⟩) (zW w.heap.size) (.string z))
     go_wp2
     refine ret_cell1 rfl Hrw.out Tryz.underlying81 rfl hsz rfl rfl ?_
     exact⟨_,_,_,_,rfl,by have:=Hp2.out;simp at this;rw[this];exact⟨rfl,rfl,rfl,Hz1.out (by simp)⟩,hxs,by omega,⟨by omega,by omega⟩,HBr.out⟩
   ·have hix:∀ W:World,(Instr.index 233 (.agg #[.string ⟨#[105,56]⟩,.string ⟨#[105,49,54]⟩,.string ⟨#[105,51,50]⟩,.string ⟨#[105,54,52]⟩,.string ⟨#[116]⟩,.string ⟨#[42]⟩]) (.int .i64 2)).run Tryz.prog W=.ok (.string ⟨#[105,51,50]⟩) W:=fun _=>by kernel_rfl
    have T2:=zZ (fun W=>cutPrefix_any y ⟨#[105,51,50]⟩ W)
    have hp':=hp.out
    have e:pKs (allK.drop 2) (byt y)=if (kindT 2).isPrefixOf (byt y)=true then some (2,(byt y).drop (kindT 2).length) else pKs (allK.drop 3) (byt y):=rfl
    rw[e] at hp'
    have ek:byt ⟨#[105,51,50]⟩=kindT 2:=rfl
    rw[ek] at T2
    have Hp2:=zZ hp'
    clear hp' hp e ek
    generalize (kindT 2).isPrefixOf (byt y)=q at *
    generalize (byt y).drop (kindT 2).length=d at *
    go_wp2_with fail
    refine (T2.out _).mono ?_
    rintro e w2 ⟨z,rfl,hz1,hzs,rfl⟩
    have Hz1:=zZ hz1
    clear hz1
    cases q
    ·go_wp2
     go_roundw
     case rel=>exact⟨3,by omega,by go_num,hB,b1,zZ (by have:=Hp2.out;simpa using this)⟩
     case measure=>simp[intOf]
    ·go_wp2_with fail
     refine (sclone_any x _ (by omega)).mono ?_
     rintro e w3 ⟨rfl,hB3⟩
     go_wp2_with fail
     refine (sclone_any z _ (by omega)).mono ?_
     rintro e w4 ⟨rfl,hB4⟩
     have hB5:=(hB.trans (hB3.mono hB.size)).trans (hB4.mono (Nat.le_trans hB.size hB3.size))
     have b5:=(b1.to hB3).to hB4
     clear hB hB3 hB4 b1
     have hx0:=b5.cell (j:=0) rfl
     have hx1:=b5.cell (j:=1) rfl
     have hx2:=b5.cell (j:=2) rfl
     have hf0:=b5.frozen 0
     have hf1:=b5.frozen 1
     have hf2:=b5.frozen 2
     have Hrw:=zZ (((b5.set 0 (.string x)).set 1 (.int .i64 2)).set 2 (.string z))
     have HBr:=zZ (((hB5.setCell (p:=⟨w.heap.size,0,none⟩) (zW w.heap.size) (.string x)).setCell (p:=⟨w.heap.size,1,none⟩) (zW w.heap.size) (.int .i64 2)).setCell (p:=⟨w.heap.size,2,none⟩) (zW w.heap.size) (.string z))
     go_wp2
     refine ret_cell1 rfl Hrw.out Tryz.underlying81 rfl hsz rfl rfl ?_
     exact⟨_,_,_,_,rfl,by have:=Hp2.out;simp at this;rw[this];exact⟨rfl,rfl,rfl,Hz1.out (by simp)⟩,hxs,by omega,⟨by omega,by omega⟩,HBr.out⟩
   ·have hix:∀ W:World,(Instr.index 233 (.agg #[.string ⟨#[105,56]⟩,.string ⟨#[105,49,54]⟩,.string ⟨#[105,51,50]⟩,.string ⟨#[105,54,52]⟩,.string ⟨#[116]⟩,.string ⟨#[42]⟩]) (.int .i64 3)).run Tryz.prog W=.ok (.string ⟨#[105,54,52]⟩) W:=fun _=>by kernel_rfl
    have T2:=zZ (fun W=>cutPrefix_any y ⟨#[105,54,52]⟩ W)
    have hp':=hp.out
    have e:pKs (allK.drop 3) (byt y)=if (kindT 3).isPrefixOf (byt y)=true then some (3,(byt y).drop (kindT 3).length) else pKs (allK.drop 4) (byt y):=rfl
    rw[e] at hp'
    have ek:byt ⟨#[105,54,52]⟩=kindT 3:=rfl
    rw[ek] at T2
    have Hp2:=zZ hp'
    clear hp' hp e ek
    generalize (kindT 3).isPrefixOf (byt y)=q at *
    generalize (byt y).drop (kindT 3).length=d at *
    go_wp2_with fail
    refine (T2.out _).mono ?_
    rintro e w2 ⟨z,rfl,hz1,hzs,rfl⟩
    have Hz1:=zZ hz1
    clear hz1
    cases q
    ·go_wp2
     go_roundw
     case rel=>exact⟨4,by omega,by go_num,hB,b1,zZ (by have:=Hp2.out;simpa using this)⟩
     case measure=>simp[intOf]
    ·go_wp2_with fail
     refine (sclone_any x _ (by omega)).mono ?_
     rintro e w3 ⟨rfl,hB3⟩
     go_wp2_with fail
     refine (sclone_any z _ (by omega)).mono ?_
     rintro e w4 ⟨rfl,hB4⟩
     have hB5:=(hB.trans (hB3.mono hB.size)).trans (hB4.mono (Nat.le_trans hB.size hB3.size))
     have b5:=(b1.to hB3).to hB4
     clear hB hB3 hB4 b1
     have hx0:=b5.cell (j:=0) rfl
     have hx1:=b5.cell (j:=1) rfl
     have hx2:=b5.cell (j:=2) rfl
     have hf0:=b5.frozen 0
     have hf1:=b5.frozen 1
     have hf2:=b5.frozen 2
     have Hrw:=zZ (((b5.set 0 (.string x)).set 1 (.int .i64 3)).set 2 (.string z))
     have HBr:=zZ (((hB5.setCell (p:=⟨w.heap.size,0,none⟩) (zW w.heap.size) (.string x)).setCell (p:=⟨w.heap.size,1,none⟩) (zW w.heap.size) (.int .i64 3)).setCell (p:=⟨w.heap.size,2,none⟩) (zW w.heap.size) (.string z))
     go_wp2
     refine ret_cell1 rfl Hrw.out Tryz.underlying81 rfl hsz rfl rfl ?_
     exact⟨_,_,_,_,rfl,by have:=Hp2.out;simp at this;rw[this];exact⟨rfl,rfl,rfl,Hz1.out (by simp)⟩,hxs,by omega,⟨by omega,by omega⟩,HBr.out⟩
   ·have hix:∀ W:World,(Instr.index 233 (.agg #[.string ⟨#[105,56]⟩,.string ⟨#[105,49,54]⟩,.string ⟨#[105,51,50]⟩,.string ⟨#[105,54,52]⟩,.string ⟨#[116]⟩,.string ⟨#[42]⟩]) (.int .i64 4)).run Tryz.prog W=.ok (.string ⟨#[116]⟩) W:=fun _=>by kernel_rfl
    have T2:=zZ (fun W=>cutPrefix_any y ⟨#[116]⟩ W)
    have hp':=hp.out
    have e:pKs (allK.drop 4) (byt y)=if (kindT 4).isPrefixOf (byt y)=true then some (4,(byt y).drop (kindT 4).length) else pKs (allK.drop 5) (byt y):=rfl
    rw[e] at hp'
    have ek:byt ⟨#[116]⟩=kindT 4:=rfl
    rw[ek] at T2
    have Hp2:=zZ hp'
    clear hp' hp e ek
    generalize (kindT 4).isPrefixOf (byt y)=q at *
    generalize (byt y).drop (kindT 4).length=d at *
    go_wp2_with fail
    refine (T2.out _).mono ?_
    rintro e w2 ⟨z,rfl,hz1,hzs,rfl⟩
    have Hz1:=zZ hz1
    clear hz1
    cases q
    ·go_wp2
     go_roundw
     case rel=>exact⟨5,by omega,by go_num,hB,b1,zZ (by have:=Hp2.out;simpa using this)⟩
     case measure=>simp[intOf]
    ·go_wp2_with fail
     refine (sclone_any x _ (by omega)).mono ?_
     rintro e w3 ⟨rfl,hB3⟩
     go_wp2_with fail
     refine (sclone_any z _ (by omega)).mono ?_
     rintro e w4 ⟨rfl,hB4⟩
     have hB5:=(hB.trans (hB3.mono hB.size)).trans (hB4.mono (Nat.le_trans hB.size hB3.size))
     have b5:=(b1.to hB3).to hB4
     clear hB hB3 hB4 b1
     have hx0:=b5.cell (j:=0) rfl
     have hx1:=b5.cell (j:=1) rfl
     have hx2:=b5.cell (j:=2) rfl
     have hf0:=b5.frozen 0
     have hf1:=b5.frozen 1
     have hf2:=b5.frozen 2
     have Hrw:=zZ (((b5.set 0 (.string x)).set 1 (.int .i64 4)).set 2 (.string z))
     have HBr:=zZ (((hB5.setCell (p:=⟨w.heap.size,0,none⟩) (zW w.heap.size) (.string x)).setCell (p:=⟨w.heap.size,1,none⟩) (zW w.heap.size) (.int .i64 4)).setCell (p:=⟨w.heap.size,2,none⟩) (zW w.heap.size) (.string z))
     go_wp2
     refine ret_cell1 rfl Hrw.out Tryz.underlying81 rfl hsz rfl rfl ?_
     exact⟨_,_,_,_,rfl,by have:=Hp2.out;simp at this;rw[this];exact⟨rfl,rfl,rfl,Hz1.out (by simp)⟩,hxs,by omega,⟨by omega,by omega⟩,HBr.out⟩
   ·have hix:∀ W:World,(Instr.index 233 (.agg #[.string ⟨#[105,56]⟩,.string ⟨#[105,49,54]⟩,.string ⟨#[105,51,50]⟩,.string ⟨#[105,54,52]⟩,.string ⟨#[116]⟩,.string ⟨#[42]⟩]) (.int .i64 5)).run Tryz.prog W=.ok (.string ⟨#[42]⟩) W:=fun _=>by kernel_rfl
    have T2:=zZ (fun W=>cutPrefix_any y ⟨#[42]⟩ W)
    have hp':=hp.out
    have e:pKs (allK.drop 5) (byt y)=if (kindT 5).isPrefixOf (byt y)=true then some (5,(byt y).drop (kindT 5).length) else pKs (allK.drop 6) (byt y):=rfl
    rw[e] at hp'
    have ek:byt ⟨#[42]⟩=kindT 5:=rfl
    rw[ek] at T2
    have Hp2:=zZ hp'
    clear hp' hp e ek
    generalize (kindT 5).isPrefixOf (byt y)=q at *
    generalize (byt y).drop (kindT 5).length=d at *
    go_wp2_with fail
    refine (T2.out _).mono ?_
    rintro e w2 ⟨z,rfl,hz1,hzs,rfl⟩
    have Hz1:=zZ hz1
    clear hz1
    cases q
    ·go_wp2
     go_roundw
     case rel=>exact⟨6,by omega,by go_num,hB,b1,zZ (by have:=Hp2.out;simpa using this)⟩
     case measure=>simp[intOf]
    ·go_wp2_with fail
     refine (sclone_any x _ (by omega)).mono ?_
     rintro e w3 ⟨rfl,hB3⟩
     go_wp2_with fail
     refine (sclone_any z _ (by omega)).mono ?_
     rintro e w4 ⟨rfl,hB4⟩
     have hB5:=(hB.trans (hB3.mono hB.size)).trans (hB4.mono (Nat.le_trans hB.size hB3.size))
     have b5:=(b1.to hB3).to hB4
     clear hB hB3 hB4 b1
     have hx0:=b5.cell (j:=0) rfl
     have hx1:=b5.cell (j:=1) rfl
     have hx2:=b5.cell (j:=2) rfl
     have hf0:=b5.frozen 0
     have hf1:=b5.frozen 1
     have hf2:=b5.frozen 2
     have Hrw:=zZ (((b5.set 0 (.string x)).set 1 (.int .i64 5)).set 2 (.string z))
     have HBr:=zZ (((hB5.setCell (p:=⟨w.heap.size,0,none⟩) (zW w.heap.size) (.string x)).setCell (p:=⟨w.heap.size,1,none⟩) (zW w.heap.size) (.int .i64 5)).setCell (p:=⟨w.heap.size,2,none⟩) (zW w.heap.size) (.string z))
     go_wp2
     refine ret_cell1 rfl Hrw.out Tryz.underlying81 rfl hsz rfl rfl ?_
     exact⟨_,_,_,_,rfl,by have:=Hp2.out;simp at this;rw[this];exact⟨rfl,rfl,rfl,Hz1.out (by simp)⟩,hxs,by omega,⟨by omega,by omega⟩,HBr.out⟩
   ·have hp':=hp.out
    have Hp2:=zZ hp'
    clear hp' hp
    have hx0:=b1.cell (j:=0) rfl
    have hx1:=b1.cell (j:=1) rfl
    have hx2:=b1.cell (j:=2) rfl
    have hf0:=b1.frozen 0
    have hf1:=b1.frozen 1
    have hf2:=b1.frozen 2
    have Hrw:=zZ (((b1.set 0 (.string ⟨#[]⟩)).set 1 (.int .i64 0)).set 2 (.string ⟨#[]⟩))
    have HBr:=zZ (((hB.setCell (p:=⟨w.heap.size,0,none⟩) (zW w.heap.size) (.string ⟨#[]⟩)).setCell (p:=⟨w.heap.size,1,none⟩) (zW w.heap.size) (.int .i64 0)).setCell (p:=⟨w.heap.size,2,none⟩) (zW w.heap.size) (.string ⟨#[]⟩))
    go_wp2
    refine ret_cell1 rfl Hrw.out Tryz.underlying81 rfl hsz rfl rfl ?_
    exact⟨_,_,_,_,rfl,by rw[Hp2.out];exact⟨rfl,rfl,rfl,rfl⟩,Nat.zero_le _,Nat.zero_le _,⟨by omega,by omega⟩,HBr.out⟩
theorem info_fld4:(Tryz.prog.info? 81).map (fun i=>(i.zero,i.size,i.bytes))=some (some (.agg #[.string ⟨#[]⟩,.int .i64 0,.string ⟨#[]⟩]),3,40):=by kernel_rfl
def FsIs (S:Nat→Prop) (w:World) (o:Option (List Fld)) (v:Value) (b:Bool):Prop:=match o with
 | none=>b=false∧v=.slice none 0 0
 | some fs=>b=true∧∃ A c,v=.slice A fs.length c∧rFlds S w [.slice A fs.length c] fs
def mesR:Value→Value→Nat
 | .string r,.bool true=>r.size+1
 | _,_=>0
structure FsAt (w:World) (o:Option (List Fld)) (N:Nat) (r:ByteArray) (v:Value) (m:Bool) (w':World) (pre:List Fld) (xs:List Value):Prop where
 room:r.size≤N
 few:pre.length≤5
 own:w'.ownsRow w.heap.size 81 3 v pre.length xs
 ahead:Chunks 3 (rFld (fun _=>False) w) xs pre
 rest:Hid (o=if m=true then (pFs (5 - pre.length) (byt r)).map (pre++·) else some pre)
 bel:Below w.heap.size w w'
theorem rFld_free {S S':Nat→Prop} {w w':World} {cs:List Value} {f:Fld} (h:rFld S w cs f):rFld S' w' cs f:=h
theorem readFields_any (s:ByteArray) (w:World) (hK:Kt w) (hs:s.size≤140737488355328):
  Calls Tryz.prog 181 #[.string s] w fun e w'=>∃ v b,e=.returned (.tuple #[v,.bool b])∧FsIs (fun b=>w.heap.size≤b∧b<w'.heap.size) w' (readF (byt s)) v b∧Below w.heap.size w w':=by
 obtain⟨i0,hi,hz0,hz1,hz2⟩:=info_parts info_fld4
 have h0:FsAt w (readF (byt s)) s.size s (.slice none 0 0) (!s.toList.isEmpty) w [] []:=⟨zW _,by simp,World.ownsRow_nil _ _ _ _,Chunks.nil,zZ (by
  rw[str_empty,readF]
  cases hb:byt s with
  | nil=>rfl
  | cons a l=>simp),zA _ _⟩
 generalize readF (byt s)=o at *
 go_enter Tryz.func181,Tryz.ntmps181
 go_wp2
 go_loopw [0,4,5] (fun rv lv mv w'=>∃ r v m pre xs,rv=.string r∧lv=v∧mv=.bool m∧FsAt w o s.size r v m w' pre xs) (fun rv _ mv _=>mesR rv mv)
 case atStart=>exact⟨s,_,_,[],[],rfl,rfl,rfl,h0⟩
 case round=>
  rename_i iv wr
  obtain⟨r,v,m,pre,xs,rfl,hv,rfl,H⟩:=hrel
  subst hv
  clear h0
  obtain⟨hroom,hfew,hown,hch,hrest,hB⟩:=H
  cases m
  ·have hrest':=hrest.out
   simp only[Bool.false_eq_true,if_false] at hrest'
   have Hr:=zZ hrest'
   clear hrest hrest'
   go_wp2
   go_ret2
   obtain⟨A,c,rfl,hnc,hcm,hrd⟩:=own_in hown
   refine⟨_,_,rfl,?_,hB⟩
   rw[Hr.out]
   exact⟨rfl,A,c,rfl,A,c,xs,rfl,hnc,hcm,hrd,hch.imp fun cs a h=>rFld_free h⟩
  ·have hrest':=hrest.out
   simp only[if_true] at hrest'
   have Hr:=zZ hrest'
   clear hrest hrest'
   have T1:=zZ (fun W=>cut_any r 44 W (by omega) (by simp only[maxLen];omega))
   have hl:=cutL_len 44 (byt r)
   rw[byt_length] at hl
   have Hstep:Hid (∀ n,pFs (n+1) (byt r)=match pF (cutL 44 (byt r)).1 with
    | none=>none
    | some f=>if (cutL 44 (byt r)).2.2=true then (pFs n (cutL 44 (byt r)).2.1).map (f :: ·) else some [f]):=zZ (fun n=>rfl)
   have Hl:=zZ hl
   clear hl
   generalize cutL 44 (byt r)=q at *
   obtain⟨q1,q2,q3⟩:=q
   go_wp2_with fail
   refine (T1.out _).mono ?_
   rintro e w1 ⟨x,y,rfl,hx,hy,hB1⟩
   subst hx hy
   have hxs:x.size≤r.size:=by rw[← byt_length];exact Hl.out.1
   have hys:y.size≤r.size:=by rw[← byt_length];exact Hl.out.2.1
   have hBw:=hB.trans (hB1.mono hB.size)
   have hown1:=own_below hown hB1
   have T2:=zZ (readField_any x w1 (hK.below hBw) (by omega))
   clear T1 hB hB1 hown
   have Hch:=zZ hch
   clear hch
   go_wp2_with fail
   refine T2.out.mono ?_
   rintro e w2 ⟨x',y',k',b',rfl,hfi,hxs',hys',hk',hB2⟩
   clear T2
   have hBw2:=hBw.trans (hB2.mono hBw.size)
   have hown2:=own_below hown1 hB2
   clear hBw hB2 hown1
   obtain⟨A,c,hv⟩:∃ A c,u4=.slice A pre.length c:=by
    obtain⟨A,c,hv,_⟩:=own_in hown2
    exact⟨A,c,hv⟩
   subst hv
   cases hpf:pF (byt x) with
   | none=>
    rw[hpf] at hfi
    obtain⟨rfl,_⟩:=hfi
    have Ho:Hid (o=none):=zZ (by
     rw[Hr.out]
     cases 5 - pre.length with
     | zero=>rfl
     | succ n=>rw[Hstep.out];simp only[hpf];rfl)
    clear Hr Hstep hpf
    go_wp2
    go_ret2
    exact⟨_,_,rfl,by rw[Ho.out];exact⟨rfl,rfl⟩,hBw2.alloc hBw2.size _⟩
   | some f=>
    rw[hpf] at hfi
    obtain⟨rfl,hfx,hfk,hfy⟩:=hfi
    by_cases h5:pre.length=5
    ·have Ho:Hid (o=none):=zZ (by rw[Hr.out,h5];rfl)
     have h5':((pre.length:Int) == 5)=true:=by rw[h5];rfl
     clear Hr Hstep hpf
     go_wp2
     go_ret2
     exact⟨_,_,rfl,by rw[Ho.out];exact⟨rfl,rfl⟩,hBw2.alloc hBw2.size _⟩
    ·have h5':((pre.length:Int) == 5)=false:=by simp;omega
     have Ho:Hid (o=if q3=true then (pFs (5 - (pre++[f]).length) (byt y)).map ((pre++[f])++·) else some (pre++[f])):=zZ (by
      obtain⟨n,hn⟩:∃ n,5 - pre.length=n+1:=⟨4 - pre.length,by omega⟩
      have hn':5 - (pre++[f]).length=n:=by rw[List.length_append,List.length_cons,List.length_nil];omega
      rw[Hr.out,hn,Hstep.out,hn']
      simp only[hpf]
      cases q3
      ·simp
      ·simp only[if_true,Option.map_map]
       congr 1
       funext z
       simp)
     clear Hr Hstep hpf
     have hA:Below w2.heap.size w2 ((w2.alloc (.cells #[.string x',.int .i64 k',.string y'] 81)).alloc (.cells #[.string x',.int .i64 k',.string y'] 81)):=((zA _ w2).alloc (zW _) _).alloc (by simp) _
     have hbx:Rd ((w2.alloc (.cells #[.string x',.int .i64 k',.string y'] 81)).alloc (.cells #[.string x',.int .i64 k',.string y'] 81)) (some ⟨w2.heap.size+1,0,none⟩) [.string x',.int .i64 k',.string y']:=by
      have:=(Blk.new (w2.alloc (.cells #[.string x',.int .i64 k',.string y'] 81)) 81 [.string x',.int .i64 k',.string y']).rd
      rw[show (w2.alloc (.cells #[.string x',.int .i64 k',.string y'] 81)).heap.size=w2.heap.size+1 by simp] at this
      exact this
     have hown3:=own_below hown2 hA
     have hB3:=hBw2.trans (hA.mono hBw2.size)
     have hwf:(Lit.int .i64 k').wf=true:=by
      simp[Lit.wf,IntKind.min,IntKind.max,IntKind.signed,IntKind.bits]
      omega
     have Hch3:=zZ (Hch.out.append (Chunks.one (size:=3) rfl (rFld_mk (f:=f) hfx hfy (by simp only[maxLen];omega) (by simp only[maxLen];omega) (by rw[← hfk];exact hwf))))
     rw[← hfk] at Hch3
     clear Hch hA hown2 hBw2 hwf hfx hfy hfk
     cases q3
     all_goals
      go_wp2_with (first
       | (at_builtin;refine wpList_apps rfl (.tmp 30) (.tmp 32) 42 rfl w.heap.size 81 i0 (.agg #[.string ⟨#[]⟩,.int .i64 0,.string ⟨#[]⟩]) 3 40 Tryz.underlying42 hi hz0 hz1 hz2 rfl (by omega) (.slice A pre.length c) pre.length xs rfl hown3 (some ⟨w2.heap.size+1,0,none⟩) 1 1 [.string x',.int .i64 k',.string y'] rfl rfl hbx (by simp[Value.oneCell']) (by simp only[maxLen];omega) (by omega) hB3.size ?_;intro v4 w4 hown4 hg4 hv4)
       | fail)
      go_roundw
     ·exact⟨y,v4,false,pre++[f],_,rfl,rfl,rfl,by omega,by rw[List.length_append,List.length_cons,List.length_nil];omega,by rw[List.length_append];exact hown4,Hch3.out,zZ (by have:=Ho.out;simpa using this),hB3.grown hg4 hB3.size (fun k hk=>(hown3.lt k hk).1)⟩
     ·show 0<r.size+1
      omega
     ·exact⟨y,v4,true,pre++[f],_,rfl,rfl,rfl,by omega,by rw[List.length_append,List.length_cons,List.length_nil];omega,by rw[List.length_append];exact hown4,Hch3.out,zZ (by have:=Ho.out;simpa using this),hB3.grown hg4 hB3.size (fun k hk=>(hown3.lt k hk).1)⟩
     ·show y.size+1<r.size+1
      have:=Hl.out.2.2 trivial
      rw[byt_length] at this
      omega
theorem info_typ:(Tryz.prog.info? 44).map (fun i=>(i.zero,i.size))=some (some (.agg #[.string ⟨#[]⟩,.slice none 0 0]),2):=by kernel_rfl
def TIs (S:Nat→Prop) (w:World) (o:Option (Typ × List Nat)) (x:ByteArray) (v:Value) (r:ByteArray) (b:Bool):Prop:=match o with
 | none=>b=false
 | some t=>b=true∧byt x=t.1.1∧byt r=t.2∧rFlds S w [v] t.1.2
theorem Keeps.set {S:Nat→Prop} {w:World} {g:Nat} (h:∀ b,S b→b≠g) (j:Nat) (u:Value):Keeps S S w (w.setCell ⟨g,j,none⟩ u):=fun b hb=>⟨hb,heap_setCell_other w ⟨g,j,none⟩ b u (h b hb)⟩
theorem readType_any (s:ByteArray) (w:World) (hK:Kt w) (hs:s.size≤140737488355328):
  Calls Tryz.prog 152 #[.string s] w fun e w'=>∃ x A n c r b,e=.returned (.tuple #[.agg #[.string x,.slice A n c],.string r,.bool b])∧TIs (fun b=>w.heap.size<b∧b<w'.heap.size) w' (pT (byt s)) x (.slice A n c) r b∧x.size≤s.size∧r.size≤s.size∧Below w.heap.size w w':=by
 obtain⟨hz,hsz⟩:=zero_of_info info_typ
 have hB0:Below w.heap.size w (w.alloc (.cells #[.string ⟨#[]⟩,.slice none 0 0] 44)):=(zA _ w).alloc (zW _) _
 have b0:=Blk.new w 44 [.string ⟨#[]⟩,.slice none 0 0]
 have T1:=zZ (fun W=>cut_any s 123 W (by omega) (by simp only[maxLen];omega))
 have hpt:pT (byt s)=if (cutL 123 (byt s)).2.2=true∧(cutL 125 (cutL 123 (byt s)).2.1).2.2=true then (readF (cutL 125 (cutL 123 (byt s)).2.1).1).map (fun fs=>(((cutL 123 (byt s)).1,fs),(cutL 125 (cutL 123 (byt s)).2.1).2.1)) else none:=rfl
 have hl:=cutL_len 123 (byt s)
 rw[byt_length] at hl
 have Hpt:=zZ hpt
 have Hl:=zZ hl
 clear hpt hl
 generalize pT (byt s)=o at *
 generalize cutL 123 (byt s)=q at *
 obtain⟨q1,q2,q3⟩:=q
 go_enter Tryz.func152,Tryz.ntmps152
 go_wp2_with fail
 refine (T1.out _).mono ?_
 rintro e w1 ⟨x,y,rfl,hx,hy,hB1⟩
 have hxs:x.size≤s.size:=by rw[← byt_length,hx];exact Hl.out.1
 have hys:y.size≤s.size:=by rw[← byt_length,hy];exact Hl.out.2.1
 subst hx hy
 have T2:=zZ (fun W=>cut_any y 125 W (by omega) (by simp only[maxLen];omega))
 have hl2:=cutL_len 125 (byt y)
 rw[byt_length] at hl2
 have Hl2:=zZ hl2
 clear hl2 Hl T1
 generalize cutL 125 (byt y)=p at *
 obtain⟨p1,p2,p3⟩:=p
 go_wp2_with fail
 refine (T2.out _).mono ?_
 rintro e w2 ⟨x2,y2,rfl,hx2,hy2,hB2⟩
 have hxs2:x2.size≤y.size:=by rw[← byt_length,hx2];exact Hl2.out.1
 have hys2:y2.size≤y.size:=by rw[← byt_length,hy2];exact Hl2.out.2.1
 subst hx2 hy2
 have hBw:=(hB0.trans (hB1.mono hB0.size)).trans (hB2.mono (Nat.le_trans hB0.size hB1.size))
 have b2:Blk w2 w.heap.size 44 [.string ⟨#[]⟩,.slice none 0 0]:=(b0.to hB1).to hB2
 have hlt:=b2.lt
 clear T2 hB0 hB1 hB2 b0 Hl2
 by_cases hq:q3=true∧p3=true
 ·obtain⟨rfl,rfl⟩:=hq
  have T3:=zZ (fun W hW=>readFields_any x2 W hW (by omega))
  have hpt:=Hpt.out
  simp only[and_self,if_true] at hpt
  have Hp:=zZ hpt
  clear hpt Hpt
  generalize readF (byt x2)=ro at *
  have hK2:=hK.below hBw
  go_wp2_with fail
  refine (T3.out _ hK2).mono ?_
  rintro e w3 ⟨v,b,rfl,hfs,hB3⟩
  have hB3':=hBw.trans (hB3.mono hBw.size)
  have b3:=b2.to hB3
  go_wp2_with fail
  refine (sclone_any x _ (by omega)).mono ?_
  rintro e w4 ⟨rfl,hB4⟩
  have hB5:=hB3'.trans (hB4.mono hB3'.size)
  have b5:=b3.to hB4
  obtain⟨A,n,c,rfl⟩:∃ A n c,v=.slice A n c:=by
   cases ro with
   | none=>exact⟨none,0,0,hfs.2⟩
   | some fs=>obtain⟨_,A,c,hv,_⟩:=hfs;exact⟨A,_,c,hv⟩
  have hx0:=b5.cell (j:=0) rfl
  have hx1:=b5.cell (j:=1) rfl
  have hf0:=b5.frozen 0
  have hf1:=b5.frozen 1
  have Hrw:=zZ ((b5.set 0 (.string x)).set 1 (.slice A n c))
  have HBr:=zZ ((hB5.setCell (p:=⟨w.heap.size,0,none⟩) (zW w.heap.size) (.string x)).setCell (p:=⟨w.heap.size,1,none⟩) (zW w.heap.size) (.slice A n c))
  have Hkeep:Hid (Keeps (fun b=>w2.heap.size≤b∧b<w3.heap.size) (fun b=>w.heap.size<b∧b<((w4.setCell ⟨w.heap.size,0,none⟩ (.string x)).setCell ⟨w.heap.size,1,none⟩ (.slice A n c)).heap.size) w3 ((w4.setCell ⟨w.heap.size,0,none⟩ (.string x)).setCell ⟨w.heap.size,1,none⟩ (.slice A n c))):=zZ (fun b hb=>by
   have h1:=Keeps.set (S:=fun b=>w2.heap.size≤b∧b<w3.heap.size) (w:=w4) (g:=w.heap.size) (fun b hb=>by omega) 0 (.string x) b hb
   have h2:=Keeps.set (S:=fun b=>w2.heap.size≤b∧b<w3.heap.size) (w:=w4.setCell ⟨w.heap.size,0,none⟩ (.string x)) (g:=w.heap.size) (fun b hb=>by omega) 1 (.slice A n c) b hb
   refine⟨⟨by omega,?_⟩,?_⟩
   ·have:=hB4.size
    simp
    omega
   ·rw[h2.2,h1.2]
    exact hB4.block b hb.2)
  have Hfs:=zZ hfs
  clear hfs hB3 hB3' hB4 hB5 b3 b2
  go_wp2
  refine ret_cell2 rfl Hrw.out Tryz.underlying44 rfl hsz rfl rfl ?_
  refine⟨_,_,_,_,_,_,rfl,?_,hxs,by omega,HBr.out⟩
  have h1:=Hfs.out
  have h2:=Hp.out
  cases ro with
  | none=>
   rw[h2]
   exact h1.1
  | some fs=>
   rw[h2]
   obtain⟨rfl,A',c',hv,h3⟩:=h1
   refine⟨rfl,rfl,rfl,?_⟩
   rw[hv]
   exact rFlds_stays.to (by rw[← hv];exact Hkeep.out) h3
 ·have hpt:=Hpt.out
  rw[if_neg hq] at hpt
  have Hp:=zZ hpt
  clear hpt Hpt
  have hx0:=b2.cell (j:=0) rfl
  have hx1:=b2.cell (j:=1) rfl
  have hf0:=b2.frozen 0
  have hf1:=b2.frozen 1
  have Hrw:=zZ ((b2.set 0 (.string ⟨#[]⟩)).set 1 (.slice none 0 0))
  have HBr:=zZ ((hBw.setCell (p:=⟨w.heap.size,0,none⟩) (zW w.heap.size) (.string ⟨#[]⟩)).setCell (p:=⟨w.heap.size,1,none⟩) (zW w.heap.size) (.slice none 0 0))
  cases q3
  ·clear hq
   go_wp2
   refine ret_cell2 rfl Hrw.out Tryz.underlying44 rfl hsz rfl rfl ?_
   exact⟨_,_,_,_,_,_,rfl,by rw[Hp.out];rfl,Nat.zero_le _,Nat.zero_le _,HBr.out⟩
  ·cases p3
   ·clear hq
    go_wp2
    refine ret_cell2 rfl Hrw.out Tryz.underlying44 rfl hsz rfl rfl ?_
    exact⟨_,_,_,_,_,_,rfl,by rw[Hp.out];rfl,Nat.zero_le _,Nat.zero_le _,HBr.out⟩
   ·exact absurd ⟨rfl,rfl⟩ hq
theorem info_typ4:(Tryz.prog.info? 44).map (fun i=>(i.zero,i.size,i.bytes))=some (some (.agg #[.string ⟨#[]⟩,.slice none 0 0]),2,40):=by kernel_rfl
theorem info_sch:(Tryz.prog.info? 24).map (fun i=>(i.zero,i.size))=some (some (.agg #[.slice none 0 0]),1):=by kernel_rfl
abbrev Oth (base:Nat) (v:Value) (w:World):Nat→Prop:=fun b=>(base≤b∧b<w.heap.size)∧some b≠v.ownBlock
theorem own_rSlice' {α:Type} {R:Reader α} (hR:Stays R) {w:World} {base e size n:Nat} {v:Value} {xs:List Value} {l:List α} (h:w.ownsRow base e size v n xs) (hn:l.length=n) (hc:Chunks size (R (Oth base v w) w) xs l):
  ∃ A c,v=.slice A n c∧rSlice size R (fun b=>base≤b∧b<w.heap.size) w [v] l:=by
 have hch:=hc.imp (R':=R (fun b=>base≤b∧b<w.heap.size) w) fun cs a h=>hR.to (Keeps.mono fun b hb=>hb.1) h
 obtain⟨A,c,rfl,hnc,hcm,hrd⟩:=own_in h
 exact⟨A,c,rfl,A,c,xs,by rw[hn],by omega,hcm,hrd,hch⟩
def TsIs (S:Nat→Prop) (w:World) (o:Option Sch) (v:Value) (b:Bool):Prop:=match o with
 | none=>b=false∧v=.slice none 0 0
 | some l=>b=true∧∃ A c,v=.slice A l.length c∧rSch S w [.slice A l.length c] l
def sizeS:Value→Nat
 | .string r=>r.size
 | _=>0
structure TsAt (w:World) (o:Option Sch) (N:Nat) (r:ByteArray) (v:Value) (w':World) (pre:Sch) (xs:List Value):Prop where
 room:r.size≤N
 few:pre.length≤4
 own:w'.ownsRow w.heap.size 44 2 v pre.length xs
 ahead:Chunks 2 (rTyp (Oth w.heap.size v w') w') xs pre
 rest:Hid (o=(pTs (4 - pre.length) (byt r)).map (pre++·))
 bel:Below w.heap.size w w'
theorem pTs_nil (n:Nat):pTs n []=some []:=by cases n <;> rfl
theorem pTs_0 {l:List Nat} (h:l≠[]):pTs 0 l=none:=by rw[pTs,if_neg h]
theorem pTs_s {l:List Nat} (h:l≠[]) (n:Nat):pTs (n+1) l=match pT l with
  | none=>none
  | some x=>(pTs n x.2).map (x.1 :: ·):=by rw[pTs,if_neg h];cases pT l <;> rfl
theorem Keeps.oth {base:Nat} {w w':World} {v v':Value} (hg:w.grownBy w' v.ownBlock) (hv:v'.ownBlock=v.ownBlock∨v'.ownBlock=some w.heap.size):Keeps (Oth base v w) (Oth base v' w') w w':=fun b h=>by
 have:=Keeps.grown hg hv b ⟨h.1.2,h.2⟩
 exact⟨⟨⟨h.1.1,this.1.1⟩,this.1.2⟩,this.2⟩
theorem readTypes_any (s:ByteArray) (w:World) (hK:Kt w) (hs:s.size≤140737488355328):
  Calls Tryz.prog 117 #[.string s] w fun e w'=>∃ v b,e=.returned (.tuple #[v,.bool b])∧TsIs (fun b=>w.heap.size≤b∧b<w'.heap.size) w' (pTs 4 (byt s)) v b∧Below w.heap.size w w':=by
 obtain⟨i0,hi,hz0,hz1,hz2⟩:=info_parts info_typ4
 have h0:TsAt w (pTs 4 (byt s)) s.size s (.slice none 0 0) w [] []:=⟨zW _,by simp,World.ownsRow_nil _ _ _ _,Chunks.nil,zZ (by simp),zA _ _⟩
 generalize pTs 4 (byt s)=o at *
 go_enter Tryz.func117,Tryz.ntmps117
 go_wp2
 go_loopw [0,4] (fun rv lv w'=>∃ r v pre xs,rv=.string r∧lv=v∧TsAt w o s.size r v w' pre xs) (fun rv _ _=>sizeS rv)
 case atStart=>exact⟨s,_,[],[],rfl,rfl,h0⟩
 case round=>
  rename_i iv wr
  obtain⟨r,v,pre,xs,rfl,hv,H⟩:=hrel
  subst hv
  clear h0
  obtain⟨hroom,hfew,hown,hch,hrest,hB⟩:=H
  have hemp:=str_empty r
  by_cases hr0:byt r=[]
  ·have hrest':=hrest.out
   rw[hr0,pTs_nil] at hrest'
   rw[hr0] at hemp
   simp only[List.isEmpty_nil] at hemp
   have Hr:=zZ hrest'
   clear hrest hrest' hr0
   go_wp2
   go_ret2
   obtain⟨A,c,rfl,hsl⟩:=own_rSlice' rTyp_stays hown rfl hch
   refine⟨_,_,rfl,?_,hB⟩
   rw[Hr.out]
   exact⟨rfl,A,c,by simp,by simpa using hsl⟩
  ·have hemp':r.toList.isEmpty=false:=by rw[hemp];cases hb:byt r with
    | nil=>exact absurd hb hr0
    | cons a l=>rfl
   clear hemp
   have T1:=zZ (readType_any r wr (hK.below hB) (by omega))
   have Hless:=zZ (fun x=>pT_less (l:=byt r) (x:=x))
   have Hs:=zZ (fun n=>pTs_s hr0 n)
   have Hz:=zZ (pTs_0 hr0)
   have Hch:=zZ hch
   clear hch hr0
   generalize pT (byt r)=q at *
   go_wp2_with fail
   refine T1.out.mono ?_
   rintro e w1 ⟨x,A2,n2,c2,y,b,rfl,hti,hxs,hys,hB1⟩
   clear T1
   have hBw:=hB.trans (hB1.mono hB.size)
   have hown1:=own_below hown hB1
   have hlt0:=hown.lt
   obtain⟨A,c,hv⟩:∃ A c,u4=.slice A pre.length c:=by
    obtain⟨A,c,hv,_⟩:=own_in hown1
    exact⟨A,c,hv⟩
   subst hv
   cases q with
   | none=>
    have hb:b=false:=hti
    subst hb
    have Ho:Hid (o=none):=zZ (by
     rw[hrest.out]
     cases 4 - pre.length with
     | zero=>rw[Hz.out];rfl
     | succ n=>rw[Hs.out];rfl)
    clear Hs Hz hrest
    go_wp2
    go_ret2
    exact⟨_,_,rfl,by rw[Ho.out];exact⟨rfl,rfl⟩,hBw.alloc hBw.size _⟩
   | some t=>
    obtain⟨rfl,htx,hty,htf⟩:=hti
    by_cases h4:pre.length=4
    ·have Ho:Hid (o=none):=zZ (by rw[hrest.out,h4,Hz.out];rfl)
     have h4':((pre.length:Int) == 4)=true:=by rw[h4];rfl
     clear Hs Hz hrest
     go_wp2
     go_ret2
     exact⟨_,_,rfl,by rw[Ho.out];exact⟨rfl,rfl⟩,hBw.alloc hBw.size _⟩
    ·have h4':((pre.length:Int) == 4)=false:=by simp;omega
     have Ho:Hid (o=(pTs (4 - (pre++[t.1]).length) (byt y)).map ((pre++[t.1])++·)):=zZ (by
      obtain⟨n,hn⟩:∃ n,4 - pre.length=n+1:=⟨3 - pre.length,by omega⟩
      have hn':4 - (pre++[t.1]).length=n:=by rw[List.length_append,List.length_cons,List.length_nil];omega
      rw[hrest.out,hn,Hs.out,hn',hty]
      simp only[Option.map_map]
      congr 1
      funext z
      simp)
     have hyl:y.size<r.size:=by
      have:=Hless.out t rfl
      rw[← hty,byt_length,byt_length] at this
      exact this
     clear Hs Hz hrest Hless
     have hA:Below w1.heap.size w1 ((w1.alloc (.cells #[.string x,.slice A2 n2 c2] 44)).alloc (.cells #[.string x,.slice A2 n2 c2] 44)):=((zA _ w1).alloc (zW _) _).alloc (by simp) _
     have hbx:Rd ((w1.alloc (.cells #[.string x,.slice A2 n2 c2] 44)).alloc (.cells #[.string x,.slice A2 n2 c2] 44)) (some ⟨w1.heap.size+1,0,none⟩) [.string x,.slice A2 n2 c2]:=by
      have:=(Blk.new (w1.alloc (.cells #[.string x,.slice A2 n2 c2] 44)) 44 [.string x,.slice A2 n2 c2]).rd
      rw[show (w1.alloc (.cells #[.string x,.slice A2 n2 c2] 44)).heap.size=w1.heap.size+1 by simp] at this
      exact this
     have hown3:=own_below hown1 hA
     have hB3:=hBw.trans (hA.mono hBw.size)
     generalize hW3:((w1.alloc (.cells #[.string x,.slice A2 n2 c2] 44)).alloc (.cells #[.string x,.slice A2 n2 c2] 44))=w3 at hA hbx hown3 hB3
     have hkn:Keeps (fun b=>wr.heap.size<b∧b<w1.heap.size) (Oth w.heap.size (.slice A pre.length c) w3) w1 w3:=fun b ⟨h1,h2⟩=>
      ⟨⟨⟨by have:=hB.size;omega,Nat.lt_of_lt_of_le h2 hA.size⟩,fun e=>by have:=(hlt0 b e.symm).2;omega⟩,hA.block b h2⟩
     have hko:Keeps (Oth w.heap.size (.slice A pre.length c) wr) (Oth w.heap.size (.slice A pre.length c) w3) wr w3:=fun b ⟨⟨h1,h2⟩,h3⟩=>
      ⟨⟨⟨h1,by have:=hB1.size;have:=hA.size;omega⟩,h3⟩,(hA.block b (by have:=hB1.size;omega)).trans (hB1.block b h2)⟩
     have Hch3:=zZ ((Hch.out.imp (fun cs a h=>rTyp_stays.to hko h)).append (Chunks.one (size:=2) rfl (rTyp_mk (t:=t.1) htx (by simp only[maxLen];omega) (rFlds_stays.to hkn htf))))
     clear Hch hkn hko htx hty htf hB hB1 hown hown1 hlt0 hA hBw
     subst hW3
     go_wp2_with (first
      | (at_builtin;refine wpList_apps rfl (.tmp 23) (.tmp 25) 22 rfl w.heap.size 44 i0 (.agg #[.string ⟨#[]⟩,.slice none 0 0]) 2 40 Tryz.underlying22 hi hz0 hz1 hz2 rfl (by omega) (.slice A pre.length c) pre.length xs rfl hown3 (some ⟨w1.heap.size+1,0,none⟩) 1 1 [.string x,.slice A2 n2 c2] rfl rfl hbx (by simp[Value.oneCell']) (by simp only[maxLen];omega) (by omega) hB3.size ?_;intro v4 w4 hown4 hg4 hv4)
      | fail)
     go_roundw
     case rel=>
      exact⟨y,v4,pre++[t.1],_,rfl,rfl,by omega,by rw[List.length_append,List.length_cons,List.length_nil];omega,by rw[List.length_append];exact hown4,Hch3.out.imp (fun cs a h=>rTyp_stays.to (Keeps.oth hg4 hv4) h),Ho,hB3.grown hg4 hB3.size (fun k hk=>(hown3.lt k hk).1)⟩
     case measure=>
      show y.size<r.size
      exact hyl
def SIs (S:Nat→Prop) (w:World) (o:Option Sch) (A:Option Addr) (n c:Nat) (b:Bool):Prop:=b=o.isSome∧n=(o.getD []).length∧rSch S w [.slice A n c] (o.getD [])∧(o=none→A=none∧c=0)
theorem read_any (s:ByteArray) (w:World) (hK:Kt w) (hs:s.size≤140737488355328):
  Calls Tryz.prog 84 #[.string s] w fun e w'=>∃ A n c b,e=.returned (.tuple #[.agg #[.slice A n c],.bool b])∧SIs (fun b=>w.heap.size≤b∧b<w'.heap.size) w' (readS (byt s)) A n c b∧Below w.heap.size w w':=by
 obtain⟨hz,hsz⟩:=zero_of_info info_sch
 have hB0:Below w.heap.size w (w.alloc (.cells #[.slice none 0 0] 24)):=(zA _ w).alloc (zW _) _
 have b0:=Blk.new w 24 [.slice none 0 0]
 have T1:=zZ (readTypes_any s (w.alloc (.cells #[.slice none 0 0] 24)) (hK.below hB0) hs)
 have hrs:readS (byt s)=match pTs 4 (byt s) with
  | none=>none
  | some l=>if mayS l=true then some l else none:=rfl
 have Hrs:=zZ hrs
 clear hrs
 generalize readS (byt s)=o at *
 generalize pTs 4 (byt s)=p at *
 go_enter Tryz.func84,Tryz.ntmps84
 go_wp2_with fail
 refine T1.out.mono ?_
 rintro e w1 ⟨v,b,rfl,hti,hB1⟩
 have hBw:=hB0.trans (hB1.mono hB0.size)
 have b1:Blk w1 w.heap.size 24 [.slice none 0 0]:=b0.to hB1
 have hnil:∀ (S:Nat→Prop) (W:World),rSch S W [.slice none 0 0] []:=fun S W=>⟨none,0,[],rfl,zW _,Nat.zero_le _,.inl rfl,Chunks.nil⟩
 have hlt:=b1.lt
 simp only[World.size_alloc] at hti
 clear T1 b0 hB0 hB1
 cases p with
 | none=>
  obtain⟨rfl,rfl⟩:=hti
  have Ho:=zZ Hrs.out
  clear Hrs
  have b2:=b1.alloc (.cells #[.slice none 0 0] 24)
  have hx0:=b2.cell (j:=0) rfl
  have hf0:=b2.frozen 0
  have Hrw:=zZ ((b1.set 0 (.slice none 0 0)).alloc (.cells #[.slice none 0 0] 24))
  have HBr:=zZ ((hBw.setCell (p:=⟨w.heap.size,0,none⟩) (zW w.heap.size) (.slice none 0 0)).alloc (by simp;exact hBw.size) (.cells #[.slice none 0 0] 24))
  go_wp2
  refine ret_cell1 rfl Hrw.out Tryz.underlying24 rfl hsz rfl rfl ?_
  exact⟨_,_,_,_,rfl,by rw[Ho.out];exact⟨rfl,rfl,hnil _ _,fun _=>⟨rfl,rfl⟩⟩,HBr.out⟩
 | some l=>
  obtain⟨rfl,A,c,rfl,hl⟩:=hti
  have hB2:Below w1.heap.size w1 (w1.alloc (.cells #[.slice A l.length c] 24)):=(zA _ w1).alloc (zW _) _
  have hl2:rSch (All (w1.alloc (.cells #[.slice A l.length c] 24))) (w1.alloc (.cells #[.slice A l.length c] 24)) [.slice A l.length c] l:=rSch_stays.to (fun b hb=>⟨Nat.lt_of_lt_of_le hb.2 hB2.size,hB2.block b hb.2⟩) hl
  have T2:=zZ (may_any A l.length c l _ hl2)
  have b2:=b1.to hB2
  have b3:=Blk.new w1 24 [.slice A l.length c]
  have hBw2:=hBw.trans (hB2.mono hBw.size)
  have ho:o=if mayS l=true then some l else none:=Hrs.out
  have Ho:=zZ ho
  clear Hrs hl2 ho
  generalize mayS l=m at *
  go_wp2_with fail
  refine T2.out.mono ?_
  rintro e w3 ⟨rfl,hB3⟩
  have b2':=b2.to hB3
  have b3':Blk w3 w1.heap.size 24 [.slice A l.length c]:=b3.to hB3
  have hBw3:=hBw2.trans (hB3.mono hBw2.size)
  have hx0:=b2'.cell (j:=0) rfl
  have hf0:=b2'.frozen 0
  have hx1:=b3'.cell (j:=0) rfl
  cases m
  ·have Hrw:=zZ (b2'.set 0 (.slice none 0 0))
   have HBr:=zZ (hBw3.setCell (p:=⟨w.heap.size,0,none⟩) (zW w.heap.size) (.slice none 0 0))
   go_wp2
   refine ret_cell1 rfl Hrw.out Tryz.underlying24 rfl hsz rfl rfl ?_
   exact⟨_,_,_,_,rfl,by have:=Ho.out;simp at this;rw[this];exact⟨rfl,rfl,hnil _ _,fun _=>⟨rfl,rfl⟩⟩,HBr.out⟩
  ·have Hrw:=zZ (b2'.set 0 (.slice A l.length c))
   have HBr:=zZ (hBw3.setCell (p:=⟨w.heap.size,0,none⟩) (zW w.heap.size) (.slice A l.length c))
   have Hkeep:Hid (Keeps (fun b=>w.heap.size+1≤b∧b<w1.heap.size) (fun b=>w.heap.size≤b∧b<(w3.setCell ⟨w.heap.size,0,none⟩ (.slice A l.length c)).heap.size) w1 (w3.setCell ⟨w.heap.size,0,none⟩ (.slice A l.length c))):=zZ (fun b hb=>by
    have h1:=Keeps.set (S:=fun b=>w.heap.size+1≤b∧b<w1.heap.size) (w:=w3) (g:=w.heap.size) (fun b hb=>by omega) 0 (.slice A l.length c) b hb
    refine⟨⟨by omega,?_⟩,?_⟩
    ·have:=hB3.size
     have:=hB2.size
     simp
     omega
    ·rw[h1.2,hB3.block b (by have:=hB2.size;omega)]
     exact hB2.block b hb.2)
   have Hl:=zZ hl
   clear hl
   go_wp2
   refine ret_cell1 rfl Hrw.out Tryz.underlying24 rfl hsz rfl rfl ?_
   refine⟨_,_,_,_,rfl,?_,HBr.out⟩
   have:=Ho.out
   simp at this
   rw[this]
   exact⟨rfl,rfl,rSch_stays.to Hkeep.out Hl.out,fun h=>by cases h⟩
end Go.Proofs.YtdlkmjfbmenedaaGreatDoor
