/- The texts CoErr, CoAnsU, CoAnsB, CoAnsG, CoRow, CoRootsOf, CoPart, CoObjOf, CoGraphOf, CoParts, CoPut, CoCallPut, CoCallSum, CoGet, CoGetAll in one (as far as the seat has what they speak of); what each proves, and its conditions, stands before it. -/
import Derived.Test.YtnljjnkindjeoaaGreatDoorGCanon
import Derived.Tactics2
import Derived.Defers
import Derived.Recover
import Derived.Test.YtnljjnkindjeoaaGreatDoorGGen
import Derived.Lib.ConvBytes
import Derived.Test.YtnljjnkindjeoaaGreatDoorCoSum
import Derived.Test.YtnljjnkindjeoaaGreatDoorGVari
import Derived.Test.YtnljjnkindjeoaaGreatDoorGValue
import Derived.Test.YtnljjnkindjeoaaGreatDoorGText
import Derived.Test.YtnljjnkindjeoaaGreatDoorGFlow
import Derived.Test.YtnljjnkindjeoaaGreatDoorGCrc
import Derived.Test.YtnljjnkindjeoaaGreatDoorAl
set_option maxRecDepth 100000
set_option maxHeartbeats 2000000
namespace Go.Proofs.YtnljjnkindjeoaaGreatDoor
open Go.RowKit
def Wrong (n:Int):Ending:=.panicked [{ v:=.iface 36 (.int .i64 n),recovered:=false }]
theorem must_yes (n:Int) (w:World):Calls Tryz.prog 130 #[.bool true,.int .i64 n] w fun e w'=>e=.returned (.tuple #[])∧w=w':=by
 go_enter Tryz.func130,Tryz.ntmps130
 go_wp2
 first | go_end0 | refine bodyPost_ret (results_none rfl _ _ _) rfl ?_
 exact⟨rfl,rfl⟩
theorem must_no (n:Int) (w:World):Calls Tryz.prog 130 #[.bool false,.int .i64 n] w fun e w'=>e=Wrong n∧w=w':=by
 go_enter Tryz.func130,Tryz.ntmps130
 go_wp2
 exact⟨rfl,rfl,rfl⟩
theorem setCell_here {w:World} {k:Nat} {t:TypeId} {u:Value} (h:Blk w k t [u]):w.setCell ⟨k,0,none⟩ u=w:=by
 have h1:=h.set 0 u
 have hh:(w.setCell ⟨k,0,none⟩ u).heap=w.heap:=by
  apply Array.ext_getElem?
  intro j
  by_cases hj:j=k
  ·subst hj
   exact h1.trans h.symm
  ·exact Below.heap_setCell _ _ _ _ hj
 have:w.setCell ⟨k,0,none⟩ u={ w with heap:=(w.setCell ⟨k,0,none⟩ u).heap }:=rfl
 rw[this,hh]
theorem catchU_bad (k:Nat) (x n:Int) (older:List PanicEntry) (w:World) (hb:Blk w k 36 [.int .i64 x]):
  CallsD Tryz.prog 93 #[.pointer (some ⟨k,0,none⟩)] (.panicking ({ v:=.iface 36 (.int .i64 n),recovered:=false } :: older)) w fun e u' w'=>
   e=.returned (.tuple #[])∧u'=.panicking ({ v:=.iface 36 (.int .i64 n),recovered:=true } :: older)∧w'=w.setCell ⟨k,0,none⟩ (.int .i64 n):=by
 have hta:∀ (W:World),(Instr.typeAssert (.iface 36 (.int .i64 n)) 20 36 false).run Tryz.prog W=.ok (.int .i64 n) W:=fun _=>by kernel_rfl
 have hne:∀ (W:World),(binOp .neq 20 (.iface 36 (.int .i64 n)) .nilIface).run Tryz.prog W=.ok (.bool true) W:=fun _=>by kernel_rfl
 have hc:=hb.cell (j:=0) rfl
 have hz:=hb.frozen 0
 refine callsD_of_wpS Tryz.func93 rfl fun c₀ cs hu=>?_
 apply wpS_seq
 apply wpS_region
 simp[wpOpsS,go_sem,recoverD,hu,Tryz.ntmps93,Exit.thenS]
 apply wpS_seq
 apply wpS_region
 simp[wpOpsS,go_sem,hne,Exit.thenS]
 refine wpS_cond (t:=true) (by simp[Act.eval,Array.replicate]) ?_
 simp only[if_true]
 apply wpS_region
 simp[wpOpsS,go_sem,hta,hc,hz,bodyPostS,results,Tryz.results93]
theorem catchU_idle (k:Nat) (w:World):
  CallsD Tryz.prog 93 #[.pointer (some ⟨k,0,none⟩)] .returning w fun e u' w'=>e=.returned (.tuple #[])∧u'=.returning∧w'=w:=by
 have hne:∀ (W:World),(binOp .neq 20 .nilIface .nilIface).run Tryz.prog W=.ok (.bool false) W:=fun _=>by kernel_rfl
 refine callsD_of_wpS Tryz.func93 rfl fun c₀ cs hu=>?_
 apply wpS_seq
 apply wpS_region
 simp[wpOpsS,go_sem,recoverD,hu,Tryz.ntmps93,Exit.thenS]
 apply wpS_seq
 apply wpS_region
 simp[wpOpsS,go_sem,hne,Exit.thenS]
 refine wpS_cond (t:=false) (by simp[Act.eval,Array.replicate]) ?_
 simp only[Bool.false_eq_true,if_false]
 refine wpS_of_wp (wp_skip ?_)
 cases c₀
 simp_all [bodyPostS,results,Tryz.results93]
theorem answerU_any {Good:Value→World→Prop} {Bad:Int→Prop} (g:Nat) (w:World)
  (T:∀ W,Below w.heap.size w W→Calls Tryz.prog 52 #[.pointer (some ⟨g,0,none⟩)] W fun e w'=>Below W.heap.size W w'∧((∃ v,e=.returned v∧Good v w')∨∃ n,e=Wrong n∧Bad n)):
  Calls Tryz.prog 51 #[.func (.func 52) #[] #[.pointer (some ⟨g,0,none⟩)]] w fun e w'=>
   Below w.heap.size w w'∧((∃ v,e=.returned (.tuple #[v,.int .i64 0])∧Good v w')∨∃ n,e=.returned (.tuple #[.int .u32 0,.int .i64 n])∧Bad n):=by
 have hmf:∀ (fn:Fn) (first cap:Array Value) (w:World),(Instr.makeFunc fn first cap).run Tryz.prog w=.ok (.func fn first cap) w:=fun _ _ _ _=>rfl
 have hB0:Below w.heap.size w (w.alloc (.cells #[.int .i64 0] 36)):=(zA _ w).alloc (zW _) _
 have p0:=Blk.new w 36 [.int .i64 0]
 have TT:=zZ (T _ hB0)
 have H0:=zZ hB0
 have P0:=zZ p0
 clear T hB0 p0
 go_enter_defers Tryz.func51,Tryz.ntmps51
 go_wp2_with fail
 refine TT.out.mono ?_
 rintro e w1 ⟨hB1,⟨v,rfl,hg⟩ | ⟨n,rfl,hn⟩⟩
 ·have p1:=P0.out.below P0.out.lt hB1
  have c1:=p1.cell (j:=0) rfl
  have f1:=p1.frozen 0
  have hs:=setCell_here p1
  have HB:=zZ (H0.out.trans (hB1.mono H0.out.size))
  have HG:=zZ hg
  clear hB1 hg TT
  go_wp2_with fail
  refine leaves_cons (f:=93) (args:=#[.pointer (some ⟨w.heap.size,0,none⟩)]) (by simp) (by simp[go_sem]) ?_
  refine (catchU_idle w.heap.size _).mono ?_
  rintro e u' w'' ⟨rfl,rfl,rfl⟩
  simp[Leaves,settle,results,Tryz.results51,go_sem,c1]
  exact⟨HB.out,.inl HG.out⟩
 ·have p1:=P0.out.below P0.out.lt hB1
  have HB:=zZ (H0.out.trans (hB1.mono H0.out.size))
  have HN:=zZ hn
  clear hB1 hn TT
  unfold Wrong
  go_wp2_with fail
  refine leaves_cons (f:=93) (args:=#[.pointer (some ⟨w.heap.size,0,none⟩)]) (by simp) (by simp[go_sem]) ?_
  refine (catchU_bad w.heap.size 0 n [] _ p1).mono ?_
  rintro e u' w'' ⟨rfl,rfl,rfl⟩
  have p2:=(p1.set 0 (.int .i64 n)).cell (j:=0) rfl
  simp[Leaves,settle,results,Tryz.results51,go_sem,p2]
  exact⟨HB.out.setCell (p:=⟨w.heap.size,0,none⟩) (zW _) _,.inr HN.out⟩
theorem row_step {α:Type} {R:Reader α} (hR:Stays R) {w wr w3:World} {v:Value} {k size:Nat} {e t:TypeId} {xs ys:List Value} {pre:List α} {a:α}
  (hB:Below w.heap.size w wr) (hown:wr.ownsRow w.heap.size e size v k xs) (hch:Chunks size (R (fun b=>b<wr.heap.size∧some b≠v.ownBlock) wr) xs pre)
  (hB3:Below wr.heap.size wr w3) (ha:R (fun b=>wr.heap.size≤b∧b<w3.heap.size) w3 ys a) (hy:ys.length=size):
  (w3.alloc (.cells ys.toArray t)).ownsRow w.heap.size e size v k xs∧Rd (w3.alloc (.cells ys.toArray t)) (some ⟨w3.heap.size,0,none⟩) ys ∧
  Below w.heap.size w (w3.alloc (.cells ys.toArray t)) ∧
  Chunks size (R (fun b=>b<(w3.alloc (.cells ys.toArray t)).heap.size∧some b≠v.ownBlock) (w3.alloc (.cells ys.toArray t))) (xs++ys) (pre++[a]):=by
 have hA:Below w3.heap.size w3 (w3.alloc (.cells ys.toArray t)):=(zA _ w3).alloc (zW _) _
 have hB4:=hB3.trans (hA.mono hB3.size)
 refine⟨own_below hown hB4,(Blk.new w3 t ys).rd,hB.trans (hB4.mono hB.size),?_⟩
 have hvl:=hown.lt
 have hkn:Keeps (fun x=>wr.heap.size≤x∧x<w3.heap.size) (fun x=>x<(w3.alloc (.cells ys.toArray t)).heap.size∧some x≠v.ownBlock) w3 _:=fun x ⟨h1,h2⟩=>
  ⟨⟨Nat.lt_of_lt_of_le h2 hA.size,fun e=>by have:=(hvl x e.symm).2;omega⟩,hA.block x h2⟩
 have hko:Keeps (fun x=>x<wr.heap.size∧some x≠v.ownBlock) (fun x=>x<(w3.alloc (.cells ys.toArray t)).heap.size∧some x≠v.ownBlock) wr _:=fun x ⟨h1,h2⟩=>
  ⟨⟨Nat.lt_of_lt_of_le h1 hB4.size,h2⟩,hB4.block x h1⟩
 exact (hch.imp (fun cs a h=>hR.to hko h)).append (Chunks.one hy (hR.to hkn ha))
theorem bytes_own {w:World} {base:Nat} {v:Value} {b:List Nat} (h:w.ownsRow base 5 1 v b.length (u8s b)) (hb:∀ x∈b,x<256):∃ A c,v=.slice A b.length c∧rBytes (fun k=>base≤k∧k<w.heap.size) w [.slice A b.length c] b:=by
 obtain⟨A,c,rfl,h1,h2,h3⟩:=own_in h
 exact⟨A,c,rfl,A,c,rfl,h1,h2,hb,h3⟩
theorem conv_bytes (s:ByteArray) (w:World):(convert 9 98 (.string s)).run Tryz.prog w=.ok (.slice (some ⟨w.heap.size,0,none⟩) s.size (grownCap w s.size 0 5)) (Lib.bytesWorld w 5 s):=
 Lib.run_convert_string_bytes w _ _ _ s Tryz.underlying9 Tryz.underlying98 Tryz.underlying5
theorem bytesWorld_in (s:ByteArray) (w:World) (hs:s.size≤maxLen) {bs:List Nat} (hb:byt s=bs):Below w.heap.size w (Lib.bytesWorld w 5 s) ∧
  rBytes (fun k=>w.heap.size≤k∧k<(Lib.bytesWorld w 5 s).heap.size) (Lib.bytesWorld w 5 s) [.slice (some ⟨w.heap.size,0,none⟩) s.size (grownCap w s.size 0 5)] bs:=by
 subst hb
 refine⟨⟨rfl,rfl,rfl,by rw[Lib.bytesWorld_size];omega,fun k hk=>Lib.bytesWorld_at_old w _ s k (by omega)⟩,some ⟨w.heap.size,0,none⟩,grownCap w s.size 0 5,by rw[byt_length],by rw[byt_length];exact grownCap_ge _ _ _ _,grownCap_le_maxLen _ _ _ _ hs,byt_lt s,.inr ⟨w.heap.size,0,rfl,⟨zW _,by rw[Lib.bytesWorld_size];omega⟩,fun j u hu=>?_⟩⟩
 have hj:j<s.size:=by
  have:=(List.getElem?_eq_some_iff.1 hu).1
  simpa using this
 rw[Nat.zero_add,Lib.bytesWorld_cell w _ s j hj,← hu]
 have hj2:j<s.data.toList.length:=by rw[Array.length_toList];exact hj
 simp[u8s,byt,List.getD,zV hj2]
theorem rootsB_take {l:List Int} {i:Nat} {x:Int} (h:l[i]?=some x):rootsB (l.take (i+1))=rootsB (l.take i)++vputL (x+1).toNat:=by
 rw[List.take_add_one,h]
 simp only[Option.toList,rootsB,List.map_append,List.map_cons,List.map_nil]
 induction (l.take i).map fun r=>(r+1).toNat with
 | nil=>simp[catV]
 | cons a t ih=>rw[List.cons_append,catV,catV,ih,List.append_assoc]
theorem rootsPart_any (C:Option Addr) (K e:Nat) (l:List Int) (w:World) (h:rIds (All w) w [.slice C K e] l) (hb:∀ r∈l,-1≤r∧r≤1073741824) (hK3:K≤100):
  Calls Tryz.prog 132 #[.slice C K e] w fun r w'=>∃ v,r=.returned v∧w'.ownsRow w.heap.size 5 1 v (rootsB l).length (u8s (rootsB l))∧Below w.heap.size w w':=by
 obtain⟨hK,-,-⟩:=slice_len h
 obtain⟨i0,hi,hz0,hz1,hz2⟩:=info_parts info_u8
 have hlen:∀ i,(rootsB (l.take i)).length≤5 * K:=fun i=>by
  have:=catV_len5 (l:=(l.take i).map fun r=>(r+1).toNat) (fun n hn=>by
   obtain⟨r,hr,rfl⟩:=List.mem_map.1 hn
   have:=hb r (List.mem_of_mem_take hr)
   omega)
  rw[List.length_map,List.length_take] at this
  rw[rootsB]
  omega
 have Hh:=zZ h
 have Hb:=zZ hb
 have Hlen:=zZ hlen
 clear h hb hlen
 go_enter Tryz.func132,Tryz.ntmps132
 go_wp2
 go_loopw [3,8] (fun v iv wr=>∃ i:Nat,i≤K∧iv=.int .i64 (i:Int)∧wr.ownsRow w.heap.size 5 1 v (rootsB (l.take i)).length (u8s (rootsB (l.take i)))∧Below w.heap.size w wr) (fun _ iv _=>K - (intOf iv).toNat)
 case atStart=>exact⟨0,by omega,rfl,World.ownsRow_nil _ _ _ _,zA _ _⟩
 case round=>
  rename World=>wr
  obtain⟨i,hi',rfl,hown,hB⟩:=hrel
  by_cases hin:i<K
  ·obtain⟨x,hx⟩:∃ x,l[i]?=some x:=⟨_,zV (by omega)⟩
   obtain⟨b,off,rfl,hbb,x0,hxb⟩:=id_at Hh.out hx
   have x0':=(hB.cell (p:=⟨b,off+i,none⟩) hbb).trans x0
   have htk:=rootsB_take hx
   have hxr:=Hb.out x (List.mem_of_getElem? hx)
   obtain⟨n,hn⟩:=Int.eq_ofNat_of_zero_le (show 0≤x+1 by omega)
   rw[hn,Int.toNat_natCast] at htk
   have hl1:=Hlen.out i
   have hl2:=putL_len10 n (by omega)
   have e1:wrap64 (x+1)=(n:Int):=by rw[hn];unfold wrap64;omega
   have P1:=zZ (fun W=>vput_any n W (by omega))
   have Htk:=zZ htk
   have HB:=zZ hB
   have hil:(i:Int)<(K:Int):=by omega
   have hi0:(0:Int)≤(i:Int):=by omega
   clear htk hB x0 hx
   generalize rootsB (l.take i)=pre at *
   go_wp2_with fail
   refine (P1.out wr).mono ?_
   rintro r w3 ⟨v3,rfl,hv3,hB3⟩
   obtain⟨A3,c3,rfl,hc3,hr3,-⟩:=own_slice hv3
   have hown3:=own_below hown hB3
   have HB3:=zZ (HB.out.trans (hB3.mono HB.out.size))
   have hsz:=HB3.out.size
   clear P1 hown hv3 hB3
   go_wp2_with (first
    | (at_builtin;refine wpList_app rfl (.tmp 12) (.tmp 16) 98 rfl w.heap.size 5 i0 (.int .u8 0) 1 Tryz.underlying98 hi hz0 hz1 hz2 rfl _ pre.length (u8s pre) rfl hown3 A3 (vputL n).length c3 (u8s (vputL n)) rfl (by simp) hr3 (u8s_one _) (by simp only[maxLen];omega) (by omega) hsz ?_;intro v5 w5 hown5 hg5 _)
    | fail)
   go_roundw
   case rel=>
    refine⟨i+1,by omega,by go_num,?_,HB3.out.grown hg5 hsz (fun k hk=>(hown3.lt k hk).1)⟩
    rw[Htk.out,u8s_append,List.length_append]
    exact hown5
   case measure=>simp[intOf];omega
  ·have hiK:i=K:=by omega
   rw[List.take_of_length_le (by omega)] at hown
   clear hiK
   go_wp2
   go_ret
   exact⟨_,rfl,hown,hB⟩
theorem valsB_take {fs:List Fld} {vs:List Vl} {k:Nat} {f:Fld} {v:Vl} (hf:fs[k]?=some f) (hv:vs[k]?=some v):valsB (fs.take (k+1)) (vs.take (k+1))=valsB (fs.take k) (vs.take k)++putVF f.2.1 v:=by
 induction k generalizing fs vs with
 | zero=>
  match fs,vs,hf,hv with
  | a :: fs,b :: vs,hf,hv=>
   simp at hf hv
   subst hf hv
   simp[valsB]
 | succ k ih=>
  match fs,vs,hf,hv with
  | a :: fs,b :: vs,hf,hv=>
   simp only[List.take_succ_cons,valsB,List.append_assoc]
   rw[ih (by simpa using hf) (by simpa using hv)]
theorem objPart_any (A F:Option Addr) (N c ol fc:Nat) (g:Gr) (o:Ob) (w:World) (hm:mayG g=true) (ho:o∈g.2.1) (hs:rSch (All w) w [.slice A N c] g.1) (hv:rVals (All w) w [.slice F ol fc] o.2.2):
  Calls Tryz.prog 133 #[.agg #[.slice A N c],.agg #[.int .i64 o.1,.int .i64 o.2.1,.slice F ol fc]] w fun r w'=>∃ v,r=.returned v∧w'.ownsRow w.heap.size 5 1 v (objB g.1 o).length (u8s (objB g.1 o))∧Below w.heap.size w w':=by
 obtain⟨i0,hi,hz0,hz1,hz2⟩:=info_parts info_u8
 obtain⟨hN,-,-⟩:=sch_len hs
 obtain⟨hol,-,-⟩:=slice_len hv
 have hmo:=mayG_obj hm ho
 have hlen:=hmo.len
 have h5:=fldsG_few (mayG_parts hm).1 o.2.1
 obtain⟨t,ht⟩:=Int.eq_ofNat_of_zero_le hmo.t0
 have hS4:=((mayS_iff g.1).1 (mayG_parts hm).1).1
 have htN:t<N:=by have:=hmo.t1;omega
 have hgt:g.1[t]?=some g.1[t]:=zV (by omega)
 obtain⟨bt,offt,st,AF,cF,rfl,hbt,-,y1,-,-,hfs⟩:=typ_at hs hgt
 have hFe:=fldsG_at ht hgt
 rw[← hFe] at y1 hfs
 rw[hlen,hol] at y1 hfs
 have hok:=vals_ok hv
 have hpl:∀ k,(valsB ((fldsG g.1 o.2.1).take k) (o.2.2.take k)).length≤65:=fun k=>by
  have h1:=vals_len (fs:=(fldsG g.1 o.2.1).take k) (vs:=o.2.2.take k) (fun v hv=>hok v (List.mem_of_mem_take hv))
  rw[List.length_take] at h1
  omega
 have hob:objB g.1 o=vputL t++valsB (fldsG g.1 o.2.1) o.2.2:=by rw[objB,ht];rfl
 obtain⟨p1,p2⟩:=blk_two w 24 53 [.slice (some ⟨bt,offt,none⟩) N c] [.int .i64 o.1,.int .i64 o.2.1,.slice F ol fc]
 have hB0:Below w.heap.size w ((w.alloc (.cells #[.slice (some ⟨bt,offt,none⟩) N c] 24)).alloc (.cells #[.int .i64 o.1,.int .i64 o.2.1,.slice F ol fc] 53)):=((zA _ w).alloc (zW _) _).alloc (by simp) _
 have s0:((w.alloc (.cells #[.slice (some ⟨bt,offt,none⟩) N c] 24)).alloc (.cells #[.int .i64 o.1,.int .i64 o.2.1,.slice F ol fc] 53)).heap.size=w.heap.size+1+1:=by simp
 have T1:=zZ (fun W=>vput_any t W (by omega))
 have HY:=zZ (fun W (hW:Below w.heap.size w W)=>(hW.cell (p:=⟨bt,offt+t * 2+1,none⟩) hbt).trans y1)
 have HF:=zZ (fun W (hW:Below w.heap.size w W)=>flds_below hW hfs)
 have HV:=zZ (fun W (hW:Below w.heap.size w W)=>vals_below hW hv)
 have hlen2:(fldsG g.1 o.2.1).length=ol:=by rw[hlen,hol]
 have hol5:ol≤5:=by omega
 have Hol5:=zZ hol5
 rw[ht] at p1 p2 hB0 s0
 have P1:=zZ p1
 have eu:IntKind.u64.wrap (t:Int)=(t:Int):=by have:IntKind.u64.wrap (t:Int)=(t:Int) % 18446744073709551616:=rfl;omega
 have H0:=zZ hB0
 have P2:=zZ p2
 have S0:=zZ s0
 have Hob:=zZ hob
 have Hpl:=zZ hpl
 have Hl2:=zZ hlen2
 have hl10:=putL_len10 t (by omega)
 have htl:(t:Int)<(N:Int):=by omega
 have ht0:(0:Int)≤(t:Int):=by omega
 have a0:=p1.cell (j:=0) rfl
 have b1:=p2.cell (j:=1) rfl
 clear hs hv hmo hlen h5 hS4 hgt hFe y1 hfs hok hpl hob hB0 p1 p2 s0 hlen2 hm ho
 rw[ht]
 generalize fldsG g.1 o.2.1=fs at *
 generalize o.2.2=vs at *
 generalize o.1=id at *
 generalize objB g.1 o=ob at *
 clear ht
 go_enter Tryz.func133,Tryz.ntmps133
 go_wp2_with fail
 generalize (w.alloc (.cells #[.slice (some ⟨bt,offt,none⟩) N c] 24)).alloc (.cells #[.int .i64 id,.int .i64 (t:Int),.slice F ol fc] 53)=w1 at *
 refine (T1.out _).mono ?_
 rintro r w2 ⟨v2,rfl,hv2,hB2⟩
 have H2:=zZ (H0.out.trans (hB2.mono H0.out.size))
 have Q1:=zZ (P1.out.to hB2)
 have Q2:=zZ (P2.out.to hB2)
 rw[S0.out] at hv2
 have hs2:w.heap.size+1+1≤w2.heap.size:=by have:=hB2.size;have:=S0.out;omega
 have y1:=HY.out _ H2.out
 have a0:=Q1.out.cell (j:=0) rfl
 have b1:=Q2.out.cell (j:=1) rfl
 have Hv2:=zZ hv2
 clear T1 H0 P1 P2 S0 hB2 eu hv2
 go_wp2
 clear a0 b1 y1
 go_loopw [5,22] (fun v iv wr=>∃ k:Nat,k≤ol∧iv=.int .i64 (k:Int)∧wr.ownsRow (w.heap.size+1+1) 5 1 v (vputL t++valsB (fs.take k) (vs.take k)).length (u8s (vputL t++valsB (fs.take k) (vs.take k)))∧Below (w.heap.size+1+1) w2 wr) (fun _ iv _=>ol - (intOf iv).toNat)
 case atStart=>exact⟨0,by omega,rfl,by simpa [valsB] using Hv2.out,zA _ _⟩
 case round=>
  rename World=>wr
  obtain⟨k,hk',rfl,hown,hB⟩:=hrel
  have hsr:=hB.size
  have hBw:Below w.heap.size w wr:=H2.out.trans (hB.mono (by omega))
  by_cases hin:k<ol
  ·obtain⟨f,hf⟩:∃ f,fs[k]?=some f:=⟨_,zV (by have:=Hl2.out;omega)⟩
   obtain⟨v,hv⟩:∃ v,vs[k]?=some v:=⟨_,zV (by omega)⟩
   obtain⟨bf,offf,sa,sb,hA1,hbf,f0,f1,f2,hsa,hsb,-,-,-⟩:=fld_at (HF.out wr hBw) hf
   obtain⟨bv,offv,sv,hA2,hbv,v0,v1,v2',hsv,-,hvn,hvr⟩:=val_at (HV.out wr hBw) hv
   subst hA1 hA2
   have Htk:=zZ (valsB_take hf hv)
   have hl1:=Hpl.out k
   obtain⟨vn,vb,vr⟩:=v
   obtain⟨fa,fk,fb⟩:=f
   simp only at f1 v0 v2' hsv hvn hvr Htk
   subst hsv
   have hl2:=putVF_len (k:=fk) (v:=(vn,byt sv,vr)) ⟨hvn,byt_lt sv⟩
   have P1:=zZ (fun W=>vlput_any sa sb sv fk vn vr W hvn.1 hvn.2)
   have hB3:Below wr.heap.size wr (wr.alloc (.cells #[.string sa,.int .i64 fk,.string sb] 97)):=(zA _ wr).alloc (zW _) _
   have p3:=Blk.new wr 97 [.string sa,.int .i64 fk,.string sb]
   have hB4:Below (w.heap.size+1+1) w2 (wr.alloc (.cells #[.string sa,.int .i64 fk,.string sb] 97)):=hB.trans (hB3.mono (by omega))
   have hown3:=own_below hown hB3
   have q2:=(hB4.cell (p:=⟨w.heap.size+1,2,none⟩) (by show w.heap.size+1<_;omega)).trans (Q2.out.cell (j:=2) rfl)
   have HB4:=zZ hB4
   have HSF:=zZ (fun W (hW:Below (wr.alloc (.cells #[.string sa,.int .i64 fk,.string sb] 97)).heap.size (wr.alloc (.cells #[.string sa,.int .i64 fk,.string sb] 97)) W)=>And.intro ((hW.cell (p:=⟨wr.heap.size,0,none⟩) (by simp)).trans (p3.cell (j:=0) rfl)) (And.intro ((hW.cell (p:=⟨wr.heap.size,1,none⟩) (by simp)).trans (p3.cell (j:=1) rfl)) (And.intro ((hW.cell (p:=⟨wr.heap.size,2,none⟩) (by simp)).trans (p3.cell (j:=2) rfl))
    (And.intro ((hW.cell (p:=⟨w.heap.size+1,2,none⟩) (by simp;omega)).trans q2) (And.intro ((hW.cell (p:=⟨bv,offv+k * 3,none⟩) (by have:bv<wr.heap.size:=hbv;simp;omega)).trans ((hB3.cell (p:=⟨bv,offv+k * 3,none⟩) hbv).trans v0)) (And.intro ((hW.cell (p:=⟨bv,offv+k * 3+1,none⟩) (by have:bv<wr.heap.size:=hbv;simp;omega)).trans ((hB3.cell (p:=⟨bv,offv+k * 3+1,none⟩) hbv).trans v1)) ((hW.cell (p:=⟨bv,offv+k * 3+2,none⟩) (by have:bv<wr.heap.size:=hbv;simp;omega)).trans ((hB3.cell (p:=⟨bv,offv+k * 3+2,none⟩) hbv).trans v2'))))))))
   have hkl:(k:Int)<(ol:Int):=by omega
   have hk0:(0:Int)≤(k:Int):=by omega
   have Hin:=zZ hin
   clear hf hv v0 v1 v2' hB hBw hown hB3 p3 hB4 q2 hbv hsa hsb hvn hvr Hv2
   generalize valsB (fs.take k) (vs.take k)=pre at *
   go_wp2
   generalize wr.alloc (.cells #[.string sa,.int .i64 fk,.string sb] 97)=w3 at *
   refine sch_start [(0,true),(1,true),(2,true),(3,true),(4,true),(5,true),(6,false),(7,true),(8,true),(9,true),(10,true),(11,true)] (fun W=>Below w3.heap.size w3 W) (by kernel_rfl) rfl (by kernel_rfl) (fun _ _ _ _ _ h=>h) ((zA _ w3).drew) (fun hH=>?_)
   repeat (first | (refine sch_yes (v:=?_) rfl rfl ?_ hH ?_;rotate_left;(focus ((intro W hW;obtain⟨c0,c1,c2,c3,c4,c5,c6⟩:=HSF.out W hW;go_simp) <;> with_reducible rfl));simp only[Act.put,zY,zX,zQ]) | (refine sch_no rfl rfl hH ?_;simp only[Act.put,zY,zX,zQ]))
   refine sch_call rfl rfl (fun K' hK=>?_)
   go_wp2_with (go_at_call 154;refine (P1.out _).mono ?_;rintro e w4 ⟨v4,rfl,hv4,hB4⟩)
   have hD:=hH.trans (hB4.mono hH.size)
   obtain⟨A4,c4,rfl,hc4,hr4,-⟩:=own_slice hv4
   have hown4:=own_below hown3 (show Below w3.heap.size w3 w4 from hD)
   have HB5:=zZ (HB4.out.trans (hD.mono (by have:=HB4.out.size;omega)))
   have hs5:w.heap.size+1+1≤w4.heap.size:=by have:=HB5.out.size;omega
   refine hK.out _ _ hD ?_
   clear hK hH hB4 hv4 hown3 HB4 P1 HSF
   have hH:=hD
   clear hD
   repeat (first | (refine sch_yes (v:=?_) rfl rfl ?_ hH ?_;rotate_left;(focus ((intro W hW;go_simp) <;> with_reducible rfl));simp only[Act.put,zY,zX,zQ]) | (refine sch_no rfl rfl hH ?_;simp only[Act.put,zY,zX,zQ]))
   refine sch_done ?_
   generalize putVF fk (vn,byt sv,vr)=pv at *
   go_wp2_with (first
    | (at_builtin;refine wpList_app rfl (.tmp 37) (.tmp 38) 98 rfl (w.heap.size+1+1) 5 i0 (.int .u8 0) 1 Tryz.underlying98 hi hz0 hz1 hz2 rfl _ (vputL t++pre).length (u8s (vputL t++pre)) rfl hown4 A4 pv.length c4 (u8s pv) rfl (by simp) hr4 (u8s_one _) (by simp only[maxLen,List.length_append];omega) (by simp only[List.length_append];omega) hs5 ?_;intro v5 w5 hown5 hg5 _)
    | fail)
   go_roundw
   case rel=>
    refine⟨k+1,Hin.out,by have:=Hin.out;have:=Hol5.out;go_num,?_,HB5.out.grown hg5 hs5 (fun j hj=>(hown4.lt j hj).1)⟩
    rw[Htk.out,← List.append_assoc,u8s_append _ pv,List.length_append]
    exact hown5
   case measure=>have:=Hin.out;have:=Hol5.out;simp[intOf];omega
  ·have hko:k=ol:=by omega
   rw[List.take_of_length_le (by have:=Hl2.out;omega),List.take_of_length_le (by omega),← Hob.out] at hown
   clear hko
   go_wp2
   go_ret
   exact⟨_,rfl,own_mono hown (by omega),hBw⟩
theorem own_slice_in {α:Type} {R:Reader α} (hR:Stays R) {w:World} {base e size n:Nat} {v:Value} {xs:List Value} {l:List α} (h:w.ownsRow base e size v n xs) (hn:l.length=n) (hc:Chunks size (R (fun b=>base≤b∧b<w.heap.size∧some b≠v.ownBlock) w) xs l):
  ∃ A c,v=.slice A n c∧rSlice size R (fun b=>base≤b∧b<w.heap.size) w [.slice A n c] l:=by
 obtain⟨A,c,rfl,h1,h2,h3⟩:=own_in h
 exact⟨A,c,rfl,A,c,xs,by rw[hn],by omega,h2,h3,hc.imp fun cs a hq=>hR.to (Keeps.mono fun b hb=>⟨hb.1,hb.2.1⟩) hq⟩
theorem info_pt1:(Tryz.prog.info? 98).map (fun i=>(i.zero,i.size,i.bytes))=some (some (.slice none 0 0),1,24):=by kernel_rfl
theorem codeE_all {g:Gr} (hm:mayG g=true) (h:∀ p∈partsG (canonG g),p.length≤200):codeE g=0:=by
 have h8:=(mayG_parts (canon_may hm)).2.1
 have h40:(partsG (canonG g)).length≤40:=by
  rw[partsG,List.length_cons,List.length_cons,List.length_map]
  omega
 have hb:mayB (codeF g)=true:=by
  show (decide ((partsG (canonG g)).length≤40) && (partsG (canonG g)).all fun p=>decide (p.length≤200))=true
  rw[zJ h40,Bool.true_and,List.all_eq_true]
  exact fun p hp=>zJ (h p hp)
 rw[codeE,if_pos hm,if_pos hb]
theorem codeE_long {g:Gr} (hm:mayG g=true) {p:List Nat} (hp:p∈partsG (canonG g)) (h:200<p.length):codeE g=5:=by
 have hb:¬ mayB (codeF g)=true:=fun hb=>by
  replace hb:(decide ((partsG (canonG g)).length≤40) && (partsG (canonG g)).all fun p=>decide (p.length≤200))=true:=hb
  rw[Bool.and_eq_true,List.all_eq_true] at hb
  have:=of_decide_eq_true (hb.2 p hp)
  omega
 rw[codeE,if_pos hm,if_neg hb]
theorem textS_canon {g:Gr} (hm:mayG g=true):textS (canonG g).1=sText (canonG g).1:=by
 rw[textS,if_pos (mayG_parts (canon_may hm)).1]
theorem parts_at {c:Gr} {i:Nat} {o:Ob} (h:c.2.1[i]?=some o):(partsG c).take (i+1+2)=(partsG c).take (i+2)++[objB c.1 o]:=by
 have:(partsG c)[i+2]?=some (objB c.1 o):=by
  rw[partsG]
  simp[h]
 rw[show i+1+2=(i+2)+1 by omega,List.take_add_one,this]
 rfl
theorem bytes_below {w w':World} {lo:Nat} {cs:List Value} {b:List Nat} (h:rBytes (fun k=>lo≤k∧k<w.heap.size) w cs b) (hB:Below w.heap.size w w'):rBytes (fun k=>lo≤k∧k<w.heap.size) w' cs b:=
 rBytes_stays.to (fun k hk=>⟨hk,hB.block k hk.2⟩) h
theorem lit_two {w wz:World} {x y:Value} {a b:List Nat} (hB:Below w.heap.size w wz) (hx:rBytes (fun k=>w.heap.size≤k∧k<wz.heap.size) wz [x] a) (hy:rBytes (fun k=>w.heap.size≤k∧k<wz.heap.size) wz [y] b):
  (wz.alloc (.cells #[x,y] 98)).ownsRow w.heap.size 98 1 (.slice (some ⟨wz.heap.size,0,none⟩) 2 2) 2 [x,y] ∧
  Chunks 1 (rBytes (fun k=>k<(wz.alloc (.cells #[x,y] 98)).heap.size∧some k≠(Value.slice (some ⟨wz.heap.size,0,none⟩) 2 2).ownBlock) (wz.alloc (.cells #[x,y] 98))) [x,y] [a,b]∧Below w.heap.size w (wz.alloc (.cells #[x,y] 98)):=by
 have hA:Below wz.heap.size wz (wz.alloc (.cells #[x,y] 98)):=(zA _ wz).alloc (zW _) _
 have hk:Keeps (fun k=>w.heap.size≤k∧k<wz.heap.size) (fun k=>k<(wz.alloc (.cells #[x,y] 98)).heap.size∧some k≠(Value.slice (some ⟨wz.heap.size,0,none⟩) 2 2).ownBlock) wz (wz.alloc (.cells #[x,y] 98)):=fun k hk=>
  ⟨⟨by rw[World.size_alloc];omega,by simp[Value.ownBlock];omega⟩,hA.block k hk.2⟩
 refine⟨World.ownsRow_lit (base:=w.heap.size) (e:=98) (size:=1) wz #[x,y] 2 hB.size (by simp[maxLen]) rfl,?_,hB.trans (hA.mono hB.size)⟩
 exact Chunks.append (size:=1) (xs:=[x]) (ys:=[y]) (l:=[a]) (m:=[b]) (Chunks.one rfl (rBytes_stays.to hk hx)) (Chunks.one rfl (rBytes_stays.to hk hy))
def PartsSays (g:Gr) (r:Ending) (w':World):Prop:=
 (codeE g=0∧∃ A n c,r=.returned (.slice A n c)∧rPts (All w') w' [.slice A n c] (partsG (canonG g)))∨(codeE g≠0∧r=Wrong (codeE g))
theorem partsOf_any (A B C:Option Addr) (N c M d K e:Nat) (g:Gr) (w:World) (hKt:Kt w) (h:rGr (All w) w [.slice A N c,.slice B M d,.slice C K e] g):
  Calls Tryz.prog 94 #[.agg #[.slice A N c,.slice B M d,.slice C K e]] w fun r w'=>PartsSays g r w'∧Below w.heap.size w w':=by
 obtain⟨i0,hi,hz0,hz1,hz2⟩:=info_parts info_pt1
 have hB0:Below w.heap.size w (w.alloc (.cells #[.slice A N c,.slice B M d,.slice C K e] 28)):=(zA _ w).alloc (zW _) _
 have p0:=Blk.new w 28 [.slice A N c,.slice B M d,.slice C K e]
 have T1:=zZ (gmay_any A B C N c M d K e g _ (gr_below hB0 h))
 have T2:=zZ (fun W (hW:Below w.heap.size w W)=>canon_any A B C N c M d K e g W (gr_below hW h))
 have HKt:=zZ (fun W (hW:Below w.heap.size w W)=>hKt.below hW)
 have H0:=zZ hB0
 have P0:=zZ p0
 have Hok:=zZ (gr_ok h)
 have HX:Hid (∀ r w',PartsSays g r w'→Below w.heap.size w w'→PartsSays g r w'∧Below w.heap.size w w'):=zZ (fun _ _ a b=>⟨a,b⟩)
 clear h hKt hB0 p0
 cases hm:mayG g with
 | false=>
  rw[hm] at T1
  have h1:=codeE_arg.2 hm
  have H1:=zZ h1
  clear hm h1
  go_enter Tryz.func94,Tryz.ntmps94
  go_wp2_with fail
  refine T1.out.mono ?_
  rintro r w1 ⟨rfl,hB1⟩
  go_wp2_with fail
  refine (must_no 1 _).mono ?_
  rintro r w2 ⟨rfl,rfl⟩
  unfold Wrong
  go_wp2_with fail
  refine⟨rfl,.inr ⟨by rw[H1.out];decide,by rw[H1.out];rfl⟩,H0.out.trans (hB1.mono H0.out.size)⟩
 | true=>
  rw[hm] at T1
  have hc:=canon_may hm
  have Hm:=zZ hm
  have Hc:=zZ hc
  have Htx:=zZ (textS_canon hm)
  have Hrr:=zZ (root_range hc)
  have Hcok:=zZ (canon_ok Hok.out)
  have hM8:=(mayG_parts hc).2.1
  have hK3:=(mayG_parts hc).2.2.2.1
  have h0:∀ h:∀ p∈partsG (canonG g),p.length≤200,codeE g=0:=fun h=>codeE_all hm h
  have h5:∀ p∈partsG (canonG g),200<p.length→codeE g=5:=fun p hp hl=>codeE_long hm hp hl
  have Hc0:=zZ h0
  have Hc5:=zZ h5
  have hPl:(partsG (canonG g)).length=(canonG g).2.1.length+2:=by rw[partsG,List.length_cons,List.length_cons,List.length_map]
  have HPl:=zZ hPl
  have HPb:=zZ (parts_byte hc (canon_ok Hok.out))
  clear hm hc h0 h5 hPl Hok
  generalize hcg:canonG g=x at *
  obtain⟨xs,xo,xr⟩:=x
  simp only at *
  go_enter Tryz.func94,Tryz.ntmps94
  go_wp2_with fail
  generalize w.alloc (.cells #[.slice A N c,.slice B M d,.slice C K e] 28)=w1 at *
  refine T1.out.mono ?_
  rintro r w2 ⟨rfl,hB1⟩
  have H1:=zZ (H0.out.trans (hB1.mono H0.out.size))
  have P1:=zZ (P0.out.to hB1)
  clear hB1 H0 P0 T1
  go_wp2_with fail
  refine (must_yes 1 _).mono ?_
  rintro r w3 ⟨rfl,rfl⟩
  have a0:=P1.out.cell (j:=0) rfl
  have a1:=P1.out.cell (j:=1) rfl
  have a2:=P1.out.cell (j:=2) rfl
  go_wp2_with fail
  refine (T2.out _ H1.out).mono ?_
  rintro r w3 ⟨A1,c1,B1,d1,C1,e1,rfl,hg,hB2⟩
  have hB3:Below w3.heap.size w3 (w3.alloc (.cells #[.slice A1 xs.length c1,.slice B1 xo.length d1,.slice C1 xr.length e1] 28)):=(zA _ w3).alloc (zW _) _
  have H3:=zZ (H1.out.trans ((hB2.trans (hB3.mono hB2.size)).mono H1.out.size))
  have p3:=Blk.new w3 28 [.slice A1 xs.length c1,.slice B1 xo.length d1,.slice C1 xr.length e1]
  have hg3:=gr_below hB3 hg
  have hKt3:=HKt.out _ H3.out
  have hgs:=(rGr_open hg3).1
  have hgo:=(rGr_open hg3).2.1
  have hgr:=(rGr_open hg3).2.2
  have hs4:(w3.alloc (.cells #[.slice A1 xs.length c1,.slice B1 xo.length d1,.slice C1 xr.length e1] 28)).heap.size=w3.heap.size+1:=by simp
  have P3:=zZ p3
  have Hgs:=zZ hgs
  have Hgo:=zZ hgo
  have Hgr:=zZ hgr
  have HK3:=zZ hKt3
  have HS4:=zZ hs4
  clear a0 a1 a2 T2 H1 P1 hg hB2 hB3 p3 hg3 hKt3 hgs hgo hgr hs4 HKt
  go_wp2
  generalize w3.alloc (.cells #[.slice A1 xs.length c1,.slice B1 xo.length d1,.slice C1 xr.length e1] 28)=w4 at *
  go_cut [4] (fun v4 wx=>∃ (gL:Nat) (ys:List Value),v4=.slice (some ⟨gL,0,none⟩) 2 2∧wx.ownsRow w4.heap.size 98 1 (.slice (some ⟨gL,0,none⟩) 2 2) 2 ys∧Hid (Chunks 1 (rBytes (fun k=>k<wx.heap.size∧some k≠(Value.slice (some ⟨gL,0,none⟩) 2 2).ownBlock) wx) ys [sText xs,rootsB xr])∧Hid (Below w4.heap.size w4 wx))
  case first=>
   have HSF:=zZ (fun W (hW:Below w4.heap.size w4 W)=>And.intro ((P3.out.to hW).cell (j:=0) rfl) ((P3.out.to hW).cell (j:=2) rfl))
   refine fr_start (fun W=>Below w4.heap.size w4 W) 9 (by kernel_rfl) rfl (fun _ _ _ _ _ h=>h) ((zA _ w4).drew) (fun hH=>?_)
   (refine fr_yes 0 (v:=?_) rfl (by kernel_rfl) rfl ?_ hH ?_;rotate_left;(focus ((intro W hW;obtain⟨u0,u1⟩:=HSF.out W hW;go_simp) <;> with_reducible rfl));simp only[Act.put,zY,zX,zQ]);(refine fr_yes 1 (v:=?_) rfl (by kernel_rfl) rfl ?_ hH ?_;rotate_left;(focus ((intro W hW;obtain⟨u0,u1⟩:=HSF.out W hW;go_simp) <;> with_reducible rfl));simp only[Act.put,zY,zX,zQ]);(refine fr_yes 4 (v:=?_) rfl (by kernel_rfl) rfl ?_ hH ?_;rotate_left;(focus ((intro W hW;obtain⟨u0,u1⟩:=HSF.out W hW;go_simp) <;> with_reducible rfl));simp only[Act.put,zY,zX,zQ]);(refine fr_yes 5 (v:=?_) rfl (by kernel_rfl) rfl ?_ hH ?_;rotate_left;(focus ((intro W hW;obtain⟨u0,u1⟩:=HSF.out W hW;go_simp) <;> with_reducible rfl));simp only[Act.put,zY,zX,zQ])
   refine fr_op [2] (by kernel_rfl) (by simp) ?_;intro jj hjj;simp only[List.mem_cons,List.not_mem_nil,or_false] at hjj;subst hjj;refine⟨_,rfl,rfl,fun K hK=>?_⟩
   go_wp2_with (go_at_call 131;refine (text_any A1 xs.length c1 xs _ (HK3.out.below hH) (sch_below hH Hgs.out)).mono ?_;rintro e w5 ⟨tx,rfl,htx,htl,hB5⟩)
   have hD5:=hH.trans (hB5.mono hH.size)
   rw[Htx.out] at htx
   refine hK.out _ _ hD5 ?_
   clear hK hH hB5
   have cv:=fun W=>conv_bytes tx W
   have hD0:=hD5.size
   refine fr_op [3,6] (by kernel_rfl) (by simp) ?_;intro jj hjj;simp only[List.mem_cons,List.not_mem_nil,or_false] at hjj;rcases hjj with rfl | rfl
   ·refine⟨_,rfl,rfl,fun K hK=>?_⟩
    obtain⟨hBc,hrc⟩:=bytesWorld_in tx w5 (by simp only[maxLen];omega) htx
    go_wp2
    have hD6:=hD5.trans (hBc.mono hD0)
    have hr6:rBytes (fun k=>w4.heap.size≤k∧k<(Lib.bytesWorld w5 5 tx).heap.size) (Lib.bytesWorld w5 5 tx) [.slice (some ⟨w5.heap.size,0,none⟩) tx.size (grownCap w5 tx.size 0 5)] (sText xs):=rBytes_stays.to (Keeps.mono fun k hk=>⟨by omega,hk.2⟩) hrc
    refine hK.out _ _ hD6 ?_
    clear hK hrc hBc cv
    generalize Lib.bytesWorld w5 5 tx=w6 at *
    refine fr_op [6] (by kernel_rfl) (by simp) ?_;intro jj hjj;simp only[List.mem_cons,List.not_mem_nil,or_false] at hjj;subst hjj;refine⟨_,rfl,rfl,fun K hK=>?_⟩
    go_wp2_with (go_at_call 132;refine (rootsPart_any C1 xr.length e1 xr _ (ids_below hD6 Hgr.out) Hrr.out (by omega)).mono ?_;rintro e w7 ⟨v7,rfl,hv7,hB7⟩)
    obtain⟨A7,c7,rfl,hr7⟩:=bytes_own hv7 (catV_byte _)
    have hD7:=hD6.trans (hB7.mono hD6.size)
    have hs6:=hD6.size
    have hr6':rBytes (fun k=>w4.heap.size≤k∧k<w7.heap.size) w7 _ (sText xs):=rBytes_stays.to (Keeps.mono fun k hk=>⟨hk.1,by have:=hB7.size;omega⟩) (bytes_below hr6 hB7)
    have hr7':rBytes (fun k=>w4.heap.size≤k∧k<w7.heap.size) w7 _ (rootsB xr):=rBytes_stays.to (Keeps.mono fun k hk=>⟨by omega,hk.2⟩) hr7
    refine hK.out _ _ hD7 ?_
    clear hK hr6 hr7 hv7 hB7
    refine fr_op [7] (by kernel_rfl) (by simp) ?_;intro jj hjj;simp only[List.mem_cons,List.not_mem_nil,or_false] at hjj;subst hjj;refine⟨_,rfl,rfl,fun K hK=>?_⟩
    go_wp2
    obtain⟨hoL,hcL,hD8⟩:=lit_two hD7 hr6' hr7'
    refine hK.out _ _ hD8 ?_
    clear hK
    have HcL:=zZ hcL
    have HD8:=zZ hD8
    clear hcL hr6' hr7' HSF
    have hH:=HD8.out
    (refine fr_yes 8 (v:=?_) rfl (by kernel_rfl) rfl ?_ hH ?_;rotate_left;(focus ((intro W hW;go_simp) <;> with_reducible rfl));simp only[Act.put,zY,zX,zQ])
    refine fr_done (by kernel_rfl) ?_
    go_wp2
    go_meet
    case rel=>exact⟨_,_,rfl,hoL,HcL,HD8⟩
   ·refine⟨_,rfl,rfl,fun K hK=>?_⟩
    go_wp2_with (go_at_call 132;refine (rootsPart_any C1 xr.length e1 xr _ (ids_below hD5 Hgr.out) Hrr.out (by omega)).mono ?_;rintro e w6 ⟨v7,rfl,hv7,hB7⟩)
    obtain⟨A7,c7,rfl,hr7⟩:=bytes_own hv7 (catV_byte _)
    have hD6:=hD5.trans (hB7.mono hD0)
    have hs6:=hD6.size
    obtain⟨hBc,hrc⟩:=bytesWorld_in tx w6 (by simp only[maxLen];omega) htx
    refine hK.out _ _ hD6 ?_
    clear hK hv7 hB7
    refine fr_op [3] (by kernel_rfl) (by simp) ?_;intro jj hjj;simp only[List.mem_cons,List.not_mem_nil,or_false] at hjj;subst hjj;refine⟨_,rfl,rfl,fun K hK=>?_⟩
    go_wp2
    have hD7:=hD6.trans (hBc.mono hs6)
    have hr6':rBytes (fun k=>w4.heap.size≤k∧k<(Lib.bytesWorld w6 5 tx).heap.size) (Lib.bytesWorld w6 5 tx) [.slice (some ⟨w6.heap.size,0,none⟩) tx.size (grownCap w6 tx.size 0 5)] (sText xs):=rBytes_stays.to (Keeps.mono fun k hk=>⟨by omega,hk.2⟩) hrc
    have hr7':rBytes (fun k=>w4.heap.size≤k∧k<(Lib.bytesWorld w6 5 tx).heap.size) (Lib.bytesWorld w6 5 tx) _ (rootsB xr):=rBytes_stays.to (Keeps.mono fun k hk=>⟨by omega,by have:=hBc.size;omega⟩) (bytes_below hr7 hBc)
    refine hK.out _ _ hD7 ?_
    clear hK hrc hBc hr7 cv
    generalize Lib.bytesWorld w6 5 tx=w7 at *
    refine fr_op [7] (by kernel_rfl) (by simp) ?_;intro jj hjj;simp only[List.mem_cons,List.not_mem_nil,or_false] at hjj;subst hjj;refine⟨_,rfl,rfl,fun K hK=>?_⟩
    go_wp2
    obtain⟨hoL,hcL,hD8⟩:=lit_two hD7 hr6' hr7'
    refine hK.out _ _ hD8 ?_
    clear hK
    have HcL:=zZ hcL
    have HD8:=zZ hD8
    clear hcL hr6' hr7' HSF
    have hH:=HD8.out
    (refine fr_yes 8 (v:=?_) rfl (by kernel_rfl) rfl ?_ hH ?_;rotate_left;(focus ((intro W hW;go_simp) <;> with_reducible rfl));simp only[Act.put,zY,zX,zQ])
    refine fr_done (by kernel_rfl) ?_
    go_wp2
    go_meet
    case rel=>exact⟨_,_,rfl,hoL,HcL,HD8⟩
  case rest=>
   rename World=>wx
   obtain⟨gL,ys,rfl,hoL,HcL,HDx⟩:=hcut
   have b1:=(P3.out.to HDx.out).cell (j:=1) rfl
   have HoL:=zZ hoL
   clear hoL hK3
   generalize hMo:xo.length=M1 at *
   go_wp2
   clear b1
   go_loopw [4,25] (fun v iv wr=>∃ (i:Nat) (zs:List Value),i≤M1∧iv=.int .i64 (i:Int)∧Hid (wr.ownsRow w4.heap.size 98 1 v (i+2) zs)∧Hid (Chunks 1 (rBytes (fun k=>k<wr.heap.size∧some k≠v.ownBlock) wr) zs ((partsG (xs,xo,xr)).take (i+2)))∧Hid (Below w4.heap.size w4 wr)) (fun _ iv _=>M1 - (intOf iv).toNat)
   case atStart=>exact⟨0,ys,by omega,rfl,HoL,HcL,HDx⟩
   case round=>
    rename World=>wr
    obtain⟨i,zs,hi',rfl,hown,hch,hB⟩:=hrel
    have hsr:=hB.out.size
    obtain⟨AL,cL,hvL,-⟩:=own_slice hown.out
    subst hvL
    by_cases hin:i<M1
    ·obtain⟨o,ho⟩:∃ o,xo[i]?=some o:=⟨_,zV (by omega)⟩
     have hom:o∈xo:=List.mem_of_getElem? ho
     have htk:=parts_at (c:=(xs,xo,xr)) ho
     have hby:∀ y∈objB xs o,y<256:=HPb.out _ (by rw[partsG];simp only[List.mem_cons];exact .inr (.inr (List.mem_map.2 ⟨o,hom,rfl⟩)))
     obtain⟨bo,offo,F,fc,hBe,hbo,x0,x1,x2,hov,-,-⟩:=ob_at (obs_below hB.out Hgo.out) ho
     subst hBe
     have hBa:Below wr.heap.size wr (wr.alloc (.cells #[.int .i64 o.1,.int .i64 o.2.1,.slice F o.2.2.length fc] 53)):=(zA _ wr).alloc (zW _) _
     have pa:=Blk.new wr 53 [.int .i64 o.1,.int .i64 o.2.1,.slice F o.2.2.length fc]
     have hB4a:=hB.out.trans (hBa.mono hsr)
     have T5:=zZ (objPart_any A1 F xs.length c1 o.2.2.length fc (xs,xo,xr) o _ Hc.out hom (sch_below hB4a Hgs.out) (vals_below hBa hov))
     have b0:=(P3.out.to hB4a).cell (j:=0) rfl
     have q0:=pa.cell (j:=0) rfl
     have q1:=pa.cell (j:=1) rfl
     have q2:=pa.cell (j:=2) rfl
     have HBa:=zZ hBa
     have Htk:=zZ htk
     have Hby:=zZ hby
     have hil:(i:Int)<(M1:Int):=by omega
     have hi0:(0:Int)≤(i:Int):=by omega
     have Hin:=zZ hin
     clear ho hom htk hby hov hBa pa hB4a hbo
     generalize objB xs o=ob at *
     go_wp2_with fail
     generalize wr.alloc (.cells #[.int .i64 o.1,.int .i64 o.2.1,.slice F o.2.2.length fc] 53)=wo at *
     refine T5.out.mono ?_
     rintro r w5 ⟨v5,rfl,hv5,hB5⟩
     have hso:=HBa.out.size
     obtain⟨A5,c5,rfl,hr5⟩:=bytes_own hv5 Hby.out
     have hr5':rBytes (fun k=>wr.heap.size≤k∧k<w5.heap.size) w5 _ ob:=rBytes_stays.to (Keeps.mono fun k hk=>⟨by omega,hk.2⟩) hr5
     have hB5w:=HBa.out.trans (hB5.mono hso)
     obtain⟨hown6,hrd6,hB6,hch6⟩:=row_step (t:=98) rBytes_stays hB.out hown.out hch.out hB5w hr5' rfl
     have hs6:=hB6.size
     have Hch6:=zZ hch6
     have HB6:=zZ hB6
     clear T5 hr5 hr5' hv5 hB5 hB5w hch6 hB6 x0 x1 x2 q0 q1 q2 b0
     go_wp2_with (first
      | (at_builtin;refine wpList_apps rfl (.tmp 29) (.tmp 34) 101 rfl w4.heap.size 98 i0 (.slice none 0 0) 1 24 Tryz.underlying101 hi hz0 hz1 hz2 rfl (by omega) _ (i+2) zs rfl hown6 (some ⟨w5.heap.size,0,none⟩) 1 1 [.slice A5 ob.length c5] rfl rfl hrd6 (by simp[Value.oneCell']) (by simp only[maxLen];omega) (by omega) hs6 ?_;intro v7 w7 hown7 hg7 hv7)
      | fail)
     go_roundw
     case rel=>
      refine⟨i+1,_,Hin.out,by have:=Hin.out;go_num,zZ (by rw[show i+1+2=i+2+1 by omega];exact hown7),zZ ?_,zZ (HB6.out.grown hg7 hs6 (fun k hk=>(hown6.lt k hk).1))⟩
      rw[Htk.out]
      exact Hch6.out.imp (fun cs a h=>rBytes_stays.to (Keeps.grown hg7 hv7) h)
     case measure=>have:=Hin.out;simp[intOf];omega
    ·have hiM:i=M1:=by omega
     subst hiM
     have hall:(partsG (xs,xo,xr)).take (i+2)=partsG (xs,xo,xr):=List.take_of_length_le (by rw[HPl.out];omega)
     rw[hall] at hch
     have hpts:=own_rSlice rBytes_stays hown.out HPl.out hch.out
     have Hpts:=zZ hpts
     have HBw:=zZ (H3.out.trans (hB.out.mono H3.out.size))
     have HPl2:=zZ (show (partsG (xs,xo,xr)).length≤10 by rw[HPl.out];omega)
     have h2n:i+2≤10:=by omega
     clear hpts hall hown hch hB hMo P3 Hgo hi' hin hM8 hsr
     have hil:¬ ((i:Int)<(i:Int)):=by omega
     go_wp2
     go_loopw [39] (fun jv w'=>∃ j:Nat,j≤i+2∧jv=.int .i64 (j:Int)∧w'=wr∧Hid (∀ p∈(partsG (xs,xo,xr)).take j,p.length≤200)) (fun jv _=>i+2 - (intOf jv).toNat)
     case atStart=>exact⟨0,by omega,rfl,rfl,zZ (by simp)⟩
     case round=>
      obtain⟨j,hj',rfl,hw,hsh⟩:=hrel
      replace hw:=hw.symm
      subst hw
      by_cases hjn:j<i+2
      ·obtain⟨p,hp⟩:∃ p,(partsG (xs,xo,xr))[j]?=some p:=⟨_,zV (by rw[HPl.out];exact hjn)⟩
       obtain⟨b,off,A9,c9,rfl,hb,x0,-,-,-,-⟩:=pts_at Hpts.out hp
       have Hpm:=zZ (List.mem_of_getElem? hp)
       have Htk:=zZ (take_at hp)
       have hjl:(j:Int)<(i:Int)+2:=by omega
       have hj0:(0:Int)≤(j:Int):=by omega
       have Hjn:=zZ hjn
       clear hp
       have Hc5p:=zZ (fun hl=>Hc5.out p Hpm.out hl)
       have Hpl:=zZ (fun (hl:p.length≤200) q (hq:q∈(partsG (xs,xo,xr)).take (j+1))=>(show q.length≤200 by
        rw[Htk.out] at hq
        rcases List.mem_append.1 hq with hq | hq
        ·exact hsh.out q hq
        ·rw[List.mem_singleton.1 hq];exact hl))
       clear Hpm
       generalize p.length=pn at *
       by_cases hl:pn≤200
       ·have hl':decide ((pn:Int)≤200)=true:=zJ (by omega)
        have Hl:=zZ hl
        clear hl
        go_wp2_with fail
        refine (must_yes 5 _).mono ?_
        rintro r wz ⟨rfl,hwz⟩
        replace hwz:=hwz.symm
        subst hwz
        go_wp2_with fail
        go_roundw
        case rel=>exact⟨j+1,Hjn.out,by have:=Hjn.out;go_num,by trivial,zZ (Hpl.out Hl.out)⟩
        case measure=>have:=Hjn.out;simp[intOf];omega
       ·have hl':decide ((pn:Int)≤200)=false:=zK (by omega)
        have H5:=zZ (Hc5p.out (by omega))
        clear hl
        go_wp2_with fail
        refine (must_no 5 _).mono ?_
        rintro r wz ⟨rfl,hwz⟩
        replace hwz:=hwz.symm
        subst hwz
        unfold Wrong
        go_wp2_with fail
        exact⟨rfl,.inr ⟨by rw[H5.out];decide,by rw[H5.out];rfl⟩,HBw.out⟩
      ·have hjn':¬ ((j:Int)<(i:Int)+2):=by omega
       rw[List.take_of_length_le (by rw[HPl.out];omega)] at hsh
       have H9:=zZ (Hc0.out hsh.out)
       clear hjn
       go_wp2
       go_ret
       exact⟨.inl ⟨H9.out,_,_,_,rfl,by rw[hcg];exact Hpts.out⟩,HBw.out⟩
theorem sum1_any (A B C:Option Addr) (N c M d K e:Nat) (g:Gr) (w:World) (hKt:Kt w) (h:rGr (All w) w [.slice A N c,.slice B M d,.slice C K e] g):
  Calls Tryz.prog 53 #[.agg #[.slice A N c,.slice B M d,.slice C K e]] w fun r w'=>Below w.heap.size w w'∧((∃ v,r=.returned v∧codeE g=0∧v=.int .u32 (codeS g:Int))∨∃ n,r=Wrong n∧codeE g≠0∧n=codeE g):=by
 obtain⟨i0,hi,hz0,hz1,hz2⟩:=info_parts info_u8
 have hB0:Below w.heap.size w (w.alloc (.cells #[.slice A N c,.slice B M d,.slice C K e] 28)):=(zA _ w).alloc (zW _) _
 have p0:=Blk.new w 28 [.slice A N c,.slice B M d,.slice C K e]
 have T1:=zZ (partsOf_any A B C N c M d K e g _ (hKt.below hB0) (gr_below hB0 h))
 have H0:=zZ hB0
 have Hok:=zZ (gr_ok h)
 have a0:=p0.cell (j:=0) rfl
 have a1:=p0.cell (j:=1) rfl
 have a2:=p0.cell (j:=2) rfl
 clear h hKt hB0 p0
 go_enter Tryz.func53,Tryz.ntmps53
 go_wp2_with fail
 refine T1.out.mono ?_
 rintro r w1 ⟨⟨h0,A1,n,c1,rfl,hp⟩ | ⟨h0,rfl⟩,hB1⟩
 ·have H1:=zZ (H0.out.trans (hB1.mono H0.out.size))
  have hokF:=code_okF Hok.out h0
  have hS:codeS g=sumL (lensB (partsG (canonG g))):=if_pos h0
  have HS:=zZ hS
  have hfew:(partsG (canonG g)).length≤40:=hokF.few
  have hsh:∀ p∈partsG (canonG g),p.length≤200:=hokF.short
  have hby:∀ p∈partsG (canonG g),∀ x∈p,x<256:=hokF.byte
  have Hpb:=zZ (lensB_byte hby)
  have hpl:∀ i,(lensB ((partsG (canonG g)).take i)).length≤8400:=fun i=>by
   have:=lensB_len (l:=(partsG (canonG g)).take i) (fun p hp=>hsh p (List.mem_of_mem_take hp))
   rw[List.length_take] at this
   omega
  have Hpl:=zZ hpl
  have Hsh:=zZ hsh
  obtain⟨hn,-,-⟩:=pts_len hp
  rw[hn] at hfew
  have Hn:=zZ hn
  have Hp:=zZ hp
  have Hc:=zZ h0
  clear hB1 H0 hp h0 a0 a1 a2 T1 hokF hS hsh hby hpl hn Hok
  generalize partsG (canonG g)=ps at *
  go_wp2
  go_loopw [3,9] (fun v iv wr=>∃ i:Nat,i≤n∧iv=.int .i64 (i:Int)∧wr.ownsRow w1.heap.size 5 1 v (lensB (ps.take i)).length (u8s (lensB (ps.take i)))∧Below w1.heap.size w1 wr) (fun _ iv _=>n - (intOf iv).toNat)
  case atStart=>exact⟨0,by omega,rfl,World.ownsRow_nil _ _ _ _,zA _ _⟩
  case round=>
   rename World=>wr
   obtain⟨i,hi',rfl,hown,hB⟩:=hrel
   have hsr:=hB.size
   by_cases hin:i<n
   ·obtain⟨p,hp⟩:∃ p,ps[i]?=some p:=⟨_,zV (by have:=Hn.out;omega)⟩
    obtain⟨b,off,A9,c9,rfl,hb,x0,-,-,hpb,hrd⟩:=pts_at Hp.out hp
    have x0':=(hB.cell (p:=⟨b,off+i,none⟩) hb).trans x0
    have hp200:=Hsh.out p (List.mem_of_getElem? hp)
    have htk:lensB (ps.take (i+1))=lensB (ps.take i)++vputL p.length++p:=by rw[take_at hp,lensB_one]
    have hl1:=Hpl.out i
    have hl2:=putL_len10 p.length (by omega)
    have P1:=zZ (fun W=>vput_any p.length W (by omega))
    have eu:IntKind.u64.wrap (p.length:Int)=(p.length:Int):=by have:IntKind.u64.wrap (p.length:Int)=(p.length:Int) % 18446744073709551616:=rfl;omega
    have Htk:=zZ htk
    have HB:=zZ hB
    have Hrd:=zZ (RdIn.rd hrd)
    have hil:(i:Int)<(n:Int):=by omega
    have hi0:(0:Int)≤(i:Int):=by omega
    have Hin:=zZ hin
    have Hpe:Hid ((u8s p).length=p.length):=zZ (by simp)
    clear htk hB x0 hp hrd hpb
    generalize lensB (ps.take i)=pre at *
    generalize hpn:p.length=pn at *
    go_wp2_with fail
    refine (P1.out wr).mono ?_
    rintro r w3 ⟨v3,rfl,hv3,hB3⟩
    obtain⟨A3,c3,rfl,hc3,hr3,-⟩:=own_slice hv3
    have hown3:=own_below hown hB3
    have HB3:=zZ (HB.out.trans (hB3.mono hsr))
    have hsz:=HB3.out.size
    have Hown3:=zZ hown3
    clear P1 hown hv3 hB3 HB x0' eu
    generalize vputL pn=pv at *
    go_wp2_with (first
     | (at_builtin;refine wpList_app rfl (.tmp 13) (.tmp 17) 98 rfl w1.heap.size 5 i0 (.int .u8 0) 1 Tryz.underlying98 hi hz0 hz1 hz2 rfl _ pre.length (u8s pre) rfl hown3 A3 pv.length c3 (u8s pv) rfl (by simp) hr3 (u8s_one _) (by simp only[maxLen];omega) (by omega) hsz ?_;intro v5 w5 hown5 hg5 _;have HB5:=zZ (HB3.out.grown hg5 hsz (fun k hk=>(Hown3.out.lt k hk).1));have hs5:=HB5.out.size;have hr5:=Hrd.out.below HB5.out;have Hg5:=zZ hg5;clear hg5)
     | (at_builtin;refine wpList_app rfl (.tmp 19) (.tmp 20) 98 rfl w1.heap.size 5 i0 (.int .u8 0) 1 Tryz.underlying98 hi hz0 hz1 hz2 rfl _ (pre.length+pv.length) (u8s pre++u8s pv) rfl hown5 A9 pn c9 (u8s p) rfl Hpe.out hr5 (u8s_one _) (by simp only[maxLen];omega) (by omega) hs5 ?_;intro v6 w6 hown6 hg6 _)
     | fail)
    go_roundw
    case rel=>
     refine⟨i+1,Hin.out,by have:=Hin.out;go_num,?_,HB5.out.grown hg6 hs5 (fun k hk=>(hown5.lt k hk).1)⟩
     rw[Htk.out,List.length_append,List.length_append,hpn,u8s_append,u8s_append]
     exact hown6
    case measure=>have:=Hin.out;simp[intOf];omega
   ·have hiK:i=n:=by omega
    rw[List.take_of_length_le (by have:=Hn.out;omega)] at hown
    obtain⟨A5,c5,rfl,hc5,hr5,-⟩:=own_slice hown
    have hpl:=Hpl.out n
    rw[List.take_of_length_le (by have:=Hn.out;omega)] at hpl
    have T9:=zZ (sum_any A5 c5 _ (lensB ps) wr rfl Hpb.out hr5 (by omega))
    have HB9:=zZ (H1.out.trans (hB.mono H1.out.size))
    clear hiK hown hr5 hB
    rw[← HS.out] at T9
    generalize lensB ps=lb at *
    go_wp2_with fail
    refine T9.out.mono ?_
    rintro r w9 ⟨rfl,hB9⟩
    go_wp2
    go_ret
    exact⟨HB9.out.trans (hB9.mono HB9.out.size),.inl ⟨_,rfl,Hc.out,rfl⟩⟩
 ·have H1:=zZ (H0.out.trans (hB1.mono H0.out.size))
  have Hc:=zZ h0
  clear hB1 H0 h0 T1
  unfold Wrong
  go_wp2_with fail
  exact⟨rfl,H1.out,.inr ⟨_,rfl,Hc.out,rfl⟩⟩
theorem sum2_any (A B C:Option Addr) (N c M d K e:Nat) (g:Gr) (k:Nat) (w:World) (hKt:Kt w) (hb:Blk w k 28 [.slice A N c,.slice B M d,.slice C K e]) (h:rGr (All w) w [.slice A N c,.slice B M d,.slice C K e] g):
  Calls Tryz.prog 52 #[.pointer (some ⟨k,0,none⟩)] w fun r w'=>Below w.heap.size w w'∧((∃ v,r=.returned v∧codeE g=0∧v=.int .u32 (codeS g:Int))∨∃ n,r=Wrong n∧codeE g≠0∧n=codeE g):=by
 have T1:=zZ (sum1_any A B C N c M d K e g w hKt h)
 have a0:=hb.cell (j:=0) rfl
 have a1:=hb.cell (j:=1) rfl
 have a2:=hb.cell (j:=2) rfl
 clear h hKt hb
 go_enter Tryz.func52,Tryz.ntmps52
 go_wp2_with fail
 refine T1.out.mono ?_
 rintro r w1 ⟨hB1,⟨v,rfl,h0,hv⟩ | ⟨n,rfl,h0,hn⟩⟩
 ·have Hc:=zZ h0
  have Hv:=zZ hv
  have HB:=zZ hB1
  clear h0 hv hB1 T1 a0 a1 a2
  go_wp2
  go_ret
  exact⟨HB.out,.inl ⟨_,rfl,Hc.out,Hv.out⟩⟩
 ·have Hc:=zZ h0
  have Hn:=zZ hn
  have HB:=zZ hB1
  clear h0 hn hB1 T1 a0 a1 a2
  unfold Wrong
  go_wp2_with fail
  exact⟨rfl,HB.out,.inr ⟨_,rfl,Hc.out,Hn.out⟩⟩
theorem csum_any (A B C:Option Addr) (N c M d K e:Nat) (g:Gr) (w:World) (hKt:Kt w) (h:rGr (All w) w [.slice A N c,.slice B M d,.slice C K e] g):
  Calls Tryz.prog 19 #[.agg #[.slice A N c,.slice B M d,.slice C K e]] w fun r w'=>r=.returned (.tuple #[.int .u32 (codeS g:Int),.int .i64 (codeE g)])∧Below w.heap.size w w':=by
 have hmf:∀ (fn:Fn) (first cap:Array Value) (w:World),(Instr.makeFunc fn first cap).run Tryz.prog w=.ok (.func fn first cap) w:=fun _ _ _ _=>rfl
 have hB0:Below w.heap.size w (w.alloc (.cells #[.slice A N c,.slice B M d,.slice C K e] 28)):=(zA _ w).alloc (zW _) _
 have p0:=Blk.new w 28 [.slice A N c,.slice B M d,.slice C K e]
 have T1:=zZ (answerU_any (Good:=fun v w'=>codeE g=0∧v=.int .u32 (codeS g:Int)) (Bad:=fun n=>codeE g≠0∧n=codeE g) w.heap.size (w.alloc (.cells #[.slice A N c,.slice B M d,.slice C K e] 28)) (fun W hW=>sum2_any A B C N c M d K e g _ W (hKt.below (hB0.trans (hW.mono hB0.size))) (p0.to hW) (gr_below hW (gr_below hB0 h))))
 have H0:=zZ hB0
 clear h hKt hB0 p0
 go_enter Tryz.func19,Tryz.ntmps19
 go_wp2_with fail
 refine T1.out.mono ?_
 rintro r w1 ⟨hB1,⟨v,rfl,h0,rfl⟩ | ⟨n,rfl,h0,rfl⟩⟩
 ·have HB:=zZ (H0.out.trans (hB1.mono H0.out.size))
  have Hc:=zZ h0
  clear h0 hB1 T1
  go_wp2
  go_ret2
  exact⟨(show Ending.returned (.tuple #[.int .u32 (codeS g:Int),.int .i64 0])=_ by rw[Hc.out]),HB.out⟩
 ·have Hb:=zZ (codeS_no h0)
  have HB:=zZ (H0.out.trans (hB1.mono H0.out.size))
  clear h0 hB1 T1
  go_wp2
  go_ret2
  exact⟨(show Ending.returned (.tuple #[.int .u32 0,.int .i64 (codeE g)])=_ by rw[Hb.out];rfl),HB.out⟩
end Go.Proofs.YtnljjnkindjeoaaGreatDoor
