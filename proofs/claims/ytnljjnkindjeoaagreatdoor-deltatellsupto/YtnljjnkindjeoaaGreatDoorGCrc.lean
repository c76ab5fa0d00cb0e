/- The texts CrBits, CrTurn, CrTable, CrWith, Concat, CrSeal, CrRef in one (as far as the seat has what they speak of); what each proves, and its conditions, stands before it. -/
import Derived.Test.YtnljjnkindjeoaaGreatDoorGBytes
import Derived.Test.YtnljjnkindjeoaaGreatDoorGGen
import Derived.Laws.BitsAllLaws
import Derived.Deep.WholeRow
import Derived.Lib.AppendZeros
import Derived.Deep.QuietTactic
import Derived.BigQuiet
import Derived.Test.YtnljjnkindjeoaaGreatDoorAl
set_option maxRecDepth 100000
set_option maxHeartbeats 1000000
namespace Go.Proofs.YtnljjnkindjeoaaGreatDoor
open Go.RowKit
theorem xor_half (n:Nat) (hn:n<4294967296):bits BinOp.xor IntKind.u32 ((n:Int) / 2) 3988292384=((n / 2 ^^^ 3988292384:Nat):Int):=
 u32_xor_nat (n / 2) 3988292384 (by omega) (by omega)
theorem halve_any (n:Nat) (w:World) (hn:n<4294967296):
  Calls Tryz.prog 163 #[.int .u32 (n:Int)] w fun e w'=>e=.returned (.int .u32 (hv n:Int))∧w=w':=by
 by_cases h:n % 2=0
 ·go_enter Tryz.func163,Tryz.ntmps163
  go_wp2
  go_ret
  refine⟨ret_int ?_,rfl⟩
  rw[hv,if_pos h];omega
 ·go_enter Tryz.func163,Tryz.ntmps163
  go_wp2
  go_ret
  refine⟨ret_int ?_,rfl⟩
  rw[hv,if_neg h]
  exact xor_half n hn
theorem turn_any (n b:Nat) (w:World) (hn:n<4294967296) (hb:b<2):
  Calls Tryz.prog 144 #[.int .u32 (n:Int),.int .u32 (b:Int)] w fun e w'=>e=.returned (.int .u32 (hv (n ^^^ b):Int))∧w=w':=by
 have ht:=turn_hv n b hb
 by_cases h:n % 2=b
 ·go_enter Tryz.func144,Tryz.ntmps144
  go_wp2
  go_ret
  refine⟨ret_int ?_,rfl⟩
  rw[← ht,if_neg (by omega)];omega
 ·go_enter Tryz.func144,Tryz.ntmps144
  go_wp2
  go_ret
  refine⟨ret_int ?_,rfl⟩
  rw[← ht,if_pos h]
  exact xor_half n hn
theorem flip_bits (n:Nat) (hn:n<4294967296):bits BinOp.xor IntKind.u32 (n:Int) 4294967295=((flip32 n:Nat):Int):=u32_xor_nat n 4294967295 hn (by omega)
theorem rwith_any (s:Nat) (A:Option Addr) (c:Nat) (bs:List Nat) (w:World) (hs:s<4294967296) (hb:∀ x∈bs,x<256) (hr:Rd w A (u8s bs)) (hlen:bs.length≤140737488355328):
  Calls Tryz.prog 112 #[.int .u32 (s:Int),.slice A bs.length c] w fun e w'=>e=.returned (.int .u32 (withL s bs:Int))∧w=w':=by
 have hf:=flip_bits s hs
 have hfl:=flip_lt hs
 have hres:∀ f,f<4294967296→fol (flip32 s) bs=f→bits BinOp.xor IntKind.u32 (f:Int) 4294967295=((withL s bs:Nat):Int):=fun f h1 h=>by rw[flip_bits f h1,withL,h]
 have Hres:=zZ hres
 clear hres
 generalize flip32 s=f0 at *
 go_enter Tryz.func112,Tryz.ntmps112
 go_wp2
 go_loop [5,6] (fun n i=>∃ k f:Nat,k≤bs.length∧f<4294967296∧i=.int .i64 k∧n=.int .u32 f∧fol f (bs.drop k)=fol f0 bs) (fun _ i=>bs.length - (intOf i).toNat)
 case atStart=>exact⟨0,f0,Nat.zero_le _,hfl,rfl,rfl,rfl⟩
 case round=>
  obtain⟨k,f,hk,hfl',rfl,rfl,hg⟩:=hrel
  by_cases hlt:k<bs.length
  ·obtain⟨b,off,rfl,hblt,hcell⟩:=u8s_at hr hlt
   have hd:bs[k]<256:=hb _ (List.getElem_mem hlt)
   rw[List.drop_eq_getElem_cons hlt] at hg
   generalize bs[k]=d at *
   have hst:=stp_lt hfl' hd
   have hg':fol (stp f d) (bs.drop (k+1))=fol f0 bs:=hg
   have Hg:=zZ hg'
   clear hg hg'
   go_wp2
   go_loop [5,7,8] (fun n c j=>∃ i m e:Nat,i≤8∧m<4294967296∧e<2 ^ (8 - i)∧j=.int .i64 i∧c=.int .u8 e∧n=.int .u32 m∧hvN (8 - i) (m ^^^ e)=stp f d) (fun _ _ j=>8 - (intOf j).toNat)
   case atStart=>exact⟨0,f,d,by omega,hfl',hd,rfl,rfl,rfl,rfl⟩
   case round=>
    obtain⟨i,m,e,hi,hm,he,rfl,rfl,rfl,hh⟩:=hrel
    have he8:e<256:=Nat.lt_of_lt_of_le he (show 2 ^ (8 - i)≤2 ^ 8 from Nat.pow_le_pow_right (by omega) (by omega))
    by_cases hi8:i<8
    ·have hx:=turn_next m e (7 - i)
     rw[show 7 - i+1=8 - i by omega,hh] at hx
     have hlt2:hv (m ^^^ e % 2)<4294967296:=hv_lt (xor_lt32 hm (by omega))
     have htn:=fun W=>turn_any m (e % 2) W hm (Nat.mod_lt _ (by omega))
     generalize hv (m ^^^ e % 2)=m' at *
     have Hx:=zZ hx
     have Htn:=zZ htn
     have He:=zZ he
     have hi8':(i:Int)<8:=by omega
     clear hx htn he hh
     go_wp2_with fail
     refine (Htn.out _).mono ?_
     rintro e' w' ⟨rfl,rfl⟩
     go_wp2
     go_round
     case rel=>exact⟨i+1,m',e / 2,by omega,hlt2,by have:=He.out;rw[show 8 - i=8 - (i+1)+1 by omega,Nat.pow_succ] at this;omega,by go_num,by go_num,rfl,by rw[show 8 - (i+1)=7 - i by omega];exact Hx.out.symm⟩
     case measure=>simp[intOf];omega
    ·obtain rfl:i=8:=by omega
     obtain rfl:e=0:=by simp at he;omega
     rw[Nat.xor_zero] at hh
     have hh':m=stp f d:=hh
     have HH:=zZ hh'
     clear hh hh'
     go_wp2
     go_round
     case rel=>exact⟨k+1,m,by omega,hm,by go_num,rfl,by rw[HH.out];exact Hg.out⟩
     case measure=>simp[intOf];omega
  ·have hdr:bs.drop k=[]:=List.drop_eq_nil_of_le (by omega)
   rw[hdr] at hg
   have hres:=Hres.out f hfl' hg.symm
   have HH:=zZ hres
   clear hres hg hdr
   go_wp2
   go_ret
   exact⟨ret_int HH.out,rfl⟩
def u32s (ns:List Nat):List Value:=ns.map fun x:Nat=>Value.int .u32 (x:Int)
theorem u32s_length (ns:List Nat):(u32s ns).length=ns.length:=by simp[u32s]
theorem u32s_one (bs:List Nat):∀ u∈u32s bs,u.oneCell'=true:=by
 intro u hu
 obtain⟨x,_,rfl⟩:=List.mem_map.1 hu
 rfl
def tabF (k:Nat):List Nat:=(List.range 256).map fun i=>if i % 2 ^ k=0 then hvN 8 i else 0
def tabG (k low:Nat):List Nat:=(List.range 256).map fun i=>if i % 2 ^ (k+1)=0∨(i % 2 ^ k=0∧i<low) then hvN 8 i else 0
theorem tabG_length (k low:Nat):(tabG k low).length=256:=by simp[tabG]
theorem tabF_length (k:Nat):(tabF k).length=256:=by simp[tabF]
theorem tabG_zero (k:Nat):tabG k 0=tabF (k+1):=by simp[tabG,tabF]
theorem pow8 {k:Nat} (hk:k<8):(k=0∨k=1∨k=2∨k=3∨k=4∨k=5∨k=6∨k=7):=by omega
theorem tabG_all {k low:Nat} (hk:k<8) (hl:256≤low):tabG k low=tabF k:=by
 unfold tabG tabF
 apply List.map_congr_left
 intro i hi
 have:i<256:=by simpa using hi
 have e:(i % 2 ^ (k+1)=0∨(i % 2 ^ k=0∧i<low))↔i % 2 ^ k=0:=by
  rcases pow8 hk with rfl | rfl | rfl | rfl | rfl | rfl | rfl | rfl <;> simp <;> omega
 simp only[e]
theorem tabG_get {k low j:Nat} (hj:j<256):(tabG k low)[j]?=some (if j % 2 ^ (k+1)=0∨(j % 2 ^ k=0∧j<low) then hvN 8 j else 0):=by
 simp[tabG,hj]
theorem tabG_next {k low:Nat} (hk:k<8) (hl:low<256) (hm:low % 2 ^ (k+1)=0):tabG k (low+2 * 2 ^ k)=(tabG k low).set (low+2 ^ k) (hvN 8 (low+2 ^ k)):=by
 apply List.ext_getElem?
 intro j
 by_cases hj:j<256
 ·rw[tabG_get hj,List.getElem?_set]
  by_cases e:low+2 ^ k=j
  ·subst e
   rw[if_pos rfl,if_pos (show low+2 ^ k<(tabG k low).length by rw[tabG_length];exact hj),if_pos]
   rcases pow8 hk with rfl | rfl | rfl | rfl | rfl | rfl | rfl | rfl <;> simp at hm ⊢ <;> omega
  ·rw[if_neg e,tabG_get hj]
   have e2:(j % 2 ^ (k+1)=0∨(j % 2 ^ k=0∧j<low+2 * 2 ^ k))↔(j % 2 ^ (k+1)=0∨(j % 2 ^ k=0∧j<low)):=by
    rcases pow8 hk with rfl | rfl | rfl | rfl | rfl | rfl | rfl | rfl <;> simp at hm e ⊢ <;> omega
   simp only[e2]
 ·rw[List.getElem?_eq_none (by rw[tabG_length];omega),List.getElem?_eq_none (by rw[List.length_set,tabG_length];omega)]
theorem u32s_set (ns:List Nat) (j x:Nat):(u32s ns).set j (.int .u32 (x:Int))=u32s (ns.set j x):=by simp[u32s,List.map_set]
theorem u32s_get {ns:List Nat} {j x:Nat} (h:ns[j]?=some x):(u32s ns)[j]?=some (.int .u32 (x:Int)):=by simp[u32s,h]
theorem step_next (k:Nat):hv (hvN 8 (2 ^ (k+1)))=hvN 8 (2 ^ k):=by
 have h1:hvN (8+1) (2 ^ (k+1))=hv (hvN 8 (2 ^ (k+1))):=by rw[hvN_add];rfl
 rw[← h1,hvN,Nat.pow_succ,Nat.mul_comm,hv_even]
theorem add_any (k:Nat) (hk:k<8) (n0 p q:Nat) (w:World) (hpq:p≠q) (hp0:n0≤p) (hq0:n0≤q) (hp:Blk w p 29 [.int .u32 ((hvN 8 (2 ^ (k+1)):Nat):Int)]) (hq:Blk w q 185 (u32s (tabF (k+1)))):
  Calls Tryz.prog 162 #[.int .i64 ((2 ^ k:Nat):Int),.pointer (some ⟨p,0,none⟩),.pointer (some ⟨q,0,none⟩)] w fun e w'=>(∃ v,e=.returned v)∧Below n0 w w'∧Blk w' p 29 [.int .u32 ((hvN 8 (2 ^ k):Nat):Int)]∧Blk w' q 185 (u32s (tabF k)):=by
 have hst:=step_next k
 have hlt:hvN 8 (2 ^ (k+1))<4294967296:=hvN_lt 8 (by rcases pow8 hk with rfl | rfl | rfl | rfl | rfl | rfl | rfl | rfl <;> decide)
 have hh:=fun W=>halve_any _ W hlt
 rw[hst] at hh
 have hslt:hvN 8 (2 ^ k)<4294967296:=by rw[← hst];exact hv_lt hlt
 generalize hS0:hvN 8 (2 ^ (k+1))=s0 at *
 have htab:∀ low,low % 2 ^ (k+1)=0→hvN 8 (low+2 ^ k)=hvN 8 low ^^^ hvN 8 (2 ^ k):=fun low h=>tab_add k low h
 generalize hS1:hvN 8 (2 ^ k)=s1 at *
 have hnext:∀ low,low<256→low % 2 ^ (k+1)=0→tabG k (low+2 * 2 ^ k)=(tabG k low).set (low+2 ^ k) (hvN 8 (low+2 ^ k))∧low+2 ^ k<256∧(low+2 * 2 ^ k) % 2 ^ (k+1)=0∧low+2 * 2 ^ k≤256∧1≤2 ^ k∧2 ^ k≤128:=fun low h1 h2=>by
  refine⟨tabG_next hk h1 h2,?_⟩
  rcases pow8 hk with rfl | rfl | rfl | rfl | rfl | rfl | rfl | rfl <;> simp at h2 ⊢ <;> omega
 have hb:1≤2 ^ k∧2 ^ k≤128:=(hnext 0 (by omega) (by simp)).2.2.2.2
 have hall:∀ low,256≤low→tabG k low=tabF k:=fun low h=>tabG_all hk h
 have hz:=tabG_zero k
 have hget:∀ low,low<256→low % 2 ^ (k+1)=0→(tabG k low)[low]?=some (hvN 8 low):=fun low h1 h2=>by rw[tabG_get h1,if_pos (.inl h2)]
 have hd0:(0:Nat) % 2 ^ (k+1)=0:=by simp
 generalize 2 ^ (k+1)=m2 at *
 generalize 2 ^ k=m at *
 have Hh:=zZ hh
 have Hn:=zZ hnext
 have Ha:=zZ hall
 have Hg:=zZ hget
 have Ht:=zZ htab
 have Hz:=zZ hz
 have hpc:=hp.cell (j:=0) rfl
 have hpf:=hp.frozen 0
 clear hh hnext hall hget htab hz hst hS0 hS1
 go_enter Tryz.func162,Tryz.ntmps162
 go_wp2_with fail
 refine (Hh.out _).mono ?_
 rintro e w1 ⟨rfl,rfl⟩
 go_wp2
 have hp1:=hp.set 0 (.int .u32 (s1:Int))
 have hq1:=hq.other ⟨p,0,none⟩ (.int .u32 (s1:Int)) (fun h=>hpq h.symm)
 rw[← Hz.out] at hq1
 have hB1:Below n0 w (w.setCell ⟨p,0,none⟩ (.int .u32 (s1:Int))):=(zA _ w).setCell hp0 _
 generalize w.setCell ⟨p,0,none⟩ (.int .u32 (s1:Int))=w1 at *
 clear hp hq hpc hpf
 go_loopw [4] (fun i wr=>∃ low:Nat,i=.int .i64 low∧low≤256∧low % m2=0∧Blk wr p 29 [.int .u32 (s1:Int)]∧Blk wr q 185 (u32s (tabG k low))∧Below n0 w wr) (fun i _=>256 - (intOf i).toNat)
 case atStart=>exact⟨0,rfl,by omega,hd0,hp1,hq1,hB1⟩
 case round=>
  obtain⟨low,rfl,hl,hm,hp2,hq2,hB2⟩:=hrel
  by_cases hlow:low<256
  ·obtain⟨hn1,hn2,hn3,hn4,_⟩:=Hn.out low hlow hm
   have hgl:=Hg.out low hlow hm
   have hqc:=hq2.cell (u32s_get hgl)
   have hpc:=hp2.cell (j:=0) rfl
   have hx:=u32_xor_nat (hvN 8 low) s1 (hvN_lt 8 (by omega)) hslt
   rw[← Ht.out low hm] at hx
   generalize hvN 8 (low+m)=t1 at *
   generalize hvN 8 low=t0 at *
   have hqf:=hq2.frozen (low+m)
   obtain⟨t2,hqm⟩:∃ v,wr.cell? ⟨q,low+m,none⟩=some v:=⟨_,hq2.cell (u32s_get (tabG_get hn2))⟩
   have hl1:(low:Int)<256:=by omega
   have hl2:IntKind.i64.wrap ((low:Int)+(m:Int))=(low:Int)+(m:Int):=IntWalk.i64_in _ (by omega)
   have hl3:(low:Int)+(m:Int)<256:=by omega
   have hl4:((low:Int)+(m:Int)).toNat=low+m:=by omega
   have hl5:(0:Int)≤(low:Int)+(m:Int):=by omega
   have Hn1:=zZ hn1
   have Hgl:=zZ hgl
   clear hn1 hgl
   have hq3:=hq2.set (low+m) (.int .u32 (t1:Int))
   rw[u32s_set,← Hn1.out] at hq3
   have hp3:=hp2.other ⟨q,low+m,none⟩ (.int .u32 (t1:Int)) hpq
   have hB3:=hB2.setCell (p:=⟨q,low+m,none⟩) hq0 (.int .u32 (t1:Int))
   have hqc3:=hq3.cell (u32s_get (j:=low) (x:=t0) (by rw[Hn1.out,List.getElem?_set_ne (by omega)];exact Hgl.out))
   have hpc3:=hp3.cell (j:=0) rfl
   go_wp2_with fail
   refine sch_start [(0,true),(1,true),(2,true),(3,true),(4,true),(5,true),(6,true),(7,true),(8,true),(9,false)]
    (fun W=>W.cell? ⟨q,low,none⟩=some (.int .u32 (t0:Int))∧W.cell? ⟨p,0,none⟩=some (.int .u32 (s1:Int))) (by kernel_rfl) rfl (by kernel_rfl) (fun _ _ _ _ _ h=>h) ⟨hqc,hpc⟩ (fun hH=>?_)
   repeat (first
    | (refine sch_yes (v:=?_) rfl rfl ?_ hH ?_;rotate_left;(focus ((rintro W ⟨hW1,hW2⟩;go_simp) <;> with_reducible rfl));simp only[Act.put,zY,zX,zQ])
    | (refine sch_no rfl rfl hH ?_;simp only[Act.put,zY,zX,zQ]))
   refine sch_call rfl rfl (fun K hK=>?_)
   go_wp2
   refine hK.out _ _ ⟨hqc3,hpc3⟩ ?_
   clear hK
   refine sch_done ?_
   go_wp2
   go_roundw
   case rel=>exact⟨low+2 * m,by go_num,hn4,hn3,hp3,hq3,hB3.drew⟩
   case measure=>simp[intOf];omega
  ·obtain rfl:low=256:=by omega
   rw[Ha.out 256 (by omega)] at hq2
   go_wp2
   go_end0
   exact⟨⟨_,rfl⟩,hB2,hp2,hq2⟩
theorem tabF_8:tabF 8=List.replicate 256 0:=by decide +kernel
theorem info_tab:(Tryz.prog.info? 185).map (fun i=>(i.zero,i.size))=some (some (.agg (Array.replicate 256 (.int .u32 0))),256):=by kernel_rfl
theorem table_any (w:World):
  Calls Tryz.prog 155 #[] w fun e w'=>e=.returned (.agg (u32s (tabF 0)).toArray)∧Below w.heap.size w w':=by
 obtain⟨hz,hsz⟩:=zero_of_info info_tab
 have hmf:∀ (fn:Fn) (first cap:Array Value) (w:World),(Instr.makeFunc fn first cap).run Tryz.prog w=.ok (.func fn first cap) w:=fun _ _ _ _=>rfl
 go_enter Tryz.func155,Tryz.ntmps155
 go_wp2
 have hrep:(Array.replicate 256 (Value.int .u32 0))=(u32s (tabF 8)).toArray:=by rw[tabF_8,u32s,List.map_replicate,List.toArray_replicate];rfl
 have hb0:=Blk.new w 185 (u32s (tabF 8))
 have hb1:=Blk.new (w.alloc (.cells (u32s (tabF 8)).toArray 185)) 185 (u32s (tabF 8))
 have hb2:=Blk.new ((w.alloc (.cells (u32s (tabF 8)).toArray 185)).alloc (.cells (u32s (tabF 8)).toArray 185)) 29 [.int .u32 1]
 rw[← hrep] at hb0 hb1 hb2
 have hb0':=(hb0.alloc (.cells (Array.replicate 256 (Value.int .u32 0)) 185)).alloc (.cells #[Value.int .u32 1] 29)
 have hb1':=hb1.alloc (.cells #[Value.int .u32 1] 29)
 have hB0:Below w.heap.size w (((w.alloc (.cells (Array.replicate 256 (Value.int .u32 0)) 185)).alloc (.cells (Array.replicate 256 (Value.int .u32 0)) 185)).alloc (.cells #[Value.int .u32 1] 29)):=(((zA _ w).alloc (zW _) _).alloc (by simp) _).alloc (by simp;omega) _
 simp only[World.size_alloc] at hb1' hb2
 clear hb0 hb1
 have hmid:∀ k,k<8→2 ^ (k+1) / 2=2 ^ k∧0<2 ^ k∧2 ^ k≤128:=fun k hk=>by rcases pow8 hk with rfl | rfl | rfl | rfl | rfl | rfl | rfl | rfl <;> decide
 have Hmid:=zZ hmid
 clear hmid hrep
 go_loopw [4] (fun i wr=>∃ k:Nat,k≤8∧i=.int .i64 ((2 ^ k / 2:Nat):Int)∧Blk wr w.heap.size 185 (u32s (tabF 8))∧Blk wr (w.heap.size+1) 185 (u32s (tabF k))∧Blk wr (w.heap.size+1+1) 29 [.int .u32 ((hvN 8 (2 ^ k):Nat):Int)]∧Below w.heap.size w wr) (fun i _=>(intOf i).toNat)
 case atStart=>exact⟨8,by omega,rfl,hb0',hb1',hb2,hB0⟩
 case round=>
  obtain⟨k,hk,rfl,h0,h1,h2,hB⟩:=hrel
  cases k with
  | zero=>
   clear h2 hb0' hb1' hb2 hB0 Hmid
   have hT0:=tabF_length 0
   have hT8:=tabF_length 8
   generalize hTT:tabF 0=T0 at *
   have HT:=zZ hTT
   clear hTT
   generalize tabF 8=T8 at *
   go_wp2_with fail
   refine wp_loadRow (.tmp 1) 185 rfl _ Tryz.underlying185 rfl (by rw[u32s_length,hT0];exact hsz) rfl h1 ?_
   have hul:(u32s T0).length=256:=by rw[u32s_length,hT0]
   have hsc:=h0.stores (P:=Tryz.prog) (cs':=u32s T0) (by rw[u32s_length,u32s_length,hT0,hT8]) (u32s_one T0)
   have hr:=h0.row (u32s T0)
   have hBr:=below_setRow hB (zW _) (u32s T0).toArray
   have hld:=run_loadVar_row (P:=Tryz.prog) _ w.heap.size 185 185 (u32s T0).toArray (0,0) _ hr Tryz.underlying185 rfl (by simp only[List.size_toArray,u32s_length,hT0];exact hsz)
   go_wp2_with fail
   refine bodyPost_ret (v:=.agg (u32s T0).toArray) ?_ rfl ⟨by rw[HT.out],hBr⟩
   rw[results_cell rfl]
   simp only[asAddr,Array.getD_eq_getD_getElem?,List.getElem?_toArray,List.getElem?_cons_zero,Option.getD_some,Sem.run_pure,Result.andThen,hld]
  | succ k=>
   obtain⟨hm1,hm2,hm3⟩:=Hmid.out k (by omega)
   rw[hm1]
   have hadd:=add_any k (by omega) (w.heap.size+1) (w.heap.size+1+1) (w.heap.size+1) wr (by omega) (by omega) (by omega) h2 h1
   have hnx:(2 ^ k / 2:Nat)<2 ^ k:=by omega
   have Hadd:=zZ hadd
   clear hadd
   generalize hmm:2 ^ k=m at *
   go_wp2_with fail
   refine Hadd.out.mono ?_
   rintro e w2 ⟨⟨v,rfl⟩,hB2,h2',h1'⟩
   have h0':=h0.below (by omega) hB2
   have hB':=hB.trans (hB2.mono (by omega))
   go_wp2
   go_roundw
   case rel=>exact⟨k,by omega,by rw[hmm];go_num,h0',h1',by rw[hmm];exact h2',hB'⟩
   case measure=>simp[intOf];omega
theorem tab_get {i:Nat} (hi:i<256):(u32s (tabF 0))[i]?=some (.int .u32 ((hvN 8 i:Nat):Int)):=by
 refine u32s_get ?_
 simp[tabF,hi,Nat.mod_one]
theorem with_round (f d:Nat) (hf:f<4294967296) (hd:d<256):bits BinOp.xor IntKind.u32 ((f:Int) / 256) ((hvN 8 (f % 256 ^^^ d):Nat):Int)=((stp f d:Nat):Int):=by
 rw[stp_table]
 exact u32_xor_nat (f / 256) _ (by omega) (hvN_lt 8 (by have:=xor_lt8 (a:=f % 256) (b:=d) (by omega) hd;omega))
theorem with_any (s:Nat) (A:Option Addr) (c:Nat) (bs:List Nat) (w:World) (hs:s<4294967296) (hb:∀ x∈bs,x<256) (hr:Rd w A (u8s bs)) (hlen:bs.length≤140737488355328):
  Calls Tryz.prog 134 #[.int .u32 (s:Int),.slice A bs.length c] w fun e w'=>e=.returned (.int .u32 (withL s bs:Int))∧Below w.heap.size w w':=by
 by_cases h0:bs.length=0
 ·obtain rfl:bs=[]:=List.eq_nil_of_length_eq_zero h0
  go_enter Tryz.func134,Tryz.ntmps134
  go_wp2
  go_ret
  exact⟨by rw[withL_nil];rfl,zA _ _⟩
 ·obtain⟨hz,hsz⟩:=zero_of_info info_tab
  have hf:bits BinOp.xor IntKind.u32 4294967295 (s:Int)=((flip32 s:Nat):Int):=by rw[flip32,Nat.xor_comm];exact u32_xor_nat 4294967295 s (by omega) hs
  have hfl:=flip_lt hs
  have hres:∀ f,f<4294967296→fol (flip32 s) bs=f→bits BinOp.xor IntKind.u32 4294967295 (f:Int)=((withL s bs:Nat):Int):=fun f h1 h=>by
   rw[withL,h,flip32,Nat.xor_comm];exact u32_xor_nat 4294967295 f (by omega) h1
  have Hres:=zZ hres
  clear hres
  generalize flip32 s=f0 at *
  have h0':((bs.length:Int) == 0)=false:=by rw[beq_eq_false_iff_ne];omega
  have hsg:IntKind.u32.signed=false:=rfl
  have hmx:IntKind.u32.max=4294967295:=rfl
  go_enter Tryz.func134,Tryz.ntmps134
  go_wp2_with fail
  refine (table_any _).mono ?_
  rintro e w1 ⟨rfl,hB1⟩
  have hul:(u32s (tabF 0)).length=256:=by rw[u32s_length,tabF_length]
  have hrep:(Array.replicate 256 (Value.int .u32 0))=(u32s (tabF 8)).toArray:=by rw[tabF_8,u32s,List.map_replicate,List.toArray_replicate];rfl
  have hb0:=Blk.new w1 185 (u32s (tabF 8))
  rw[← hrep] at hb0
  have hsc:=hb0.stores (P:=Tryz.prog) (cs':=u32s (tabF 0)) (by rw[u32s_length,u32s_length,tabF_length,tabF_length]) (u32s_one _)
  have hb1:=hb0.row (u32s (tabF 0))
  have hB2:Below w.heap.size w ((w1.alloc (.cells (Array.replicate 256 (Value.int .u32 0)) 185)).setRow w1.heap.size (u32s (tabF 0)).toArray):=below_setRow (hB1.alloc hB1.size _) hB1.size _
  have hq:∀ i,i<256→((w1.alloc (.cells (Array.replicate 256 (Value.int .u32 0)) 185)).setRow w1.heap.size (u32s (tabF 0)).toArray).cell? ⟨w1.heap.size,i,none⟩=some (.int .u32 ((hvN 8 i:Nat):Int)):=fun i hi=>hb1.cell (tab_get hi)
  have Hq:=zZ hq
  clear hq hrep hb0 hb1
  generalize tabF 0=T0 at *
  go_wp2
  generalize (w1.alloc (.cells (Array.replicate 256 (Value.int .u32 0)) 185)).setRow w1.heap.size (u32s T0).toArray=w2 at *
  generalize w1.heap.size=g at *
  have hr2:=hr.below hB2
  clear hsc
  go_loop [6,18] (fun n i=>∃ k f:Nat,k≤bs.length∧f<4294967296∧i=.int .i64 k∧n=.int .u32 f∧fol f (bs.drop k)=fol f0 bs) (fun _ i=>bs.length - (intOf i).toNat)
  case atStart=>exact⟨0,f0,Nat.zero_le _,hfl,rfl,rfl,rfl⟩
  case round=>
   obtain⟨k,f,hk,hfl',rfl,rfl,hg⟩:=hrel
   by_cases hlt:k<bs.length
   ·obtain⟨b,off,rfl,hblt,hcell⟩:=u8s_at hr2 hlt
    have hd:bs[k]<256:=hb _ (List.getElem_mem hlt)
    rw[List.drop_eq_getElem_cons hlt] at hg
    generalize bs[k]=d at *
    have hst:=stp_lt hfl' hd
    have hg':fol (stp f d) (bs.drop (k+1))=fol f0 bs:=hg
    have Hg:=zZ hg'
    clear hg hg'
    have hx8:bits BinOp.xor IntKind.u8 ((f:Int) % 256) (d:Int)=((f % 256 ^^^ d:Nat):Int):=u8_xor_nat (f % 256) d (by omega) hd
    have hil:=xor_lt8 (a:=f % 256) (b:=d) (by omega) hd
    have hqi:=Hq.out _ hil
    have hro:=with_round f d hfl' hd
    generalize f % 256 ^^^ d=i at *
    generalize hvN 8 i=t at *
    generalize stp f d=f' at *
    have hil':(i:Int)<256:=by omega
    go_wp2
    refine⟨⟨k+1,f',by omega,hst,by go_num,rfl,Hg.out⟩,?_⟩
    simp[intOf];omega
   ·have hdr:bs.drop k=[]:=List.drop_eq_nil_of_le (by omega)
    rw[hdr] at hg
    have hres:=Hres.out f hfl' hg.symm
    have HH:=zZ hres
    clear hres hg hdr
    go_wp2
    go_ret
    exact⟨ret_int HH.out,hB2⟩
theorem sum_any (A:Option Addr) (c n:Nat) (bs:List Nat) (w:World) (hn:bs.length=n) (hb:∀ x∈bs,x<256) (hr:Rd w A (u8s bs)) (hlen:n≤140737488355328):
  Calls Tryz.prog 96 #[.slice A n c] w fun e w'=>e=.returned (.int .u32 (sumL bs:Int))∧Below w.heap.size w w':=by
 subst hn
 have h:=with_any 0 A c bs w (by omega) hb hr hlen
 have H:=zZ h
 clear h
 go_enter Tryz.func96,Tryz.ntmps96
 go_wp2_with fail
 refine H.out.mono ?_
 rintro e w1 ⟨rfl,hB1⟩
 go_wp2
 go_ret
 exact⟨rfl,hB1⟩
theorem rsum_any (A:Option Addr) (c n:Nat) (bs:List Nat) (w:World) (hn:bs.length=n) (hb:∀ x∈bs,x<256) (hr:Rd w A (u8s bs)) (hlen:n≤140737488355328):
  Calls Tryz.prog 66 #[.slice A n c] w fun e w'=>e=.returned (.int .u32 (sumL bs:Int))∧w=w':=by
 subst hn
 have h:=rwith_any 0 A c bs w (by omega) hb hr hlen
 have H:=zZ h
 clear h
 go_enter Tryz.func66,Tryz.ntmps66
 go_wp2_with fail
 refine H.out.mono ?_
 rintro e w1 ⟨rfl,rfl⟩
 go_wp2
 go_ret
 exact⟨rfl,rfl⟩
theorem rseal_any (A:Option Addr) (c n:Nat) (bs:List Nat) (w:World) (hn:bs.length=n) (hb:∀ x∈bs,x<256) (hr:Rd w A (u8s bs)) (hlen:n+4≤140737488355328):
  Calls Tryz.prog 157 #[.slice A n c] w fun e w'=>∃ v,e=.returned v∧w'.ownsRow w.heap.size 5 1 v (sealL bs).length (u8s (sealL bs))∧Below w.heap.size w w':=by
 obtain⟨i0,hi,hz0,hz1,hz2⟩:=info_parts info_u8
 have H:=zZ (rsum_any A c n bs w hn hb hr (by omega))
 have hlt:=sumL_lt hb
 have hfin:∀ v (w':World),w'.ownsRow w.heap.size 5 1 v (n+4) (u8s bs++u8s (le4 (sumL bs)))→w'.ownsRow w.heap.size 5 1 v (sealL bs).length (u8s (sealL bs)):=fun v w' h=>by
  rw[sealL_length,hn,sealL,u8s_append];exact h
 have Hfin:=zZ hfin
 clear hfin
 generalize sumL bs=s at *
 have e:(u8s (le4 s)).toArray=#[Value.int .u8 ((s:Int) % 256),.int .u8 ((s:Int) / 256 % 256),.int .u8 ((s:Int) / 65536 % 256),.int .u8 ((s:Int) / 16777216 % 256)]:=rfl
 have e2:(s:Int) / 16777216 % 256=(s:Int) / 16777216:=by omega
 rw[e2] at e
 have hrd:∀ W:World,Rd (W.alloc (.cells #[Value.int .u8 ((s:Int) % 256),.int .u8 ((s:Int) / 256 % 256),.int .u8 ((s:Int) / 65536 % 256),.int .u8 ((s:Int) / 16777216)] 5)) (some ⟨W.heap.size,0,none⟩) (u8s (le4 s)):=fun W=>by rw[← e];exact lit_rd W _
 have Hrd:=zZ hrd
 clear e e2 hrd
 go_enter Tryz.func157,Tryz.ntmps157
 go_wp2_with fail
 refine H.out.mono ?_
 rintro e w1 ⟨rfl,rfl⟩
 go_wp2_with (first
  | (at_builtin;refine wpList_app rfl (.const (.slice none 0 0)) (.tmp 7) 98 rfl w.heap.size 5 i0 (.int .u8 0) 1 Tryz.underlying98 hi hz0 hz1 hz2 rfl (.slice none 0 0) 0 [] rfl (World.ownsRow_nil _ _ _ _) A n c (u8s bs) rfl (by rw[u8s_length,hn]) hr (u8s_one _) (by simp only[maxLen];omega) (by omega) (zW _) ?_;intro v3 w3 hown3 hg3 _;simp only[Nat.zero_add,List.nil_append] at hown3;have hsz3:=hg3.size)
  | (at_builtin;refine wpList_app rfl (.tmp 9) (.tmp 24) 98 rfl w.heap.size 5 i0 (.int .u8 0) 1 Tryz.underlying98 hi hz0 hz1 hz2 rfl v3 n (u8s bs) rfl (hown3.alloc _) (some ⟨w3.heap.size,0,none⟩) 4 4 (u8s (le4 s)) rfl rfl (Hrd.out w3) (u8s_one _) (by simp only[maxLen];omega) (by omega) (by simp;omega) ?_;intro v4 w4 hown4 hg4 _)
  | fail)
 go_ret
 exact⟨_,rfl,Hfin.out _ _ hown4,(((zA _ w).grown hg3 (zW _) (fun k hk=>by cases hk)).alloc hsz3 _).grown hg4 (by simp;omega) (fun k hk=>(hown3.lt k hk).1)⟩
theorem rseal_form (A:Option Addr) (c n:Nat) (bs:List Nat) (w:World) (hn:bs.length=n) (hb:∀ x∈bs,x<256) (hr:Rd w A (u8s bs)) (hlen:n+4≤140737488355328):
  Calls Tryz.prog 157 #[.slice A n c] w fun e w'=>∃ g cap,e=.returned (.slice (some ⟨g,0,none⟩) (n+4) cap)∧Rd w' (some ⟨g,0,none⟩) (u8s (sealL bs))∧Below w.heap.size w w':=
 (rseal_any A c n bs w hn hb hr hlen).mono fun e w' ⟨v,he,hown,hB⟩=>by
  have hl:(sealL bs).length=n+4:=by rw[sealL_length,hn]
  rw[hl] at hown
  obtain⟨g,cap,rfl,hg,hlt,hcap,hc⟩:=own_open hown (by omega)
  exact⟨g,cap,he,Rd.own hown,hB⟩
end Go.Proofs.YtnljjnkindjeoaaGreatDoor
