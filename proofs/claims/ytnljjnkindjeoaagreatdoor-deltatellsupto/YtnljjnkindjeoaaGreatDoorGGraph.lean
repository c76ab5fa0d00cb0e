/- The texts GrMem, NaLen, ScFind, ScMay, GrRow, NaClone, GrFind, VlFitsAll, GrHave, GrCopyOAll, GrOwn, GrCopy, GrTame, GrMayAll, GrSweepAll in one (as far as the seat has what they speak of); what each proves, and its conditions, stands before it. -/
import Derived.Test.YtnljjnkindjeoaaGreatDoorGPlain
import Derived.Test.YtnljjnkindjeoaaGreatDoorGGen
import Derived.OwnWalk
import Derived.Deep.RegionHeld
import Derived.Shelf.Strconv.Clone
import Derived.WalkKit
import Derived.WalkSpells
import Derived.WalkLawsBesides
import Derived.IntWalk
import Derived.BigQuiet
import Derived.Laws.StructEq
import Derived.Lib.SliceRun
import Derived.Laws.IdiomCopy
import Derived.Maps.OwnSet
import Derived.Deep.DeepCutAuto
import Derived.Laws.EntriesVeiled
import Derived.Test.YtnljjnkindjeoaaGreatDoorAl
set_option maxRecDepth 100000
set_option maxHeartbeats 4000000
namespace Go.Proofs.YtnljjnkindjeoaaGreatDoor
open Go.RowKit
abbrev rVal:Reader Vl:=rBoth 1 (rInt .i64) (rBoth 1 rNm (rInt .i64))
abbrev rVals:Reader (List Vl):=rSlice 3 rVal
abbrev rOb:Reader Ob:=rBoth 1 (rInt .i64) (rBoth 1 (rInt .i64) rVals)
abbrev rObs:Reader (List Ob):=rSlice 3 rOb
abbrev rIds:Reader (List Int):=rSlice 1 (rInt .i64)
abbrev rGr:Reader Gr:=rBoth 1 rSch (rBoth 1 rObs rIds)
theorem rVal_stays:Stays rVal:=rBoth_stays (rInt_stays _) (rBoth_stays rNm_stays (rInt_stays _))
theorem rVals_stays:Stays rVals:=rSlice_stays rVal_stays
theorem rOb_stays:Stays rOb:=rBoth_stays (rInt_stays _) (rBoth_stays (rInt_stays _) rVals_stays)
theorem rObs_stays:Stays rObs:=rSlice_stays rOb_stays
theorem rIds_stays:Stays rIds:=rSlice_stays (rInt_stays _)
theorem rGr_stays:Stays rGr:=rBoth_stays rSch_stays (rBoth_stays rObs_stays rIds_stays)
section
variable {S : Nat → Prop} {w : World} {cs : List Value}
theorem slice_len {α:Type} {size:Nat} {R:Reader α} {A:Option Addr} {n c:Nat} {l:List α} (h:rSlice size R S w [.slice A n c] l):l.length=n∧n≤c∧c≤maxLen:=by
 obtain⟨A1,c1,xs,hv,hlc,hcm,_⟩:=h
 simp at hv
 omega
theorem slice_form {α:Type} {size:Nat} {R:Reader α} {l:List α} (h:rSlice size R S w cs l):∃ A c,cs=[.slice A l.length c]∧rSlice size R S w [.slice A l.length c] l:=by
 obtain⟨A1,c1,xs,hv,r⟩:=h
 exact⟨A1,c1,hv,A1,c1,xs,rfl,r⟩
theorem rVal_open {v:Vl} (h:rVal S w cs v):∃ s:ByteArray,cs=[.int .i64 v.1,.string s,.int .i64 v.2.2]∧byt s=v.2.1∧s.size≤maxLen∧(-9223372036854775808≤v.1∧v.1≤9223372036854775807)∧(-9223372036854775808≤v.2.2∧v.2.2≤9223372036854775807):=by
 obtain⟨_,⟨h1,h2⟩,_,⟨s,h3,h4,h5⟩,h6,h7⟩:=h
 refine⟨s,?_,h4,h5,bounds_i64 h2,bounds_i64 h7⟩
 rw[← List.take_append_drop 1 cs,h1,← List.take_append_drop 1 (cs.drop 1),h3,h6]
 rfl
theorem rVal_mk {v:Vl} {s:ByteArray} (h1:byt s=v.2.1) (h2:s.size≤maxLen) (h3:(Lit.int .i64 v.1).wf=true) (h4:(Lit.int .i64 v.2.2).wf=true):rVal S w [.int .i64 v.1,.string s,.int .i64 v.2.2] v:=
 ⟨rfl,⟨rfl,h3⟩,rfl,⟨s,rfl,h1,h2⟩,rfl,h4⟩
theorem rOb_open {o:Ob} (h:rOb S w cs o):∃ A c,cs=[.int .i64 o.1,.int .i64 o.2.1,.slice A o.2.2.length c]∧rVals S w [.slice A o.2.2.length c] o.2.2∧(-9223372036854775808≤o.1∧o.1≤9223372036854775807)∧(-9223372036854775808≤o.2.1∧o.2.1≤9223372036854775807):=by
 obtain⟨_,⟨h1,h2⟩,_,⟨h3,h4⟩,h5⟩:=h
 obtain⟨A,c,h6,h7⟩:=slice_form h5
 refine⟨A,c,?_,h7,bounds_i64 h2,bounds_i64 h4⟩
 rw[← List.take_append_drop 1 cs,h1,← List.take_append_drop 1 (cs.drop 1),h3,h6]
 rfl
theorem rOb_mk {o:Ob} {A:Option Addr} {n c:Nat} (h1:(Lit.int .i64 o.1).wf=true) (h2:(Lit.int .i64 o.2.1).wf=true) (h3:rVals S w [.slice A n c] o.2.2):rOb S w [.int .i64 o.1,.int .i64 o.2.1,.slice A n c] o:=
 ⟨rfl,⟨rfl,h1⟩,rfl,⟨rfl,h2⟩,h3⟩
theorem val_at {A0:Option Addr} {n c:Nat} {l:List Vl} {i:Nat} {v:Vl} (h:rVals S w [.slice A0 n c] l) (hi:l[i]?=some v):
  ∃ b off s,A0=some ⟨b,off,none⟩∧S b∧w.cell? ⟨b,off+i * 3,none⟩=some (.int .i64 v.1)∧w.cell? ⟨b,off+i * 3+1,none⟩=some (.string s)∧w.cell? ⟨b,off+i * 3+2,none⟩=some (.int .i64 v.2.2) ∧
   byt s=v.2.1∧s.size≤maxLen∧(-9223372036854775808≤v.1∧v.1≤9223372036854775807)∧(-9223372036854775808≤v.2.2∧v.2.2≤9223372036854775807):=by
 obtain⟨b,off,cs,hA,hb,hR,hl,hc⟩:=slice_at h hi (by omega)
 obtain⟨s,rfl,h1,h2,h3,h4⟩:=rVal_open hR
 exact⟨b,off,s,hA,hb,hc 0 _ rfl,hc 1 _ rfl,hc 2 _ rfl,h1,h2,h3,h4⟩
theorem ob_at {A0:Option Addr} {n c:Nat} {l:List Ob} {i:Nat} {o:Ob} (h:rObs S w [.slice A0 n c] l) (hi:l[i]?=some o):
  ∃ b off A c',A0=some ⟨b,off,none⟩∧S b∧w.cell? ⟨b,off+i * 3,none⟩=some (.int .i64 o.1)∧w.cell? ⟨b,off+i * 3+1,none⟩=some (.int .i64 o.2.1)∧w.cell? ⟨b,off+i * 3+2,none⟩=some (.slice A o.2.2.length c') ∧
   rVals S w [.slice A o.2.2.length c'] o.2.2∧(-9223372036854775808≤o.1∧o.1≤9223372036854775807)∧(-9223372036854775808≤o.2.1∧o.2.1≤9223372036854775807):=by
 obtain⟨b,off,cs,hA,hb,hR,hl,hc⟩:=slice_at h hi (by omega)
 obtain⟨A,c',rfl,h1,h2,h3⟩:=rOb_open hR
 exact⟨b,off,A,c',hA,hb,hc 0 _ rfl,hc 1 _ rfl,hc 2 _ rfl,h1,h2,h3⟩
theorem id_at {A0:Option Addr} {n c:Nat} {l:List Int} {i:Nat} {x:Int} (h:rIds S w [.slice A0 n c] l) (hi:l[i]?=some x):
  ∃ b off,A0=some ⟨b,off,none⟩∧S b∧w.cell? ⟨b,off+i,none⟩=some (.int .i64 x)∧(-9223372036854775808≤x∧x≤9223372036854775807):=by
 obtain⟨b,off,cs,hA,hb,⟨rfl,h2⟩,hl,hc⟩:=slice_at h hi (by omega)
 have:=hc 0 _ rfl
 rw[Nat.mul_one,Nat.add_zero] at this
 exact⟨b,off,hA,hb,this,bounds_i64 h2⟩
theorem rGr_open {A B C:Option Addr} {N c M d K e:Nat} {g:Gr} (h:rGr S w [.slice A N c,.slice B M d,.slice C K e] g):rSch S w [.slice A N c] g.1∧rObs S w [.slice B M d] g.2.1∧rIds S w [.slice C K e] g.2.2:=by
 obtain⟨_,h1,_,h2,h3⟩:=h
 exact⟨h1,h2,h3⟩
theorem rGr_mk {A B C:Option Addr} {N c M d K e:Nat} {g:Gr} (h1:rSch S w [.slice A N c] g.1) (h2:rObs S w [.slice B M d] g.2.1) (h3:rIds S w [.slice C K e] g.2.2):rGr S w [.slice A N c,.slice B M d,.slice C K e] g:=⟨rfl,h1,rfl,h2,h3⟩
end
theorem gr_below {w w':World} {cs:List Value} {g:Gr} (hB:Below w.heap.size w w') (h:rGr (All w) w cs g):rGr (All w') w' cs g:=rGr_stays.to (Keeps.below hB) h
theorem obs_below {w w':World} {cs:List Value} {g:List Ob} (hB:Below w.heap.size w w') (h:rObs (All w) w cs g):rObs (All w') w' cs g:=rObs_stays.to (Keeps.below hB) h
theorem vals_below {w w':World} {cs:List Value} {g:List Vl} (hB:Below w.heap.size w w') (h:rVals (All w) w cs g):rVals (All w') w' cs g:=rVals_stays.to (Keeps.below hB) h
theorem ids_below {w w':World} {cs:List Value} {g:List Int} (hB:Below w.heap.size w w') (h:rIds (All w) w cs g):rIds (All w') w' cs g:=rIds_stays.to (Keeps.below hB) h
theorem gr_arg {w:World} {cs:Array Value} {g:Gr} (h:rGr (All w) w cs.toList g):∃ A c B d C e,cs=#[.slice A g.1.length c,.slice B g.2.1.length d,.slice C g.2.2.length e]∧rGr (All w) w [.slice A g.1.length c,.slice B g.2.1.length d,.slice C g.2.2.length e] g:=by
 obtain⟨_,h1,_,h2,h3⟩:=h
 obtain⟨A,c,e1,h1⟩:=slice_form h1
 obtain⟨B,d,e2,h2⟩:=slice_form h2
 obtain⟨C,e,e3,h3⟩:=slice_form h3
 refine⟨A,c,B,d,C,e,?_,rGr_mk h1 h2 h3⟩
 have:cs.toList=[.slice A g.1.length c,.slice B g.2.1.length d,.slice C g.2.2.length e]:=by
  rw[← List.take_append_drop 1 cs.toList,e1,← List.take_append_drop 1 (cs.toList.drop 1),e2,e3];rfl
 cases cs
 simpa using this
theorem ret_bool {a b:Bool} (h:a=b):Ending.returned (.bool a)=.returned (.bool b):=by rw[h]
theorem letter_any (c:Nat) (w:World) (hc:c≤2147483647):Calls Tryz.prog 158 #[.int .i32 (c:Int)] w fun e w'=>e=.returned (.bool (letS c))∧w'=w:=by
 go_enter Tryz.func158,Tryz.ntmps158
 go_wp2
 all_goals go_ret
 all_goals refine⟨ret_bool ?_,rfl⟩
 all_goals rw[Bool.eq_iff_iff]
 all_goals simp[letS]
 all_goals omega
theorem digit_any (c:Nat) (w:World) (hc:c≤2147483647):Calls Tryz.prog 159 #[.int .i32 (c:Int)] w fun e w'=>e=.returned (.bool (digS c))∧w'=w:=by
 go_enter Tryz.func159,Tryz.ntmps159
 go_wp2
 all_goals go_ret
 all_goals refine⟨ret_bool ?_,rfl⟩
 all_goals rw[Bool.eq_iff_iff]
 all_goals simp[digS]
 all_goals omega
def fitS (c k:Nat):Bool:=letS c || (decide (0<k) && digS c)
theorem fits_any (c k:Nat) (w:World) (hc:c≤2147483647) (hk:k≤8):Calls Tryz.prog 150 #[.int .i32 (c:Int),.int .i64 (k:Int)] w fun e w'=>e=.returned (.bool (fitS c k))∧w'=w:=by
 have HL:=zZ (letter_any c w hc)
 have HD:=zZ (digit_any c w hc)
 have HR:Hid (∀ x,x=fitS c k→Ending.returned (.bool x)=.returned (.bool (fitS c k))):=fun x h=>ret_bool h
 have e:fitS c k=(letS c || (decide (0<k) && digS c)):=rfl
 have E:=zZ e
 clear e
 generalize fitS c k=r at *
 generalize letS c=l at *
 generalize digS c=d at *
 go_enter Tryz.func150,Tryz.ntmps150
 go_wp2_with fail
 refine HL.out.mono ?_
 rintro e w1 ⟨rfl,rfl⟩
 cases l
 ·by_cases hk0:0<k
  ·have hk1:decide ((0:Int)<(k:Int))=true:=by simp;omega
   go_wp2_with fail
   refine HD.out.mono ?_
   rintro e w1 ⟨rfl,rfl⟩
   go_wp2
   go_ret
   refine⟨HR.out _ ?_,rfl⟩
   rw[E.out];simp[hk0]
  ·have hk1:decide ((0:Int)<(k:Int))=false:=by simp;omega
   go_wp2
   go_ret
   refine⟨HR.out _ ?_,rfl⟩
   rw[E.out];simp[hk0]
 ·go_wp2
  go_ret
  refine⟨HR.out _ ?_,rfl⟩
  rw[E.out];simp
def lenF:List Nat→Nat→Nat
 | [],k=>k
 | c :: t,k=>if k=8∨fitS c k=false then 0 else lenF t (k+1)
theorem lenF_pos:∀ (t:List Nat) (k:Nat),1≤k→k≤8→lenF t k=if t.all okS=true∧k+t.length≤8 then k+t.length else 0
 | [],k,_,h=>by simp[lenF,h]
 | c :: t,k,h1,h=>by
  rw[lenF]
  have hf:fitS c k=okS c:=by simp[fitS,okS,show 0<k by omega]
  rw[hf,List.all_cons,List.length_cons]
  by_cases h8:k=8
  ·rw[if_pos (.inl h8),if_neg (by omega)]
  ·cases ho:okS c
   ·simp
   ·rw[if_neg (by simp[h8]),lenF_pos t (k+1) (by omega) (by omega)]
    simp only[Bool.true_and]
    by_cases hq:t.all okS=true∧k+1+t.length≤8
    ·rw[if_pos hq,if_pos ⟨hq.1,by omega⟩];omega
    ·rw[if_neg hq,if_neg (fun h=>hq ⟨h.1,by omega⟩)]
theorem lenN_F (l:List Nat):lenN l=lenF (sgn l) 0:=by
 rw[lenN,mayN]
 cases sgn l with
 | nil=>rfl
 | cons c t=>
  rw[lenF,nameS]
  have hf:fitS c 0=letS c:=by simp[fitS]
  rw[hf,lenF_pos t 1 (by omega) (by omega),List.length_cons]
  cases letS c
  ·simp
  ·simp only[Bool.true_and]
   by_cases hq:t.all okS=true∧1+t.length≤8
   ·rw[if_pos (by rw[Bool.and_eq_true,decide_eq_true_iff];exact⟨hq.1,by omega⟩),if_neg (by simp),if_pos hq];omega
   ·rw[if_neg (by rw[Bool.and_eq_true,decide_eq_true_iff];exact fun h=>hq ⟨h.1,by omega⟩),if_neg (by simp),if_neg hq]
theorem drop_ne {s:ByteArray} {pos:Nat} (h:pos<s.size):(byt s).drop pos≠[]:=fun e=>by
 have:=congrArg List.length e
 rw[List.length_drop,byt_length,List.length_nil] at this
 omega
theorem below_iter (w:World) (s:ByteArray) (pos:Nat):Below w.heap.size w (w.iter s pos):=(zA _ w).alloc (zW _) _
theorem sgn_at {s:ByteArray} {pos:Nat} (h:pos<s.size):∃ c n,Utf8.decode s pos=(c,n)∧sig ((byt s).drop pos)=(c,n)∧sgn ((byt s).drop pos)=c :: sgn ((byt s).drop (pos+n))∧c≤2147483647∧1≤n∧pos+n≤s.size:=by
 have hw:=sig_wide ((byt s).drop pos)
 have h2:=hw.2.1 (drop_ne h)
 rw[List.length_drop,byt_length] at h2
 refine⟨(sig ((byt s).drop pos)).1,(sig ((byt s).drop pos)).2,dec_sig s pos,rfl,?_,(by rw[← dec_sig];exact decode_le s pos),hw.1,by omega⟩
 rw[sgn_cons (drop_ne h),List.drop_drop]
theorem sgn_end {s:ByteArray} {pos:Nat} (h:¬ pos<s.size):sgn ((byt s).drop pos)=[]:=by
 rw[List.drop_of_length_le (by rw[byt_length];omega)];rfl
theorem len_any (s:ByteArray) (w:World):Calls Tryz.prog 123 #[.string s] w fun e w'=>e=.returned (.int .i64 (lenN (byt s):Int))∧Below w.heap.size w w':=by
 rw[lenN_F]
 have Hs:Hid (lenF (sgn ((byt s).drop 0)) 0=lenF (sgn (byt s)) 0):=by rw[List.drop_zero];exact rfl
 generalize lenF (sgn (byt s)) 0=r at *
 go_enter Tryz.func123,Tryz.ntmps123
 go_wp2
 go_loopw [3] (fun n w'=>∃ (pos k:Nat),w'=w.iter s pos∧n=.int .i64 (k:Int)∧k≤8∧Hid (lenF (sgn ((byt s).drop pos)) k=r)) (fun _ w'=>s.size - w'.iterPos w.heap.size)
 case atStart=>exact⟨0,0,rfl,rfl,by omega,Hs⟩
 case round=>
  obtain⟨pos,k,rfl,rfl,hk,hc⟩:=hrel
  clear Hs
  by_cases hp:pos<s.size
  ·obtain⟨c,n,hdec,_,hsg,hcl,hn1,hn2⟩:=sgn_at hp
   have hnx:∀ ty,(Instr.next (.pointer (some ⟨w.heap.size,0,none⟩)) true ty).run Tryz.prog (w.iter s pos)=_:=fun ty=>run_next_any w s pos ty hp
   rw[hdec] at hnx
   have hc':=hc.out
   rw[hsg,lenF] at hc'
   have HC:=zZ hc'
   clear hc' hdec hsg hc
   by_cases h8:k=8
   ·subst h8
    go_wp2
    go_ret
    refine⟨?_,below_iter _ _ _⟩
    have:=HC.out
    rw[if_pos (by simp)] at this
    rw[← this];rfl
   ·have h8':((k:Int) == 8)=false:=by simp;omega
    have HF:=zZ (fun W=>fits_any c k W hcl hk)
    cases hf:fitS c k
    ·rw[hf] at HF HC
     go_wp2_with fail
     refine (HF.out _).mono ?_
     rintro e w1 ⟨rfl,rfl⟩
     go_wp2
     go_ret
     refine⟨?_,below_iter _ _ _⟩
     have:=HC.out
     rw[if_pos (by simp)] at this
     rw[← this];rfl
    ·rw[hf] at HF HC
     go_wp2_with fail
     refine (HF.out _).mono ?_
     rintro e w1 ⟨rfl,rfl⟩
     go_wp2
     go_roundw
     case rel=>
      refine⟨pos+n,k+1,rfl,by go_num,by omega,?_⟩
      have:=HC.out
      rw[if_neg (by simp[h8])] at this
      exact this
     case measure=>
      simp
      omega
  ·have hnx:∀ ty,(Instr.next (.pointer (some ⟨w.heap.size,0,none⟩)) true ty).run Tryz.prog (w.iter s pos)=_:=fun ty=>run_next_end w s pos ty hp
   go_wp2
   go_ret
   have:=hc.out
   rw[sgn_end hp,lenF] at this
   subst this
   exact⟨rfl,below_iter _ _ _⟩
theorem nmay_any (s:ByteArray) (w:World):Calls Tryz.prog 88 #[.string s] w fun e w'=>e=.returned (.bool (mayN (byt s)))∧Below w.heap.size w w':=by
 have HL:=zZ (len_any s w)
 have h:=lenN_pos (a:=byt s)
 have H:Hid (∀ n:Nat,n=lenN (byt s)→Ending.returned (.bool (decide (0<n)))=.returned (.bool (mayN (byt s)))):=fun n hn=>by
  subst hn
  apply ret_bool
  rw[Bool.eq_iff_iff,decide_eq_true_iff]
  cases hm:mayN (byt s)
  ·have:=h.2 hm;simp[this]
  ·have:lenN (byt s)≠0:=fun e=>by rw[h.1 e] at hm;cases hm
   simp;omega
 clear h
 go_enter Tryz.func88,Tryz.ntmps88
 go_wp2_with fail
 refine HL.out.mono ?_
 rintro e w1 ⟨rfl,hB⟩
 generalize hg:lenN (byt s)=n at *
 go_wp2
 go_ret
 exact⟨H.out _ rfl,hB⟩
theorem isT_any (s n:ByteArray) (A2:Option Addr) (n2 c2:Nat) (g:Nat) (w:World) (hn:w.cell? ⟨g,0,none⟩=some (.string n)) (hg:g<w.heap.size):
  Calls Tryz.prog 125 #[.agg #[.string s,.slice A2 n2 c2],.pointer (some ⟨g,0,none⟩)] w fun e w'=>e=.returned (.bool (decide (byt s=byt n)))∧Below w.heap.size w w':=by
 have HR:Hid (∀ x,x=(s.toList == n.toList)→Ending.returned (.bool x)=.returned (.bool (decide (byt s=byt n)))):=fun x h=>by rw[h,str_beq]
 have hB:∀ u,Below w.heap.size w (w.alloc (.cells u 82)):=fun u=>(zA _ w).alloc (zW _) _
 have hn':∀ u,(w.alloc (.cells u 82)).cell? ⟨g,0,none⟩=some (.string n):=fun u=>((hB u).cell (p:=⟨g,0,none⟩) hg).trans hn
 go_enter Tryz.func125,Tryz.ntmps125
 go_wp2
 go_ret
 exact⟨HR.out _ (by rfl),hB _⟩
theorem indexT_any (A:Option Addr) (N c:Nat) (l:Sch) (n:ByteArray) (g:Nat) (w:World) (h:rSch (All w) w [.slice A N c] l) (hn:w.cell? ⟨g,0,none⟩=some (.string n)) (hg:g<w.heap.size):
  Calls Tryz.prog 124 #[.slice A N c,.func (.func 125) #[] #[.pointer (some ⟨g,0,none⟩)]] w fun e w'=>e=.returned (.int .i64 (findS l (byt n)))∧Below w.heap.size w w':=by
 obtain⟨hN,hNc,hcm⟩:=sch_len h
 simp only[maxLen] at hcm
 go_enter Tryz.func124,Tryz.ntmps124
 go_wp2
 go_loopw [8] (fun iv w'=>∃ i:Nat,i≤N∧iv=.int .i64 (i:Int)∧Below w.heap.size w w'∧∀ j t,j<i→l[j]?=some t→decide (t.1=byt n)=false) (fun iv _=>N - (intOf iv).toNat)
 case atStart=>exact⟨0,by omega,rfl,zA _ _,fun j t hj=>by omega⟩
 case round=>
  rename_i iv wr
  obtain⟨i,hi,rfl,hB,hno⟩:=hrel
  have h:=rSch_stays.to (Keeps.below hB) h
  have hn:wr.cell? ⟨g,0,none⟩=some (.string n):=(hB.cell (p:=⟨g,0,none⟩) hg).trans hn
  have hg:g<wr.heap.size:=Nat.lt_of_lt_of_le hg hB.size
  by_cases hin:i<N
  ·have hli:l[i]?=some l[i]:=zV (by omega)
   obtain⟨b,off,s,A2,c2,rfl,hb,hx1,hx2,hs,hsz,_⟩:=typ_at h hli
   have T1:=zZ (isT_any s n A2 l[i].2.length c2 g wr hn hg)
   rw[hs] at T1
   have hil:(i:Int)<(N:Int):=by omega
   have hi0:(0:Int)≤(i:Int):=by omega
   have Hno:=zZ hno
   have Hli:=zZ hli
   have HB:=zZ hB
   clear hno hli h hs hB
   by_cases he:l[i].1=byt n
   ·have Hr:Hid (findS l (byt n)=(i:Int)):=(idxP_iff _ l i).2 ⟨⟨l[i],Hli.out,zJ he⟩,fun j b hj hb=>Hno.out j b hj hb⟩
    rw[zJ he] at T1
    clear he
    generalize l[i]=t at *
    go_wp2_with (first | (go_at_call 125;refine T1.out.mono ?_;rintro e w1 ⟨rfl,hB1⟩) | fail)
    go_ret
    exact⟨by rw[Hr.out];rfl,HB.out.trans (hB1.mono HB.out.size)⟩
   ·have Hr:Hid (∀ j t,j<i+1→l[j]?=some t→decide (t.1=byt n)=false):=fun j t hj ht=>by
     by_cases hji:j<i
     ·exact Hno.out j t hji ht
     ·obtain rfl:j=i:=by omega
      rw[Hli.out] at ht
      injection ht with ht
      subst ht
      exact zK he
    rw[zK he] at T1
    clear he
    generalize l[i]=t at *
    go_wp2_with (first | (go_at_call 125;refine T1.out.mono ?_;rintro e w1 ⟨rfl,hB1⟩) | fail)
    go_roundw
    case rel=>exact⟨i+1,by omega,by go_num,HB.out.trans (hB1.mono HB.out.size),Hr.out⟩
    case measure=>simp[intOf];omega
  ·obtain rfl:i=N:=by omega
   have Hr:Hid (findS l (byt n) = -1):=(idxP_none _ l).2 fun t ht=>by
    obtain⟨j,hj⟩:=List.getElem?_of_mem ht
    have:=(List.getElem?_eq_some_iff.1 hj).1
    exact hno j t (by omega) hj
   clear hno
   go_wp2
   go_ret
   exact⟨by rw[Hr.out];rfl,hB⟩
theorem isF_any (s n:ByteArray) (k2:Int) (s2:ByteArray) (g:Nat) (w:World) (hn:w.cell? ⟨g,0,none⟩=some (.string n)) (hg:g<w.heap.size):
  Calls Tryz.prog 152 #[.agg #[.string s,.int .i64 k2,.string s2],.pointer (some ⟨g,0,none⟩)] w fun e w'=>e=.returned (.bool (decide (byt s=byt n)))∧Below w.heap.size w w':=by
 have HR:Hid (∀ x,x=(s.toList == n.toList)→Ending.returned (.bool x)=.returned (.bool (decide (byt s=byt n)))):=fun x h=>by rw[h,str_beq]
 have hB:∀ u,Below w.heap.size w (w.alloc (.cells u 97)):=fun u=>(zA _ w).alloc (zW _) _
 have hn':∀ u,(w.alloc (.cells u 97)).cell? ⟨g,0,none⟩=some (.string n):=fun u=>((hB u).cell (p:=⟨g,0,none⟩) hg).trans hn
 go_enter Tryz.func152,Tryz.ntmps152
 go_wp2
 go_ret
 exact⟨HR.out _ (by rfl),hB _⟩
theorem indexF_any (A:Option Addr) (N c:Nat) (l:List Fld) (n:ByteArray) (g:Nat) (w:World) (h:rFlds (All w) w [.slice A N c] l) (hn:w.cell? ⟨g,0,none⟩=some (.string n)) (hg:g<w.heap.size):
  Calls Tryz.prog 151 #[.slice A N c,.func (.func 152) #[] #[.pointer (some ⟨g,0,none⟩)]] w fun e w'=>e=.returned (.int .i64 (fieldS l (byt n)))∧Below w.heap.size w w':=by
 obtain⟨hN,hNc,hcm⟩:=flds_len h
 simp only[maxLen] at hcm
 go_enter Tryz.func151,Tryz.ntmps151
 go_wp2
 go_loopw [8] (fun iv w'=>∃ i:Nat,i≤N∧iv=.int .i64 (i:Int)∧Below w.heap.size w w'∧∀ j t,j<i→l[j]?=some t→decide (t.1=byt n)=false) (fun iv _=>N - (intOf iv).toNat)
 case atStart=>exact⟨0,by omega,rfl,zA _ _,fun j t hj=>by omega⟩
 case round=>
  rename_i iv wr
  obtain⟨i,hi,rfl,hB,hno⟩:=hrel
  have h:=rFlds_stays.to (Keeps.below hB) h
  have hn:wr.cell? ⟨g,0,none⟩=some (.string n):=(hB.cell (p:=⟨g,0,none⟩) hg).trans hn
  have hg:g<wr.heap.size:=Nat.lt_of_lt_of_le hg hB.size
  by_cases hin:i<N
  ·have hli:l[i]?=some l[i]:=zV (by omega)
   obtain⟨b,off,s,s2,rfl,hb,hx1,hx2,hx3,hs,hs2,hsz,hsz2,hkk⟩:=fld_at h hli
   have T1:=zZ (isF_any s n l[i].2.1 s2 g wr hn hg)
   rw[hs] at T1
   have hil:(i:Int)<(N:Int):=by omega
   have hi0:(0:Int)≤(i:Int):=by omega
   have Hno:=zZ hno
   have Hli:=zZ hli
   have HB:=zZ hB
   clear hno hli h hs hB
   by_cases he:l[i].1=byt n
   ·have Hr:Hid (fieldS l (byt n)=(i:Int)):=(idxP_iff _ l i).2 ⟨⟨l[i],Hli.out,zJ he⟩,fun j b hj hb=>Hno.out j b hj hb⟩
    rw[zJ he] at T1
    clear he
    generalize l[i]=t at *
    go_wp2_with (first | (go_at_call 152;refine T1.out.mono ?_;rintro e w1 ⟨rfl,hB1⟩) | fail)
    go_ret
    exact⟨by rw[Hr.out];rfl,HB.out.trans (hB1.mono HB.out.size)⟩
   ·have Hr:Hid (∀ j t,j<i+1→l[j]?=some t→decide (t.1=byt n)=false):=fun j t hj ht=>by
     by_cases hji:j<i
     ·exact Hno.out j t hji ht
     ·obtain rfl:j=i:=by omega
      rw[Hli.out] at ht
      injection ht with ht
      subst ht
      exact zK he
    rw[zK he] at T1
    clear he
    generalize l[i]=t at *
    go_wp2_with (first | (go_at_call 152;refine T1.out.mono ?_;rintro e w1 ⟨rfl,hB1⟩) | fail)
    go_roundw
    case rel=>exact⟨i+1,by omega,by go_num,HB.out.trans (hB1.mono HB.out.size),Hr.out⟩
    case measure=>simp[intOf];omega
  ·obtain rfl:i=N:=by omega
   have Hr:Hid (fieldS l (byt n) = -1):=(idxP_none _ l).2 fun t ht=>by
    obtain⟨j,hj⟩:=List.getElem?_of_mem ht
    have:=(List.getElem?_eq_some_iff.1 hj).1
    exact hno j t (by omega) hj
   clear hno
   go_wp2
   go_ret
   exact⟨by rw[Hr.out];rfl,hB⟩
theorem find_any (A:Option Addr) (N c:Nat) (l:Sch) (n:ByteArray) (w:World) (h:rSch (All w) w [.slice A N c] l):
  Calls Tryz.prog 89 #[.agg #[.slice A N c],.string n] w fun e w'=>e=.returned (.int .i64 (findS l (byt n)))∧Below w.heap.size w w':=by
 have hB:∀ u v,Below w.heap.size w ((w.alloc (.cells u 24)).alloc (.cells v 9)):=fun u v=>((zA _ w).alloc (zW _) _).alloc (by simp) _
 have T1:=zZ (fun u=>indexT_any A N c l n (w.heap.size+1) ((w.alloc (.cells u 24)).alloc (.cells #[.string n] 9)) (sch_below (hB _ _) h) (by rw[World.cell?_alloc_at _ _ _ _ (by simp)];rfl) (by simp))
 clear h
 go_enter Tryz.func89,Tryz.ntmps89
 go_wp2_with (first | (go_at_call 124;refine (T1.out _).mono ?_;rintro e w1 ⟨rfl,hB1⟩) | fail)
 go_ret
 exact⟨rfl,(hB _ _).trans (hB1.mono (hB _ _).size)⟩
theorem field_any (s:ByteArray) (A:Option Addr) (N c:Nat) (l:List Fld) (n:ByteArray) (w:World) (h:rFlds (All w) w [.slice A N c] l):
  Calls Tryz.prog 126 #[.agg #[.string s,.slice A N c],.string n] w fun e w'=>e=.returned (.int .i64 (fieldS l (byt n)))∧Below w.heap.size w w':=by
 have hB:∀ u v,Below w.heap.size w ((w.alloc (.cells u 82)).alloc (.cells v 9)):=fun u v=>((zA _ w).alloc (zW _) _).alloc (by simp) _
 have T1:=zZ (fun u=>indexF_any A N c l n (w.heap.size+1) ((w.alloc (.cells u 82)).alloc (.cells #[.string n] 9)) (flds_below (hB _ _) h) (by rw[World.cell?_alloc_at _ _ _ _ (by simp)];rfl) (by simp))
 clear h
 go_enter Tryz.func126,Tryz.ntmps126
 go_wp2_with (first | (go_at_call 151;refine (T1.out _).mono ?_;rintro e w1 ⟨rfl,hB1⟩) | fail)
 go_ret
 exact⟨rfl,(hB _ _).trans (hB1.mono (hB _ _).size)⟩
theorem byt_nil_iff (t:ByteArray):t.toList.isEmpty=decide (byt t=[]):=by
 rw[str_empty]
 cases byt t <;> simp
theorem mayLead_any (A:Option Addr) (N c:Nat) (l:Sch) (s t:ByteArray) (k:Int) (f:Fld) (w:World) (h:rSch (All w) w [.slice A N c] l) (hk:f.2.1=k) (ht:byt t=f.2.2) (hk0:-9223372036854775808≤k) (hk1:k≤9223372036854775807):
  Calls Tryz.prog 127 #[.agg #[.slice A N c],.agg #[.string s,.int .i64 k,.string t]] w fun e w'=>e=.returned (.bool (leadS l f))∧Below w.heap.size w w':=by
 have hB:∀ u v,Below w.heap.size w ((w.alloc (.cells u 24)).alloc (.cells v 97)):=fun u v=>((zA _ w).alloc (zW _) _).alloc (by simp) _
 have T1:=zZ (fun u v=>find_any A N c l t ((w.alloc (.cells u 24)).alloc (.cells v 97)) (sch_below (hB _ _) h))
 rw[ht] at T1
 clear h
 by_cases h5:k=5
 ·have Hr:Hid (leadS l f=decide (0≤findS l f.2.2)):=by show _=_;rw[leadS,if_pos (by omega)]
  subst h5
  generalize findS l f.2.2=r at *
  go_enter Tryz.func127,Tryz.ntmps127
  go_wp2_with (first | (go_at_call 89;refine (T1.out _ _).mono ?_;rintro e w1 ⟨rfl,hB1⟩) | fail)
  go_ret
  exact⟨by rw[Hr.out];rfl,(hB _ _).trans (hB1.mono (hB _ _).size)⟩
 ·have h5':(k == 5)=false:=by simpa using h5
  have Hr:Hid (leadS l f=(decide (0≤k) && decide (k<6) && t.toList.isEmpty)):=by
   show _=_
   rw[leadS,if_neg (by omega),hk,byt_nil_iff,ht]
  clear T1 h5
  by_cases h0:0≤k
  ·have h0':decide (0≤k)=true:=zJ h0
   by_cases h6:k<6
   ·have h6':decide (k<6)=true:=zJ h6
    rw[h0',h6'] at Hr
    go_enter Tryz.func127,Tryz.ntmps127
    go_wp2
    go_ret
    exact⟨by rw[Hr.out];simp,hB _ _⟩
   ·have h6':decide (k<6)=false:=zK h6
    rw[h0',h6'] at Hr
    go_enter Tryz.func127,Tryz.ntmps127
    go_wp2
    go_ret
    exact⟨by rw[Hr.out];simp,hB _ _⟩
  ·have h0':decide (0≤k)=false:=zK h0
   rw[h0'] at Hr
   go_enter Tryz.func127,Tryz.ntmps127
   go_wp2
   go_ret
   exact⟨by rw[Hr.out];simp,hB _ _⟩
theorem allI_at {α:Type} {p:Nat→α→Bool} {l:List α} {i:Nat} {a:α} (hi:l[i]?=some a):allI p i (l.drop i)=(p i a && allI p (i+1) (l.drop (i+1))):=by
 have hlt:=(List.getElem?_eq_some_iff.1 hi).1
 have:l.drop i=a :: l.drop (i+1):=by
  rw[List.drop_eq_getElem_cons hlt]
  congr 1
  exact (List.getElem?_eq_some_iff.1 hi).2
 rw[this,allI]
theorem allI_end {α:Type} {p:Nat→α→Bool} {l:List α} {i:Nat} (hi:l.length≤i):allI p i (l.drop i)=true:=by
 rw[List.drop_of_length_le hi];rfl
theorem Blk.to {w w':World} {g:Nat} {t:TypeId} {cs:List Value} (h:Blk w g t cs) (hB:Below w.heap.size w w'):Blk w' g t cs:=h.below h.lt hB
theorem mayFields_any (A:Option Addr) (N c:Nat) (l:Sch) (s:ByteArray) (B:Option Addr) (M d:Nat) (fs:List Fld) (w:World) (h:rSch (All w) w [.slice A N c] l) (hf:rFlds (All w) w [.slice B M d] fs):
  Calls Tryz.prog 90 #[.agg #[.slice A N c],.agg #[.string s,.slice B M d]] w fun e w'=>e=.returned (.bool (mayFs l fs))∧Below w.heap.size w w':=by
 obtain⟨hM,hMd,hdm⟩:=flds_len hf
 simp only[maxLen] at hdm
 have hB0:Below w.heap.size w ((w.alloc (.cells #[.slice A N c] 24)).alloc (.cells #[.string s,.slice B M d] 82)):=((zA _ w).alloc (zW _) _).alloc (by simp) _
 by_cases h5:M≤5
 ·have Hm:Hid (mayFs l fs=allI (mayF l fs) 0 (fs.drop 0)):=by show _=_;rw[mayFs,zJ (by omega),Bool.true_and,List.drop_zero]
  have h5':decide ((5:Int)<(M:Int))=false:=by simp;omega
  generalize mayFs l fs=r at *
  go_enter Tryz.func90,Tryz.ntmps90
  go_wp2
  go_loopw [14] (fun iv w'=>∃ i:Nat,i≤M∧iv=.int .i64 (i:Int)∧Below w.heap.size w w'∧Blk w' w.heap.size 24 [.slice A N c]∧Blk w' (w.heap.size+1) 82 [.string s,.slice B M d]∧Hid (r=allI (mayF l fs) i (fs.drop i))) (fun iv _=>M - (intOf iv).toNat)
  case atStart=>exact⟨0,by omega,rfl,hB0,(Blk.new w _ [.slice A N c]).alloc _,by have:=Blk.new (w.alloc (.cells #[.slice A N c] 24)) 82 [.string s,.slice B M d];simpa using this,Hm⟩
  case round=>
   rename_i iv wr
   obtain⟨i,hi,rfl,hB,b1,b2,hr⟩:=hrel
   clear Hm hB0
   by_cases hin:i<M
   ·have hfi:fs[i]?=some fs[i]:=zV (by omega)
    have hf':=flds_below hB hf
    obtain⟨b,off,x,y,rfl,hb,hx1,hx2,hx3,hx,hy,hxs,hys,hk0,hk1⟩:=fld_at hf' hfi
    have hil:(i:Int)<(M:Int):=by omega
    have hi0:(0:Int)≤(i:Int):=by omega
    have hr':=hr.out
    rw[allI_at hfi,mayF] at hr'
    have Hr:=zZ hr'
    clear hr' hr hfi
    generalize fs[i]=f at *
    have hB1:Below wr.heap.size wr (wr.alloc (.cells #[.string x,.int .i64 f.2.1,.string y] 97)):=(zA _ wr).alloc (zW _) _
    have b3:=Blk.new wr 97 [.string x,.int .i64 f.2.1,.string y]
    have T1:=zZ (fun W=>nmay_any x W)
    have T2:=zZ (fun W (hW:Below w.heap.size w W)=>field_any s (some ⟨b,off,none⟩) M d fs x W (flds_below hW hf))
    have T3:=zZ (fun W (hW:Below w.heap.size w W)=>mayLead_any A N c l x y f.2.1 f W (sch_below hW h) rfl hy hk0 hk1)
    rw[hx] at T1 T2
    have H0:=zZ (hB.trans (hB1.mono hB.size))
    have b1':=b1.to hB1
    have b2':=b2.to hB1
    clear hB b1 b2 hx hy hf' h hf
    generalize mayN f.1=m1 at *
    generalize hd:decide (fieldS fs f.1=(i:Int))=m2 at *
    have hd2:(fieldS fs f.1 != (i:Int))=!m2:=by rw[← hd];by_cases e:fieldS fs f.1=(i:Int) <;> simp[e]
    clear hd
    generalize fieldS fs f.1=r2 at *
    generalize leadS l f=m3 at *
    go_wp2_with fail
    refine (T1.out _).mono ?_
    rintro e w1 ⟨rfl,hB2⟩
    have H1:=zZ (H0.out.trans (hB2.mono H0.out.size))
    cases m1
    ·go_wp2
     go_ret
     exact⟨by rw[Hr.out];rfl,H1.out⟩
    ·have b1w:=b1'.to hB2
     have b2w:=b2'.to hB2
     have b3w:Blk w1 wr.heap.size 97 [.string x,.int .i64 f.2.1,.string y]:=b3.to hB2
     have c1:=b2w.cell (j:=0) rfl
     have c2:=b2w.cell (j:=1) rfl
     have c3:=b3w.cell (j:=0) rfl
     clear hB2
     go_wp2_with fail
     refine (T2.out _ H1.out).mono ?_
     rintro e w2 ⟨rfl,hB3⟩
     have H2:=zZ (H1.out.trans (hB3.mono H1.out.size))
     cases m2
     ·simp only[Bool.not_false] at hd2
      go_wp2
      go_ret
      exact⟨by rw[Hr.out];simp,H2.out⟩
     ·simp only[Bool.not_true] at hd2
      have b1x:=b1w.to hB3
      have b2x:=b2w.to hB3
      have b3x:=b3w.to hB3
      have d1:=b1x.cell (j:=0) rfl
      have d2:=b3x.cell (j:=0) rfl
      have d3:=b3x.cell (j:=1) rfl
      have d4:=b3x.cell (j:=2) rfl
      clear hB3
      go_wp2_with fail
      refine (T3.out _ H2.out).mono ?_
      rintro e w3 ⟨rfl,hB4⟩
      have H3:=zZ (H2.out.trans (hB4.mono H2.out.size))
      have b1y:=b1x.to hB4
      have b2y:=b2x.to hB4
      clear hB4
      cases m3
      ·go_wp2
       go_ret
       exact⟨by rw[Hr.out];simp,H3.out⟩
      ·go_wp2
       go_roundw
       case rel=>exact⟨i+1,by omega,by go_num,H3.out,b1y,b2y,zZ (by have:=Hr.out;simpa using this)⟩
       case measure=>simp[intOf];omega
   ·obtain rfl:i=M:=by omega
    have hr':=hr.out
    rw[allI_end (by omega)] at hr'
    clear hr
    go_wp2
    go_ret
    exact⟨by rw[hr'];rfl,hB⟩
 ·have Hm:Hid (mayFs l fs=false):=by show _=_;rw[mayFs,zK (by omega),Bool.false_and]
  have h5':decide ((5:Int)<(M:Int))=true:=by simp;omega
  go_enter Tryz.func90,Tryz.ntmps90
  go_wp2
  go_ret
  exact⟨by rw[Hm.out];rfl,hB0⟩
theorem may_any (A:Option Addr) (N c:Nat) (l:Sch) (w:World) (h:rSch (All w) w [.slice A N c] l):
  Calls Tryz.prog 47 #[.agg #[.slice A N c]] w fun e w'=>e=.returned (.bool (mayS l))∧Below w.heap.size w w':=by
 obtain⟨hN,hNc,hcm⟩:=sch_len h
 simp only[maxLen] at hcm
 have hB0:Below w.heap.size w (w.alloc (.cells #[.slice A N c] 24)):=(zA _ w).alloc (zW _) _
 by_cases h0:N=0
 ·have Hm:Hid (mayS l=false):=by show _=_;rw[mayS,zK (by omega),Bool.false_and,Bool.false_and]
  subst h0
  go_enter Tryz.func47,Tryz.ntmps47
  go_wp2
  go_ret
  exact⟨by rw[Hm.out];rfl,hB0⟩
 by_cases h4:N≤4
 ·have Hm:Hid (mayS l=allI (mayT l) 0 (l.drop 0)):=by show _=_;rw[mayS,zJ (by omega),zJ (by omega),Bool.true_and,Bool.true_and,List.drop_zero]
  have h0':((N:Int) == 0)=false:=by simp;omega
  have h4':decide ((4:Int)<(N:Int))=false:=by simp;omega
  generalize mayS l=r at *
  go_enter Tryz.func47,Tryz.ntmps47
  go_wp2
  go_loopw [18] (fun iv w'=>∃ i:Nat,i≤N∧iv=.int .i64 (i:Int)∧Below w.heap.size w w'∧Blk w' w.heap.size 24 [.slice A N c]∧Hid (r=allI (mayT l) i (l.drop i))) (fun iv _=>N - (intOf iv).toNat)
  case atStart=>exact⟨0,by omega,rfl,hB0,Blk.new w _ [.slice A N c],Hm⟩
  case round=>
   rename_i iv wr
   obtain⟨i,hi,rfl,hB,b1,hr⟩:=hrel
   clear Hm hB0
   by_cases hin:i<N
   ·have hfi:l[i]?=some l[i]:=zV (by omega)
    have h':=sch_below hB h
    obtain⟨b,off,x,A2,c2,rfl,hb,hx1,hx2,hx,hxs,hfs⟩:=typ_at h' hfi
    have hil:(i:Int)<(N:Int):=by omega
    have hi0:(0:Int)≤(i:Int):=by omega
    have hr':=hr.out
    rw[allI_at hfi,mayT] at hr'
    have Hr:=zZ hr'
    clear hr' hr hfi
    generalize l[i]=t at *
    have hB1:Below wr.heap.size wr (wr.alloc (.cells #[.string x,.slice A2 t.2.length c2] 82)):=(zA _ wr).alloc (zW _) _
    have b3:=Blk.new wr 82 [.string x,.slice A2 t.2.length c2]
    have hfs1:=flds_below hB1 hfs
    have T1:=zZ (fun W=>nmay_any x W)
    have T2:=zZ (fun W (hW:Below w.heap.size w W)=>find_any (some ⟨b,off,none⟩) N c l x W (sch_below hW h))
    have T3:=zZ (fun W (hW:Below w.heap.size w W) hq=>mayFields_any (some ⟨b,off,none⟩) N c l x A2 t.2.length c2 t.2 W (sch_below hW h) hq)
    rw[hx] at T1 T2
    have H0:=zZ (hB.trans (hB1.mono hB.size))
    have b1':=b1.to hB1
    clear hB b1 hx h' h hfs
    generalize mayN t.1=m1 at *
    generalize hd:decide (findS l t.1=(i:Int))=m2 at *
    have hd2:(findS l t.1 != (i:Int))=!m2:=by rw[← hd];by_cases e:findS l t.1=(i:Int) <;> simp[e]
    clear hd
    generalize findS l t.1=r2 at *
    generalize mayFs l t.2=m3 at *
    go_wp2_with fail
    refine (T1.out _).mono ?_
    rintro e w1 ⟨rfl,hB2⟩
    have H1:=zZ (H0.out.trans (hB2.mono H0.out.size))
    cases m1
    ·go_wp2
     go_ret
     exact⟨by rw[Hr.out];rfl,H1.out⟩
    ·have b1w:=b1'.to hB2
     have b3w:Blk w1 wr.heap.size 82 [.string x,.slice A2 t.2.length c2]:=b3.to hB2
     have hfs2:=flds_below hB2 hfs1
     have c1:=b1w.cell (j:=0) rfl
     have c3:=b3w.cell (j:=0) rfl
     clear hB2
     go_wp2_with fail
     refine (T2.out _ H1.out).mono ?_
     rintro e w2 ⟨rfl,hB3⟩
     have H2:=zZ (H1.out.trans (hB3.mono H1.out.size))
     cases m2
     ·simp only[Bool.not_false] at hd2
      go_wp2
      go_ret
      exact⟨by rw[Hr.out];simp,H2.out⟩
     ·simp only[Bool.not_true] at hd2
      have b1x:=b1w.to hB3
      have b3x:=b3w.to hB3
      have hfs3:=flds_below hB3 hfs2
      have d1:=b1x.cell (j:=0) rfl
      have d2:=b3x.cell (j:=0) rfl
      have d3:=b3x.cell (j:=1) rfl
      clear hB3
      go_wp2_with fail
      refine (T3.out _ H2.out hfs3).mono ?_
      rintro e w3 ⟨rfl,hB4⟩
      have H3:=zZ (H2.out.trans (hB4.mono H2.out.size))
      have b1y:=b1x.to hB4
      clear hB4
      cases m3
      ·go_wp2
       go_ret
       exact⟨by rw[Hr.out];simp,H3.out⟩
      ·go_wp2
       go_roundw
       case rel=>exact⟨i+1,by omega,by go_num,H3.out,b1y,zZ (by have:=Hr.out;simpa using this)⟩
       case measure=>simp[intOf];omega
   ·obtain rfl:i=N:=by omega
    have hr':=hr.out
    rw[allI_end (by omega)] at hr'
    clear hr
    go_wp2
    go_ret
    exact⟨by rw[hr'];rfl,hB⟩
 ·have Hm:Hid (mayS l=false):=by show _=_;rw[mayS,zK (p:=l.length≤4) (by omega),Bool.and_false,Bool.false_and]
  have h0':((N:Int) == 0)=false:=by simp;omega
  have h4':decide ((4:Int)<(N:Int))=true:=by simp;omega
  go_enter Tryz.func47,Tryz.ntmps47
  go_wp2
  go_ret
  exact⟨by rw[Hm.out];rfl,hB0⟩
theorem set_mid2 {d t:List Value} {z0 z1 a b:Value} {k:Nat} (h:d.length=k):(((d++z0 :: z1 :: t).set k a).set (k+1) b)=(d++[a,b])++t:=by
 subst h
 rw[List.set_append_right _ _ (zW _),Nat.sub_self,zX,List.set_append_right _ _ (by omega),show d.length+1 - d.length=1 by omega,zQ,zX,List.append_assoc]
 rfl
theorem set_mid3 {d t:List Value} {z0 z1 z2 a b c:Value} {k:Nat} (h:d.length=k):((((d++z0 :: z1 :: z2 :: t).set k a).set (k+1) b).set (k+2) c)=(d++[a,b,c])++t:=by
 subst h
 rw[List.set_append_right _ _ (zW _),Nat.sub_self,zX,List.set_append_right _ _ (by omega),show d.length+1 - d.length=1 by omega,zQ,zX,
  List.set_append_right _ _ (by omega),show d.length+2 - d.length=2 by omega,zQ,zQ,zX,List.append_assoc]
 rfl
theorem far2 {w:World} {g b o p q:Nat} {x y v:Value} (h:w.cell? ⟨b,o,none⟩=some v) (hne:g≠b):((w.setCell ⟨g,p,none⟩ x).setCell ⟨g,q,none⟩ y).cell? ⟨b,o,none⟩=some v:=by
 rw[World.cell?_setCell_far _ _ _ _ (by exact hne),World.cell?_setCell_far _ _ _ _ (by exact hne),h]
theorem far3 {w:World} {g b o p q r:Nat} {x y z v:Value} (h:w.cell? ⟨b,o,none⟩=some v) (hne:g≠b):(((w.setCell ⟨g,p,none⟩ x).setCell ⟨g,q,none⟩ y).setCell ⟨g,r,none⟩ z).cell? ⟨b,o,none⟩=some v:=by
 rw[World.cell?_setCell_far _ _ _ _ (by exact hne),World.cell?_setCell_far _ _ _ _ (by exact hne),World.cell?_setCell_far _ _ _ _ (by exact hne),h]
theorem cons3 {t:List Value} {n:Nat} (h:t.length=(n+1) * 3):∃ z0 z1 z2 r,t=z0 :: z1 :: z2 :: r∧r.length=n * 3:=by
 match t,h with
 | z0 :: z1 :: z2 :: r,h=>exact⟨z0,z1,z2,r,rfl,by simp at h;omega⟩
 | [],h=>simp at h
 | [_],h=>simp at h;omega
 | [_,_],h=>simp at h;omega
theorem cons2 {t:List Value} {n:Nat} (h:t.length=(n+1) * 2):∃ z0 z1 r,t=z0 :: z1 :: r∧r.length=n * 2:=by
 match t,h with
 | z0 :: z1 :: r,h=>exact⟨z0,z1,r,rfl,by simp at h;omega⟩
 | [],h=>simp at h
 | [_],h=>simp at h;omega
theorem take_at {α:Type} {l:List α} {i:Nat} {a:α} (h:l[i]?=some a):l.take (i+1)=l.take i++[a]:=by
 rw[List.take_add_one,h];rfl
theorem at_end {d t:List Value} {k:Nat} (h:d.length=k) (j:Nat):(d++t)[k+j]?=t[j]?:=by
 subst h
 rw[List.getElem?_append_right (by omega),show d.length+j - d.length=j by omega]
theorem at_end0 {d t:List Value} {k:Nat} (h:d.length=k):(d++t)[k]?=t[0]?:=at_end h 0
theorem made_len (z:Array Value) (n:Nat):(madeCells z n).toList.length=n:=by simp[size_madeCells]
theorem made_run {P:Program} (t e:TypeId) (z:Value) (size bytes:Nat) (ht:P.underlying t=some (.slice e)) (hinfo:(P.info? e).map (fun i=>(i.zero,i.size,i.bytes))=some (some z,size,bytes)) (n:Nat) (hb:bytes * n≤281474976710656) (hn:n≤maxLen) (w:World):
  (Instr.makeSlice t (.int .i64 (n:Int)) (.int .i64 (n:Int))).run P w=.ok (.slice (some ⟨w.heap.size,0,none⟩) n n) (w.alloc (.cells (madeCells z.cells (n * size)).toList.toArray e)):=by
 obtain⟨i,hi,hzz⟩:=Option.map_eq_some_iff.1 hinfo
 simp only[Prod.mk.injEq] at hzz
 obtain⟨hz,hs,hb1⟩:=hzz
 have hb':(i.bytes:Int) * (n:Int)≤281474976710656:=by
  have h:((i.bytes * n:Nat):Int)≤281474976710656:=by rw[hb1];omega
  rwa [Int.natCast_mul] at h
 have hr:=run_make (P:=P) w t e i z ht hi hz .i64 .i64 n n (by omega) (Int.le_refl _) hb' (by unfold maxLen at hn;omega)
 simp only[Int.toNat_natCast,hs] at hr
 rw[hr]
theorem keep_set2 {wr w1:World} {H p q:Nat} {x y:Value} (hC:Below wr.heap.size wr w1):Keeps (fun b=>H<b∧b<wr.heap.size) (fun b=>H<b∧b<((w1.setCell ⟨H,p,none⟩ x).setCell ⟨H,q,none⟩ y).heap.size) wr ((w1.setCell ⟨H,p,none⟩ x).setCell ⟨H,q,none⟩ y):=by
 intro b hb
 refine⟨⟨hb.1,by simpa using Nat.lt_of_lt_of_le hb.2 hC.size⟩,?_⟩
 rw[Below.heap_setCell _ _ _ _ (by show b≠H;omega),Below.heap_setCell _ _ _ _ (by show b≠H;omega)]
 exact hC.block b hb.2
theorem keep_set3 {wr w1:World} {H p q r:Nat} {x y z:Value} (hC:Below wr.heap.size wr w1):Keeps (fun b=>H<b∧b<wr.heap.size) (fun b=>H<b∧b<(((w1.setCell ⟨H,p,none⟩ x).setCell ⟨H,q,none⟩ y).setCell ⟨H,r,none⟩ z).heap.size) wr (((w1.setCell ⟨H,p,none⟩ x).setCell ⟨H,q,none⟩ y).setCell ⟨H,r,none⟩ z):=by
 intro b hb
 refine⟨⟨hb.1,by simpa using Nat.lt_of_lt_of_le hb.2 hC.size⟩,?_⟩
 rw[Below.heap_setCell _ _ _ _ (by show b≠H;omega),Below.heap_setCell _ _ _ _ (by show b≠H;omega),Below.heap_setCell _ _ _ _ (by show b≠H;omega)]
 exact hC.block b hb.2
theorem blk_slice {α:Type} {size b n:Nat} {R:Reader α} {S:Nat→Prop} {w:World} {t:TypeId} {cs:List Value} {l:List α} (hb:Blk w b t cs) (hc:Chunks size (R S w) cs l) (hS:S b) (hn:l.length≤maxLen) (hl:l.length=n:=by rfl):
  rSlice size R S w [.slice (some ⟨b,0,none⟩) n n] l:=by
 subst hl
 exact⟨_,_,cs,rfl,zW _,hn,.inr ⟨b,0,rfl,hS,fun j u hu=>by rw[Nat.zero_add];exact hb.cell hu⟩,hc⟩
def obCells:List Ob→List Nat→List Value
 | o :: os,b :: bs=>.int .i64 o.1 :: .int .i64 o.2.1 :: .slice (some ⟨b,0,none⟩) o.2.2.length o.2.2.length :: obCells os bs
 | _,_=>[]
theorem obCells_add:∀ {os:List Ob} {bs:List Nat} (o:Ob) (b:Nat),os.length=bs.length→obCells (os++[o]) (bs++[b])=obCells os bs++[.int .i64 o.1,.int .i64 o.2.1,.slice (some ⟨b,0,none⟩) o.2.2.length o.2.2.length]
 | [],[],_,_,_=>rfl
 | x :: os,y :: bs,o,b,h=>by simp[obCells,obCells_add (os:=os) (bs:=bs) o b (by simpa using h)]
 | [],y :: bs,_,_,h=>by simp at h
 | x :: os,[],_,_,h=>by simp at h
theorem obCells_len:∀ {os:List Ob} {bs:List Nat},os.length=bs.length→(obCells os bs).length=os.length * 3
 | [],[],_=>rfl
 | x :: os,y :: bs,h=>by simp[obCells,obCells_len (os:=os) (bs:=bs) (by simpa using h)];omega
 | [],y :: bs,h=>by simp at h
 | x :: os,[],h=>by simp at h
def OwnF (w:World) (b:Nat) (o:Ob):Prop:=(Lit.int .i64 o.1).wf=true∧(Lit.int .i64 o.2.1).wf=true∧o.2.2.length≤maxLen∧∃ vs,Blk w b 47 vs∧Chunks 3 (rVal (fun _=>True) w) vs o.2.2
def ObDone (H:Nat) (w:World) (ds:List Value) (os:List Ob):Prop:=∃ bs:List Nat,ds=obCells os bs∧os.length=bs.length∧bs.Pairwise (·<·)∧∀ (i:Nat) o b,os[i]?=some o→bs[i]?=some b→H<b∧b<w.heap.size∧OwnF w b o
theorem ObDone.nil {H:Nat} {w:World}:ObDone H w [] []:=⟨[],rfl,rfl,List.Pairwise.nil,fun i o b h=>by simp at h⟩
theorem OwnF.keep {w w':World} {b:Nat} {o:Ob} (h:OwnF w b o) (hk:w'.heap[b]?=w.heap[b]?):OwnF w' b o:=by
 obtain⟨h1,h2,h3,vs,h4,h5⟩:=h
 exact⟨h1,h2,h3,vs,hk.trans h4,h5⟩
theorem ObDone.add {H b:Nat} {w w':World} {ds:List Value} {os:List Ob} {o:Ob} (h:ObDone H w ds os) (hk:Keeps (fun b=>H<b∧b<w.heap.size) (fun b=>H<b∧b<w'.heap.size) w w') (hb:w.heap.size≤b) (hH:H<b) (hlt:b<w'.heap.size) (ho:OwnF w' b o):
  ObDone H w' (ds++[.int .i64 o.1,.int .i64 o.2.1,.slice (some ⟨b,0,none⟩) o.2.2.length o.2.2.length]) (os++[o]):=by
 obtain⟨bs,h1,h2,h3,h4⟩:=h
 subst h1
 refine⟨bs++[b],(obCells_add o b h2).symm,by simp[h2],?_,fun i p c hp hc=>?_⟩
 ·rw[List.pairwise_append]
  refine⟨h3,List.pairwise_singleton _ _,fun x hx y hy=>?_⟩
  obtain⟨j,hj⟩:=List.getElem?_of_mem hx
  have hjl:=(List.getElem?_eq_some_iff.1 hj).1
  have:=h4 j os[j] x (zV (by omega)) hj
  simp at hy
  omega
 ·by_cases hi:i<os.length
  ·rw[List.getElem?_append_left hi] at hp
   rw[List.getElem?_append_left (by omega)] at hc
   obtain⟨h5,h6,h7⟩:=h4 i p c hp hc
   obtain⟨h8,h9⟩:=hk c ⟨h5,h6⟩
   exact⟨h5,h8.2,h7.keep h9⟩
  ·have hlt2:=(List.getElem?_eq_some_iff.1 hp).1
   have hi2:i=os.length:=by simp at hlt2;omega
   subst hi2
   rw[List.getElem?_append_right (zW _),Nat.sub_self] at hp
   rw[List.getElem?_append_right (by omega),h2,Nat.sub_self] at hc
   simp at hp hc
   subst hp hc
   exact⟨hH,hlt,ho⟩
end Go.Proofs.YtnljjnkindjeoaaGreatDoor
namespace Go.Proofs.YtnljjnkindjeoaaGreatDoor
open Go.RowKit Go.Shelf
def cloneRen:Go.Shelf.Ren:=⟨fun _=>122,fun k=>if k=0 then 0 else if k=3 then 3 else if k=4 then 4 else if k=5 then 5 else if k=9 then 9 else if k=37 then 98 else 180,fun k=>k⟩
theorem cloneLays:LaysM.n316 Tryz.prog cloneRen:=by
 constructor
 ·constructor <;> first | kernel_rfl | (intro w;kernel_rfl)
 all_goals first | kernel_rfl | (intro w;kernel_rfl)
theorem lclone_any (s:ByteArray) (w:World) (hlim:s.size≤281474976710656):
  Calls Tryz.prog 122 #[.string s] w fun e w'=>e=.returned (.string s)∧Below w.heap.size w w':=Any.stringslite_Clone cloneLays s w hlim
theorem sclone_any (s:ByteArray) (w:World) (hlim:s.size≤281474976710656):
  Calls Tryz.prog 85 #[.string s] w fun e w'=>e=.returned (.string s)∧Below w.heap.size w w':=by
 go_enter Tryz.func85,Tryz.ntmps85
 go_wp2_with fail
 refine (lclone_any s w hlim).mono ?_
 rintro e w1 ⟨rfl,hB⟩
 go_wp2
 go_ret
 exact⟨rfl,hB⟩
end Go.Proofs.YtnljjnkindjeoaaGreatDoor
namespace Go.Proofs.YtnljjnkindjeoaaGreatDoor
open Go.RowKit
theorem isO_any (x y:Int) (A2:Option Addr) (n2 c2:Nat) (n:Int) (g:Nat) (w:World) (hn:w.cell? ⟨g,0,none⟩=some (.int .i64 n)) (hg:g<w.heap.size):
  Calls Tryz.prog 87 #[.agg #[.int .i64 x,.int .i64 y,.slice A2 n2 c2],.pointer (some ⟨g,0,none⟩)] w fun e w'=>e=.returned (.bool (decide (x=n)))∧Below w.heap.size w w':=by
 have hB:∀ u,Below w.heap.size w (w.alloc (.cells u 53)):=fun u=>(zA _ w).alloc (zW _) _
 have hn':∀ u,(w.alloc (.cells u 53)).cell? ⟨g,0,none⟩=some (.int .i64 n):=fun u=>((hB u).cell (p:=⟨g,0,none⟩) hg).trans hn
 have HR:Hid (Ending.returned (.bool (x == n))=.returned (.bool (decide (x=n)))):=zZ (by rw[show (x == n)=decide (x=n) from by by_cases h:x=n <;> simp[h]])
 go_enter Tryz.func87,Tryz.ntmps87
 go_wp2
 go_ret
 exact⟨HR.out,hB _⟩
theorem indexO_any (A:Option Addr) (N c:Nat) (l:List Ob) (n:Int) (g:Nat) (w:World) (h:rObs (All w) w [.slice A N c] l) (hn:w.cell? ⟨g,0,none⟩=some (.int .i64 n)) (hg:g<w.heap.size):
  Calls Tryz.prog 86 #[.slice A N c,.func (.func 87) #[] #[.pointer (some ⟨g,0,none⟩)]] w fun e w'=>e=.returned (.int .i64 (findG l n))∧Below w.heap.size w w':=by
 obtain⟨hN,hNc,hcm⟩:=slice_len h
 simp only[maxLen] at hcm
 go_enter Tryz.func86,Tryz.ntmps86
 go_wp2
 go_loopw [8] (fun iv w'=>∃ i:Nat,i≤N∧iv=.int .i64 (i:Int)∧Below w.heap.size w w'∧∀ j o,j<i→l[j]?=some o→decide (o.1=n)=false) (fun iv _=>N - (intOf iv).toNat)
 case atStart=>exact⟨0,by omega,rfl,zA _ _,fun j t hj=>by omega⟩
 case round=>
  rename_i iv wr
  obtain⟨i,hi,rfl,hB,hno⟩:=hrel
  have h:=obs_below hB h
  have hn:wr.cell? ⟨g,0,none⟩=some (.int .i64 n):=(hB.cell (p:=⟨g,0,none⟩) hg).trans hn
  have hg:g<wr.heap.size:=Nat.lt_of_lt_of_le hg hB.size
  by_cases hin:i<N
  ·have hli:l[i]?=some l[i]:=zV (by omega)
   obtain⟨b,off,A2,c2,rfl,hb,hx1,hx2,hx3,-,-,-⟩:=ob_at h hli
   have T1:=zZ (isO_any l[i].1 l[i].2.1 A2 l[i].2.2.length c2 n g wr hn hg)
   have hil:(i:Int)<(N:Int):=by omega
   have hi0:(0:Int)≤(i:Int):=by omega
   have Hno:=zZ hno
   have Hli:=zZ hli
   have HB:=zZ hB
   clear hno hli h hB
   by_cases he:l[i].1=n
   ·have Hr:Hid (findG l n=(i:Int)):=(idxP_iff _ l i).2 ⟨⟨l[i],Hli.out,zJ he⟩,fun j b hj hb=>Hno.out j b hj hb⟩
    rw[zJ he] at T1
    clear he
    generalize l[i].1=x1 at *
    generalize l[i].2.1=x2 at *
    generalize l[i].2.2.length=x3 at *
    go_wp2_with (first | (go_at_call 87;refine T1.out.mono ?_;rintro e w1 ⟨rfl,hB1⟩) | fail)
    go_ret
    exact⟨by rw[Hr.out];rfl,HB.out.trans (hB1.mono HB.out.size)⟩
   ·have Hr:Hid (∀ j o,j<i+1→l[j]?=some o→decide (o.1=n)=false):=fun j t hj ht=>by
     by_cases hji:j<i
     ·exact Hno.out j t hji ht
     ·obtain rfl:j=i:=by omega
      rw[Hli.out] at ht
      injection ht with ht
      subst ht
      exact zK he
    rw[zK he] at T1
    clear he
    generalize l[i].1=x1 at *
    generalize l[i].2.1=x2 at *
    generalize l[i].2.2.length=x3 at *
    go_wp2_with (first | (go_at_call 87;refine T1.out.mono ?_;rintro e w1 ⟨rfl,hB1⟩) | fail)
    go_roundw
    case rel=>exact⟨i+1,by omega,by go_num,HB.out.trans (hB1.mono HB.out.size),Hr.out⟩
    case measure=>simp[intOf];omega
  ·obtain rfl:i=N:=by omega
   have Hr:Hid (findG l n = -1):=(idxP_none _ l).2 fun t ht=>by
    obtain⟨j,hj⟩:=List.getElem?_of_mem ht
    have:=(List.getElem?_eq_some_iff.1 hj).1
    exact hno j t (by omega) hj
   clear hno
   go_wp2
   go_ret
   exact⟨by rw[Hr.out];rfl,hB⟩
theorem gfind_any (A B C:Option Addr) (N c M d K e:Nat) (g:Gr) (n:Int) (w:World) (h:rGr (All w) w [.slice A N c,.slice B M d,.slice C K e] g):
  Calls Tryz.prog 46 #[.agg #[.slice A N c,.slice B M d,.slice C K e],.int .i64 n] w fun e w'=>e=.returned (.int .i64 (findG g.2.1 n))∧Below w.heap.size w w':=by
 have hB:∀ u v,Below w.heap.size w ((w.alloc (.cells u 28)).alloc (.cells v 3)):=fun u v=>((zA _ w).alloc (zW _) _).alloc (by simp) _
 have T1:=zZ (fun u=>indexO_any B M d g.2.1 n (w.heap.size+1) ((w.alloc (.cells u 28)).alloc (.cells #[.int .i64 n] 3)) (obs_below (hB _ _) (rGr_open h).2.1) (by rw[World.cell?_alloc_at _ _ _ _ (by simp)];rfl) (by simp))
 clear h
 generalize findG g.2.1 n=r at *
 go_enter Tryz.func46,Tryz.ntmps46
 go_wp2_with (first | (go_at_call 86;refine (T1.out _).mono ?_;rintro e w1 ⟨rfl,hB1⟩) | fail)
 go_ret
 exact⟨rfl,(hB _ _).trans (hB1.mono (hB _ _).size)⟩
def holdV (k n:Int) (s:ByteArray) (r:Int):Value:=
 if k=0 then .iface 191 (.int .i8 (IntKind.i8.wrap n))
 else if k=1 then .iface 192 (.int .i16 (IntKind.i16.wrap n))
 else if k=2 then .iface 21 (.int .i32 (wrap32 n))
 else if k=3 then .iface 2 (.int .i64 n)
 else if k=4 then .iface 9 (.string s)
 else if k=5 then .iface 193 (.int .i64 r)
 else .nilIface
theorem vl_hold_x {k n:Int} {s:ByteArray} {r:Int} (h:¬ (0≤k∧k≤5)):holdV k n s r=.nilIface:=by
 rw[holdV,if_neg (by omega),if_neg (by omega),if_neg (by omega),if_neg (by omega),if_neg (by omega),if_neg (by omega)]
theorem wrap_i8 (n:Int):IntKind.i8.wrap n=(n+128) % 256 - 128:=by
 show (if (true && decide (n % 256 ≥ 128))=true then n % 256 - 256 else n % 256)=_
 rw[Bool.true_and]
 by_cases h:n % 256 ≥ 128
 ·rw[if_pos (zJ h)];omega
 ·rw[if_neg (by rw[zK h];decide)];omega
theorem wrap_i16 (n:Int):IntKind.i16.wrap n=(n+32768) % 65536 - 32768:=by
 show (if (true && decide (n % 65536 ≥ 32768))=true then n % 65536 - 65536 else n % 65536)=_
 rw[Bool.true_and]
 by_cases h:n % 65536 ≥ 32768
 ·rw[if_pos (zJ h)];omega
 ·rw[if_neg (by rw[zK h];decide)];omega
theorem vlhold_any (a b s:ByteArray) (k n r:Int) (w:World):
  Calls Tryz.prog 149 #[.agg #[.string a,.int .i64 k,.string b],.agg #[.int .i64 n,.string s,.int .i64 r]] w fun e w'=>e=.returned (holdV k n s r)∧Below w.heap.size w w':=by
 have hB:∀ u v,Below w.heap.size w ((w.alloc (.cells u 97)).alloc (.cells v 47)):=fun u v=>((zA _ w).alloc (zW _) _).alloc (by simp) _
 have HB:=zZ hB
 clear hB
 rcases vl_kinds k with rfl | rfl | rfl | rfl | rfl | rfl | hk
 ·go_enter Tryz.func149,Tryz.ntmps149
  go_wp2
  go_ret
  exact⟨rfl,HB.out _ _⟩
 ·go_enter Tryz.func149,Tryz.ntmps149
  go_wp2
  go_ret
  exact⟨rfl,HB.out _ _⟩
 ·go_enter Tryz.func149,Tryz.ntmps149
  go_wp2
  go_ret
  exact⟨rfl,HB.out _ _⟩
 ·go_enter Tryz.func149,Tryz.ntmps149
  go_wp2
  go_ret
  exact⟨rfl,HB.out _ _⟩
 ·go_enter Tryz.func149,Tryz.ntmps149
  go_wp2
  go_ret
  exact⟨rfl,HB.out _ _⟩
 ·go_enter Tryz.func149,Tryz.ntmps149
  go_wp2
  go_ret
  exact⟨rfl,HB.out _ _⟩
 ·rw[vl_hold_x hk]
  have e0:(k == 0)=false:=beq_false_of_ne (by omega)
  have e1:(k == 1)=false:=beq_false_of_ne (by omega)
  have e2:(k == 2)=false:=beq_false_of_ne (by omega)
  have e3:(k == 3)=false:=beq_false_of_ne (by omega)
  have e4:(k == 4)=false:=beq_false_of_ne (by omega)
  have e5:(k == 5)=false:=beq_false_of_ne (by omega)
  clear hk
  go_enter Tryz.func149,Tryz.ntmps149
  go_wp2
  go_ret
  exact⟨rfl,HB.out _ _⟩
theorem vlshow_8 (x:Int) (w:World) (h0:-128≤x) (h1:x≤127):
  Calls Tryz.prog 148 #[.iface 191 (.int .i8 x)] w fun e w'=>e=.returned (.tuple #[.agg #[.int .i64 x,.string ⟨#[]⟩,.int .i64 0],.bool true])∧Below w.heap.size w w':=by
 have t0:∀ W:World,(Instr.typeAssert (.iface 191 (.int .i8 x)) 20 191 true).run Tryz.prog W=.ok (.tuple #[.int .i8 x,.bool true]) W:=fun _=>by kernel_rfl
 go_enter Tryz.func148,Tryz.ntmps148
 go_wp2
 refine ret_cell1 (d:=.struct _) (cs:=[.int .i64 x,.string ⟨#[]⟩,.int .i64 0]) rfl (Blk.new _ _ _) rfl rfl rfl rfl rfl ?_
 exact⟨rfl,(zA _ w).alloc (zW _) _⟩
theorem vlshow_16 (x:Int) (w:World) (h0:-32768≤x) (h1:x≤32767):
  Calls Tryz.prog 148 #[.iface 192 (.int .i16 x)] w fun e w'=>e=.returned (.tuple #[.agg #[.int .i64 x,.string ⟨#[]⟩,.int .i64 0],.bool true])∧Below w.heap.size w w':=by
 have t0:∀ W:World,(Instr.typeAssert (.iface 192 (.int .i16 x)) 20 191 true).run Tryz.prog W=.ok (.tuple #[.int .i8 0,.bool false]) W:=fun _=>by kernel_rfl
 have t1:∀ W:World,(Instr.typeAssert (.iface 192 (.int .i16 x)) 20 192 true).run Tryz.prog W=.ok (.tuple #[.int .i16 x,.bool true]) W:=fun _=>by kernel_rfl
 go_enter Tryz.func148,Tryz.ntmps148
 go_wp2
 refine ret_cell1 (d:=.struct _) (cs:=[.int .i64 x,.string ⟨#[]⟩,.int .i64 0]) rfl (Blk.new _ _ _) rfl rfl rfl rfl rfl ?_
 exact⟨rfl,(zA _ w).alloc (zW _) _⟩
theorem vlshow_32 (x:Int) (w:World) (h0:-2147483648≤x) (h1:x≤2147483647):
  Calls Tryz.prog 148 #[.iface 21 (.int .i32 x)] w fun e w'=>e=.returned (.tuple #[.agg #[.int .i64 x,.string ⟨#[]⟩,.int .i64 0],.bool true])∧Below w.heap.size w w':=by
 have t0:∀ W:World,(Instr.typeAssert (.iface 21 (.int .i32 x)) 20 191 true).run Tryz.prog W=.ok (.tuple #[.int .i8 0,.bool false]) W:=fun _=>by kernel_rfl
 have t1:∀ W:World,(Instr.typeAssert (.iface 21 (.int .i32 x)) 20 192 true).run Tryz.prog W=.ok (.tuple #[.int .i16 0,.bool false]) W:=fun _=>by kernel_rfl
 have t2:∀ W:World,(Instr.typeAssert (.iface 21 (.int .i32 x)) 20 21 true).run Tryz.prog W=.ok (.tuple #[.int .i32 x,.bool true]) W:=fun _=>by kernel_rfl
 go_enter Tryz.func148,Tryz.ntmps148
 go_wp2
 refine ret_cell1 (d:=.struct _) (cs:=[.int .i64 x,.string ⟨#[]⟩,.int .i64 0]) rfl (Blk.new _ _ _) rfl rfl rfl rfl rfl ?_
 exact⟨rfl,(zA _ w).alloc (zW _) _⟩
theorem vlshow_64 (x:Int) (w:World):
  Calls Tryz.prog 148 #[.iface 2 (.int .i64 x)] w fun e w'=>e=.returned (.tuple #[.agg #[.int .i64 x,.string ⟨#[]⟩,.int .i64 0],.bool true])∧Below w.heap.size w w':=by
 have t0:∀ W:World,(Instr.typeAssert (.iface 2 (.int .i64 x)) 20 191 true).run Tryz.prog W=.ok (.tuple #[.int .i8 0,.bool false]) W:=fun _=>by kernel_rfl
 have t1:∀ W:World,(Instr.typeAssert (.iface 2 (.int .i64 x)) 20 192 true).run Tryz.prog W=.ok (.tuple #[.int .i16 0,.bool false]) W:=fun _=>by kernel_rfl
 have t2:∀ W:World,(Instr.typeAssert (.iface 2 (.int .i64 x)) 20 21 true).run Tryz.prog W=.ok (.tuple #[.int .i32 0,.bool false]) W:=fun _=>by kernel_rfl
 have t3:∀ W:World,(Instr.typeAssert (.iface 2 (.int .i64 x)) 20 2 true).run Tryz.prog W=.ok (.tuple #[.int .i64 x,.bool true]) W:=fun _=>by kernel_rfl
 go_enter Tryz.func148,Tryz.ntmps148
 go_wp2
 refine ret_cell1 (d:=.struct _) (cs:=[.int .i64 x,.string ⟨#[]⟩,.int .i64 0]) rfl (Blk.new _ _ _) rfl rfl rfl rfl rfl ?_
 exact⟨rfl,(zA _ w).alloc (zW _) _⟩
theorem vlshow_s (s:ByteArray) (w:World):
  Calls Tryz.prog 148 #[.iface 9 (.string s)] w fun e w'=>e=.returned (.tuple #[.agg #[.int .i64 0,.string s,.int .i64 0],.bool (decide (s.size≤12))])∧Below w.heap.size w w':=by
 have t0:∀ W:World,(Instr.typeAssert (.iface 9 (.string s)) 20 191 true).run Tryz.prog W=.ok (.tuple #[.int .i8 0,.bool false]) W:=fun _=>by kernel_rfl
 have t1:∀ W:World,(Instr.typeAssert (.iface 9 (.string s)) 20 192 true).run Tryz.prog W=.ok (.tuple #[.int .i16 0,.bool false]) W:=fun _=>by kernel_rfl
 have t2:∀ W:World,(Instr.typeAssert (.iface 9 (.string s)) 20 21 true).run Tryz.prog W=.ok (.tuple #[.int .i32 0,.bool false]) W:=fun _=>by kernel_rfl
 have t3:∀ W:World,(Instr.typeAssert (.iface 9 (.string s)) 20 2 true).run Tryz.prog W=.ok (.tuple #[.int .i64 0,.bool false]) W:=fun _=>by kernel_rfl
 have t4:∀ W:World,(Instr.typeAssert (.iface 9 (.string s)) 20 9 true).run Tryz.prog W=.ok (.tuple #[.string s,.bool true]) W:=fun _=>by kernel_rfl
 have hle:decide ((s.size:Int)≤12)=decide (s.size≤12):=decide_eq_decide.2 (by omega)
 go_enter Tryz.func148,Tryz.ntmps148
 go_wp2
 refine ret_cell1 (d:=.struct _) (cs:=[.int .i64 0,.string s,.int .i64 0]) rfl (Blk.new _ _ _) rfl rfl rfl rfl rfl ?_
 exact⟨rfl,(zA _ w).alloc (zW _) _⟩
theorem vlshow_r (x:Int) (w:World):
  Calls Tryz.prog 148 #[.iface 193 (.int .i64 x)] w fun e w'=>e=.returned (.tuple #[.agg #[.int .i64 0,.string ⟨#[]⟩,.int .i64 x],.bool (decide (-1≤x) && decide (x≤1073741824))])∧Below w.heap.size w w':=by
 have t0:∀ W:World,(Instr.typeAssert (.iface 193 (.int .i64 x)) 20 191 true).run Tryz.prog W=.ok (.tuple #[.int .i8 0,.bool false]) W:=fun _=>by kernel_rfl
 have t1:∀ W:World,(Instr.typeAssert (.iface 193 (.int .i64 x)) 20 192 true).run Tryz.prog W=.ok (.tuple #[.int .i16 0,.bool false]) W:=fun _=>by kernel_rfl
 have t2:∀ W:World,(Instr.typeAssert (.iface 193 (.int .i64 x)) 20 21 true).run Tryz.prog W=.ok (.tuple #[.int .i32 0,.bool false]) W:=fun _=>by kernel_rfl
 have t3:∀ W:World,(Instr.typeAssert (.iface 193 (.int .i64 x)) 20 2 true).run Tryz.prog W=.ok (.tuple #[.int .i64 0,.bool false]) W:=fun _=>by kernel_rfl
 have t4:∀ W:World,(Instr.typeAssert (.iface 193 (.int .i64 x)) 20 9 true).run Tryz.prog W=.ok (.tuple #[.string ⟨#[]⟩,.bool false]) W:=fun _=>by kernel_rfl
 have t5:∀ W:World,(Instr.typeAssert (.iface 193 (.int .i64 x)) 20 193 true).run Tryz.prog W=.ok (.tuple #[.int .i64 x,.bool true]) W:=fun _=>by kernel_rfl
 by_cases h:-1≤x
 ·have hd:decide (-1≤x)=true:=zJ h
  rw[hd,Bool.true_and]
  go_enter Tryz.func148,Tryz.ntmps148
  go_wp2
  refine ret_cell1 (d:=.struct _) (cs:=[.int .i64 0,.string ⟨#[]⟩,.int .i64 x]) rfl (Blk.new _ _ _) rfl rfl rfl rfl rfl ?_
  exact⟨rfl,(zA _ w).alloc (zW _) _⟩
 ·have hd:decide (-1≤x)=false:=zK h
  rw[hd,Bool.false_and]
  go_enter Tryz.func148,Tryz.ntmps148
  go_wp2
  refine ret_cell1 (d:=.struct _) (cs:=[.int .i64 0,.string ⟨#[]⟩,.int .i64 x]) rfl (Blk.new _ _ _) rfl rfl rfl rfl rfl ?_
  exact⟨rfl,(zA _ w).alloc (zW _) _⟩
theorem vlshow_x (w:World):
  Calls Tryz.prog 148 #[.nilIface] w fun e w'=>e=.returned (.tuple #[.agg #[.int .i64 0,.string ⟨#[]⟩,.int .i64 0],.bool false])∧Below w.heap.size w w':=by
 have t0:∀ W:World,(Instr.typeAssert (.nilIface) 20 191 true).run Tryz.prog W=.ok (.tuple #[.int .i8 0,.bool false]) W:=fun _=>by kernel_rfl
 have t1:∀ W:World,(Instr.typeAssert (.nilIface) 20 192 true).run Tryz.prog W=.ok (.tuple #[.int .i16 0,.bool false]) W:=fun _=>by kernel_rfl
 have t2:∀ W:World,(Instr.typeAssert (.nilIface) 20 21 true).run Tryz.prog W=.ok (.tuple #[.int .i32 0,.bool false]) W:=fun _=>by kernel_rfl
 have t3:∀ W:World,(Instr.typeAssert (.nilIface) 20 2 true).run Tryz.prog W=.ok (.tuple #[.int .i64 0,.bool false]) W:=fun _=>by kernel_rfl
 have t4:∀ W:World,(Instr.typeAssert (.nilIface) 20 9 true).run Tryz.prog W=.ok (.tuple #[.string ⟨#[]⟩,.bool false]) W:=fun _=>by kernel_rfl
 have t5:∀ W:World,(Instr.typeAssert (.nilIface) 20 193 true).run Tryz.prog W=.ok (.tuple #[.int .i64 0,.bool false]) W:=fun _=>by kernel_rfl
 go_enter Tryz.func148,Tryz.ntmps148
 go_wp2
 refine ret_cell1 (d:=.struct _) (cs:=[.int .i64 0,.string ⟨#[]⟩,.int .i64 0]) rfl (Blk.new _ _ _) rfl rfl rfl rfl rfl ?_
 exact⟨rfl,(zA _ w).alloc (zW _) _⟩
theorem sval_stood:Tryz.prog.stoodInHeld 47=false:=by kernel_rfl
theorem sval_guard:Tryz.prog.eqGuardType Tryz.prog.depth 47=false:=by kernel_rfl
theorem vl_eql (n1 n2 r1 r2:Int) (s1 s2:ByteArray) (w:World):(binOp .eql 47 (.agg #[.int .i64 n1,.string s1,.int .i64 r1]) (.agg #[.int .i64 n2,.string s2,.int .i64 r2])).run Tryz.prog w
  = .ok (.bool ((n1 == n2) && (s1.toList == s2.toList) && (r1 == r2))) w:=by
 have h1:=sval_stood
 cases e1:(s1.toList == s2.toList) <;> cases e2:(n1 == n2) <;> cases e3:(r1 == r2)
 all_goals go_simp
theorem vl_neq (n1 n2 r1 r2:Int) (s1 s2:ByteArray) (w:World):(binOp .neq 47 (.agg #[.int .i64 n1,.string s1,.int .i64 r1]) (.agg #[.int .i64 n2,.string s2,.int .i64 r2])).run Tryz.prog w
  = .ok (.bool (!((n1 == n2) && (s1.toList == s2.toList) && (r1 == r2)))) w:=by
 have h1:=sval_stood
 cases e1:(s1.toList == s2.toList) <;> cases e2:(n1 == n2) <;> cases e3:(r1 == r2)
 all_goals go_simp
theorem vl_is (n1 n2 r1 r2:Int) (s1 s2:ByteArray):((n1 == n2) && (s1.toList == s2.toList) && (r1 == r2))=decide ((n1,byt s1,r1)=(n2,byt s2,r2)):=by
 rw[str_beq]
 simp only[Prod.mk.injEq]
 by_cases e1:n1=n2 <;> by_cases e2:byt s1=byt s2 <;> by_cases e3:r1=r2 <;> simp[e1,e2,e3]
theorem byt_nil:byt ⟨#[]⟩=[]:=rfl
theorem vlshow_hold (k n r:Int) (s:ByteArray):∃ (n1:Int) (s1:ByteArray) (r1:Int) (b:Bool),(b && decide ((n1,byt s1,r1)=(n,byt s,r)))=fitsV k (n,byt s,r) ∧
  ∀ w,Calls Tryz.prog 148 #[holdV k n s r] w fun e w'=>e=.returned (.tuple #[.agg #[.int .i64 n1,.string s1,.int .i64 r1],.bool b])∧Below w.heap.size w w':=by
 rcases vl_kinds k with rfl | rfl | rfl | rfl | rfl | rfl | hk
 ·have hw:=wrap_i8 n
  refine⟨_,_,_,_,?_,fun w=>vlshow_8 (IntKind.i8.wrap n) w (by omega) (by omega)⟩
  rw[vl_fits_0,Bool.true_and]
  refine decide_eq_decide.2 ?_
  simp only[Prod.mk.injEq,byt_nil]
  refine⟨fun h=>⟨by omega,by omega,h.2.1.symm,h.2.2.symm⟩,fun h=>⟨by omega,h.2.2.1.symm,h.2.2.2.symm⟩⟩
 ·have hw:=wrap_i16 n
  refine⟨_,_,_,_,?_,fun w=>vlshow_16 (IntKind.i16.wrap n) w (by omega) (by omega)⟩
  rw[vl_fits_1,Bool.true_and]
  refine decide_eq_decide.2 ?_
  simp only[Prod.mk.injEq,byt_nil]
  refine⟨fun h=>⟨by omega,by omega,h.2.1.symm,h.2.2.symm⟩,fun h=>⟨by omega,h.2.2.1.symm,h.2.2.2.symm⟩⟩
 ·have hw:wrap32 n=(n+2147483648) % 4294967296 - 2147483648:=by unfold wrap32;rfl
  refine⟨_,_,_,_,?_,fun w=>vlshow_32 (wrap32 n) w (by omega) (by omega)⟩
  rw[vl_fits_2,Bool.true_and]
  refine decide_eq_decide.2 ?_
  simp only[Prod.mk.injEq,byt_nil]
  refine⟨fun h=>⟨by omega,by omega,h.2.1.symm,h.2.2.symm⟩,fun h=>⟨by omega,h.2.2.1.symm,h.2.2.2.symm⟩⟩
 ·refine⟨_,_,_,_,?_,fun w=>vlshow_64 n w⟩
  rw[vl_fits_3,Bool.true_and]
  refine decide_eq_decide.2 ?_
  simp only[Prod.mk.injEq,byt_nil]
  exact⟨fun h=>⟨h.2.1.symm,h.2.2.symm⟩,fun h=>⟨trivial,h.1.symm,h.2.symm⟩⟩
 ·refine⟨_,_,_,_,?_,fun w=>vlshow_s s w⟩
  rw[vl_fits_4,← Bool.decide_and]
  refine decide_eq_decide.2 ?_
  simp only[Prod.mk.injEq,byt_length]
  exact⟨fun h=>⟨h.1,h.2.1.symm,h.2.2.2.symm⟩,fun h=>⟨h.1,h.2.1.symm,trivial,h.2.2.symm⟩⟩
 ·refine⟨_,_,_,_,?_,fun w=>vlshow_r r w⟩
  rw[vl_fits_5,← Bool.decide_and,← Bool.decide_and]
  refine decide_eq_decide.2 ?_
  simp only[Prod.mk.injEq,byt_nil]
  exact⟨fun h=>⟨h.1.1,h.1.2,h.2.1.symm,h.2.2.1.symm⟩,fun h=>⟨⟨h.1,h.2.1⟩,h.2.2.1.symm,h.2.2.2.symm,trivial⟩⟩
 ·refine⟨_,_,_,_,?_,fun w=>by rw[vl_hold_x hk];exact vlshow_x w⟩
  rw[vl_fits_x hk,Bool.false_and]
theorem vlfits_any (a b s:ByteArray) (k n r:Int) (w:World):
  Calls Tryz.prog 121 #[.agg #[.string a,.int .i64 k,.string b],.agg #[.int .i64 n,.string s,.int .i64 r]] w fun e w'=>e=.returned (.bool (fitsV k (n,byt s,r)))∧Below w.heap.size w w':=by
 have hB:∀ u v,Below w.heap.size w ((w.alloc (.cells u 97)).alloc (.cells v 47)):=fun u v=>((zA _ w).alloc (zW _) _).alloc (by simp) _
 obtain⟨n1,s1,r1,bb,hfit,hshow⟩:=vlshow_hold k n r s
 have T1:=zZ (fun W=>vlhold_any a b s k n r W)
 have T2:=zZ hshow
 have Hf:=zZ hfit
 have hq:∀ W,(binOp .eql 47 (.agg #[.int .i64 n1,.string s1,.int .i64 r1]) (.agg #[.int .i64 n,.string s,.int .i64 r])).run Tryz.prog W=.ok (.bool (decide ((n1,byt s1,r1)=(n,byt s,r)))) W:=fun W=>by rw[vl_eql,vl_is]
 have hg:=sval_guard
 clear hshow hfit
 generalize fitsV k (n,byt s,r)=F at *
 generalize decide ((n1,byt s1,r1)=(n,byt s,r))=q at *
 go_enter Tryz.func121,Tryz.ntmps121
 go_wp2_with fail
 refine (T1.out _).mono ?_
 generalize holdV k n s r=hv at *
 rintro e w1 ⟨rfl,hC1⟩
 go_wp2_with fail
 refine (T2.out _).mono ?_
 rintro e w2 ⟨rfl,hC2⟩
 have hB1:=(hB _ _).trans (hC1.mono (hB _ _).size)
 have hB2:=hB1.trans (hC2.mono hB1.size)
 have v2:=(((Blk.new (w.alloc (.cells #[.string a,.int .i64 k,.string b] 97)) 47 [.int .i64 n,.string s,.int .i64 r]).below (Nat.lt_succ_self _) (hC1.mono (by simp)))).below (Nat.lt_of_lt_of_le (Nat.lt_succ_self _) (by simpa using hC1.size)) hC2
 rw[World.size_alloc] at v2
 have hB3:=hB2.alloc hB2.size (.cells #[.int .i64 n1,.string s1,.int .i64 r1] 47)
 have v3:=v2.alloc (.cells #[.int .i64 n1,.string s1,.int .i64 r1] 47)
 have y0:=v3.cell (j:=0) rfl
 have y1:=v3.cell (j:=1) rfl
 have y2:=v3.cell (j:=2) rfl
 have HB3:=zZ hB3
 clear hC1 hC2 hB1 hB2 hB v2 v3 hB3
 cases bb
 ·go_wp2
  go_ret
  exact⟨by rw[← Hf.out];rfl,HB3.out⟩
 ·go_wp2
  go_ret
  exact⟨by rw[← Hf.out];rfl,HB3.out⟩
theorem blk_three (w:World) (t1 t2 t3:TypeId) (u v x:List Value):Blk (((w.alloc (.cells u.toArray t1)).alloc (.cells v.toArray t2)).alloc (.cells x.toArray t3)) w.heap.size t1 u ∧
  Blk (((w.alloc (.cells u.toArray t1)).alloc (.cells v.toArray t2)).alloc (.cells x.toArray t3)) (w.heap.size+1) t2 v∧Blk (((w.alloc (.cells u.toArray t1)).alloc (.cells v.toArray t2)).alloc (.cells x.toArray t3)) (w.heap.size+2) t3 x:=by
 refine⟨((Blk.new w t1 u).alloc _).alloc _,?_,?_⟩
 ·have:=(Blk.new (w.alloc (.cells u.toArray t1)) t2 v).alloc (.cells x.toArray t3)
  simpa using this
 ·have:=Blk.new ((w.alloc (.cells u.toArray t1)).alloc (.cells v.toArray t2)) t3 x
  simpa using this
theorem blk_two (w:World) (t1 t2:TypeId) (u v:List Value):Blk ((w.alloc (.cells u.toArray t1)).alloc (.cells v.toArray t2)) w.heap.size t1 u∧Blk ((w.alloc (.cells u.toArray t1)).alloc (.cells v.toArray t2)) (w.heap.size+1) t2 v:=by
 refine⟨(Blk.new w t1 u).alloc _,?_⟩
 have:=Blk.new (w.alloc (.cells u.toArray t1)) t2 v
 simpa using this
theorem isPlace_any (i n:Int) (w:World):Calls Tryz.prog 83 #[.int .i64 i,.int .i64 n] w fun e w'=>e=.returned (.bool (decide (0≤i) && decide (i<n)))∧w'=w:=by
 by_cases h:0≤i
 ·have h':decide (0≤i)=true:=zJ h
  rw[h',Bool.true_and]
  go_enter Tryz.func83,Tryz.ntmps83
  go_wp2
  go_ret
  exact⟨rfl,rfl⟩
 ·have h':decide (0≤i)=false:=zK h
  rw[h',Bool.false_and]
  go_enter Tryz.func83,Tryz.ntmps83
  go_wp2
  go_ret
  exact⟨rfl,rfl⟩
theorem mayHave_any (A B C:Option Addr) (N c M d K e:Nat) (g:Gr) (x y s:ByteArray) (f:Fld) (v:Vl) (w:World) (h:rGr (All w) w [.slice A N c,.slice B M d,.slice C K e] g) (hy:byt y=f.2.2) (hs:byt s=v.2.1):
  Calls Tryz.prog 84 #[.agg #[.slice A N c,.slice B M d,.slice C K e],.agg #[.string x,.int .i64 f.2.1,.string y],.agg #[.int .i64 v.1,.string s,.int .i64 v.2.2]] w fun e w'=>e=.returned (.bool (haveG g f v))∧Below w.heap.size w w':=by
 have hB0:Below w.heap.size w (((w.alloc (.cells #[.slice A N c,.slice B M d,.slice C K e] 28)).alloc (.cells #[.string x,.int .i64 f.2.1,.string y] 97)).alloc (.cells #[.int .i64 v.1,.string s,.int .i64 v.2.2] 47)):=
  (((zA _ w).alloc (zW _) _).alloc (by simp) _).alloc (by simp;omega) _
 obtain⟨p1,p2,p3⟩:=blk_three w 28 97 47 [.slice A N c,.slice B M d,.slice C K e] [.string x,.int .i64 f.2.1,.string y] [.int .i64 v.1,.string s,.int .i64 v.2.2]
 have T1:=zZ (fun W=>vlfits_any x y s f.2.1 v.1 v.2.2 W)
 have T2:=zZ (fun W (hW:Below w.heap.size w W)=>gfind_any A B C N c M d K e g v.2.2 W (gr_below hW h))
 have T3:=zZ (fun W (hW:Below w.heap.size w W)=>find_any A N c g.1 y W (sch_below hW (rGr_open h).1))
 rw[hy] at T3
 rw[show (v.1,byt s,v.2.2)=v by rw[hs]] at T1
 have Ho:=zZ (fun W (hW:Below w.heap.size w W)=>(rGr_open (gr_below hW h)).2.1)
 obtain⟨hM,hMd,hdm⟩:=slice_len (rGr_open h).2.1
 simp only[maxLen] at hdm
 have Hv:Hid (haveG g f v=(fitsV f.2.1 v && (decide (f.2.1≠5) || decide (v.2.2 = -1) || (decide (findG g.2.1 v.2.2≠-1) && decide (typG g.2.1 v.2.2=findS g.1 f.2.2))))):=zZ rfl
 clear h hs hy
 have Hf:=zZ (fun h=>findG_at (os:=g.2.1) (id:=v.2.2) h)
 generalize haveG g f v=r at *
 generalize fitsV f.2.1 v=m1 at *
 generalize findG g.2.1 v.2.2=q at *
 generalize typG g.2.1 v.2.2=ty at *
 generalize findS g.1 f.2.2=q2 at *
 generalize f.2.1=k at *
 generalize v.1=n1 at *
 generalize v.2.2=n2 at *
 have HB0:=zZ hB0
 clear hB0
 go_enter Tryz.func84,Tryz.ntmps84
 go_wp2_with fail
 refine (T1.out _).mono ?_
 rintro e w1 ⟨rfl,hB1⟩
 have H1:=zZ (HB0.out.trans (hB1.mono HB0.out.size))
 cases m1
 ·go_wp2
  go_ret
  exact⟨by rw[Hv.out];rfl,H1.out⟩
 replace p1:=p1.to hB1
 replace p2:=p2.to hB1
 replace p3:=p3.to hB1
 clear hB1 HB0 T1
 have c1:=p2.cell (j:=1) rfl
 have c2:=p3.cell (j:=2) rfl
 by_cases h5:k=5
 ·have h5':(k != 5)=false:=by simp[h5]
  by_cases hm:n2 = -1
  ·have hm':(n2 == -1)=true:=by simp[hm]
   have Hr:Hid (r=true):=zZ (by rw[Hv.out];simp[hm])
   clear Hv hm h5
   go_wp2
   go_ret
   exact⟨by rw[Hr.out];rfl,H1.out⟩
  ·have hm':(n2 == -1)=false:=by simp[hm]
   have Hr:Hid (r=(decide (q≠-1) && decide (ty=q2))):=zZ (by rw[Hv.out];simp[hm,h5])
   clear Hv hm h5
   have c3:=p1.cell (j:=0) rfl
   have c4:=p1.cell (j:=1) rfl
   have c5:=p1.cell (j:=2) rfl
   go_wp2_with fail
   refine (T2.out _ H1.out).mono ?_
   rintro e w2 ⟨rfl,hB2⟩
   have H2:=zZ (H1.out.trans (hB2.mono H1.out.size))
   replace p1:=p1.to hB2
   replace p2:=p2.to hB2
   replace p3:=p3.to hB2
   clear hB2 c1 c2 c3 c4 c5 H1
   have c2:=p2.cell (j:=2) rfl
   have c3:=p1.cell (j:=0) rfl
   have c4:=p1.cell (j:=1) rfl
   by_cases hq:q = -1
   ·subst hq
    have Hr2:Hid (r=false):=zZ (by rw[Hr.out];rfl)
    go_wp2
    refine sch_start [(0,true),(1,true),(2,true),(3,true),(4,true),(5,true),(6,true),(7,true),(8,true),(9,true),(10,true),(11,true),(12,true),(13,false),(14,true),(15,true),(16,true)]
     (fun _=>True) (by kernel_rfl) rfl (by kernel_rfl) (fun _ _ _ _ _ h=>h) trivial (fun hH=>?_)
    repeat (first | (refine sch_yes (v:=?_) rfl rfl ?_ hH ?_;rotate_left;(focus ((intro W hW;go_simp) <;> with_reducible rfl));simp only[Act.put,zY,zX,zQ]) | (refine sch_no rfl rfl hH ?_;simp only[Act.put,zY,zX,zQ]))
    refine sch_call_no rfl rfl hH ?_
    repeat (first | (refine sch_yes (v:=?_) rfl rfl ?_ hH ?_;rotate_left;(focus ((intro W hW;go_simp) <;> with_reducible rfl));simp only[Act.put,zY,zX,zQ]) | (refine sch_no rfl rfl hH ?_;simp only[Act.put,zY,zX,zQ]))
    refine sch_done ?_
    clear hH
    go_wp2
    go_ret
    exact⟨by rw[Hr2.out];rfl,H2.out.drew⟩
   ·obtain⟨i,o,hi,ho,-,hty⟩:=Hf.out hq
    obtain⟨b,off,A2,c2',rfl,hb,-,hx2,-,-,-,-⟩:=ob_at (Ho.out _ H2.out) ho
    have hlt:=(List.getElem?_eq_some_iff.1 ho).1
    have hq':(q != -1)=true:=by simp[hq]
    subst hi
    rw[← hty] at hx2
    have hil:(i:Int)<(M:Int):=by omega
    have hi0:(0:Int)≤(i:Int):=by omega
    have hR2:=Hr.out
    rw[zJ hq,Bool.true_and] at hR2
    have Hr2:=zZ hR2
    clear hR2 Hr Hf hty ho hq hlt
    have HB2:=zZ (zA w2.heap.size w2)
    have S0:w2.cell? ⟨w.heap.size+1,2,none⟩=some (.string y)∧w2.cell? ⟨w.heap.size,0,none⟩=some (.slice A N c)∧w2.cell? ⟨w.heap.size,1,none⟩=some (.slice (some ⟨b,off,none⟩) M d)∧w2.cell? ⟨b,off+i * 3+1,none⟩=some (.int .i64 ty):=⟨c2,c3,c4,hx2⟩
    have l1:=p1.lt
    have l2:=p2.lt
    clear c2 c3 c4 hx2
    go_wp2
    refine sch_start [(0,true),(1,true),(2,true),(3,true),(4,true),(5,true),(6,true),(7,true),(8,true),(9,true),(10,true),(11,true),(12,true),(13,false),(14,true),(15,true),(16,true)]
     (fun W=>W.cell? ⟨w.heap.size+1,2,none⟩=some (.string y)∧W.cell? ⟨w.heap.size,0,none⟩=some (.slice A N c)∧W.cell? ⟨w.heap.size,1,none⟩=some (.slice (some ⟨b,off,none⟩) M d)∧W.cell? ⟨b,off+i * 3+1,none⟩=some (.int .i64 ty)) (by kernel_rfl) rfl (by kernel_rfl) (fun _ _ _ _ _ h=>h) S0 (fun hH=>?_)
    repeat (first | (refine sch_yes (v:=?_) rfl rfl ?_ hH ?_;rotate_left;(focus ((rintro W ⟨hW1,hW2,hW3,hW4⟩;go_simp) <;> with_reducible rfl));simp only[Act.put,zY,zX,zQ]) | (refine sch_no rfl rfl hH ?_;simp only[Act.put,zY,zX,zQ]))
    refine sch_call rfl rfl (fun K hK=>?_)
    go_wp2_with (go_at_call 89;refine (T3.out _ H2.out.drew).mono ?_;rintro e w8 ⟨rfl,hC8⟩)
    have hC9:Below w2.heap.size w2 w8:=(zA w2.heap.size w2).drew.trans hC8
    have hH8:=And.intro ((hC9.cell (p:=⟨w.heap.size+1,2,none⟩) l2).trans S0.1) (And.intro ((hC9.cell (p:=⟨w.heap.size,0,none⟩) l1).trans S0.2.1) (And.intro ((hC9.cell (p:=⟨w.heap.size,1,none⟩) l1).trans S0.2.2.1) ((hC9.cell (p:=⟨b,off+i * 3+1,none⟩) hb).trans S0.2.2.2)))
    refine hK.out _ _ hH8 ?_
    clear hK hH
    have hH:=hH8
    repeat (first | (refine sch_yes (v:=?_) rfl rfl ?_ hH ?_;rotate_left;(focus ((rintro W ⟨hW1,hW2,hW3,hW4⟩;go_simp) <;> with_reducible rfl));simp only[Act.put,zY,zX,zQ]) | (refine sch_no rfl rfl hH ?_;simp only[Act.put,zY,zX,zQ]))
    refine sch_done ?_
    clear hH hH8
    go_wp2
    go_ret
    exact⟨by rw[Hr2.out];rfl,H2.out.trans (hC9.mono H2.out.size)⟩
 ·have h5':(k != 5)=true:=by simp[h5]
  have Hr:Hid (r=true):=zZ (by rw[Hv.out];simp[h5])
  clear Hv h5
  go_wp2
  go_ret
  exact⟨by rw[Hr.out];rfl,H1.out⟩
theorem copyField_any (s t:ByteArray) (k:Int) (w:World) (hs:s.size≤281474976710656) (ht:t.size≤281474976710656):
  Calls Tryz.prog 119 #[.agg #[.string s,.int .i64 k,.string t]] w fun e w'=>e=.returned (.agg #[.string s,.int .i64 k,.string t])∧Below w.heap.size w w':=by
 obtain⟨p1,p2⟩:=blk_two w 97 97 [.string s,.int .i64 k,.string t] [.string ⟨#[]⟩,.int .i64 0,.string ⟨#[]⟩]
 have hB0:Below w.heap.size w ((w.alloc (.cells #[.string s,.int .i64 k,.string t] 97)).alloc (.cells #[.string ⟨#[]⟩,.int .i64 0,.string ⟨#[]⟩] 97)):=((zA _ w).alloc (zW _) _).alloc (by simp) _
 have T1:=zZ (fun W (hW:Below w.heap.size w W)=>have _:=hW;sclone_any s W hs)
 have T2:=zZ (fun W (hW:Below w.heap.size w W)=>have _:=hW;sclone_any t W ht)
 have S0:=And.intro (p1.cell (j:=0) rfl) (And.intro (p1.cell (j:=1) rfl) (p1.cell (j:=2) rfl))
 have l1:=p1.lt
 have s0:((w.alloc (.cells #[.string s,.int .i64 k,.string t] 97)).alloc (.cells #[.string ⟨#[]⟩,.int .i64 0,.string ⟨#[]⟩] 97)).heap.size=w.heap.size+2:=by simp
 have HB0:=zZ hB0
 have P2:=zZ p2
 clear p1 p2 hB0
 go_enter Tryz.func119,Tryz.ntmps119
 go_wp2
 generalize (w.alloc (.cells #[.string s,.int .i64 k,.string t] 97)).alloc (.cells #[.string ⟨#[]⟩,.int .i64 0,.string ⟨#[]⟩] 97)=w0 at *
 refine sch_start [(0,true),(1,true),(3,true),(4,true),(5,true),(6,true),(2,false),(7,false),(8,true),(9,false)]
  (fun W=>W.cell? ⟨w.heap.size,0,none⟩=some (.string s)∧W.cell? ⟨w.heap.size,1,none⟩=some (.int .i64 k)∧W.cell? ⟨w.heap.size,2,none⟩=some (.string t)) (by kernel_rfl) rfl (by kernel_rfl) (fun _ _ _ _ _ h=>h) S0 (fun hH=>?_)
 have hC0:Below w0.heap.size w0 w0.drew:=(zA w0.heap.size w0).drew
 repeat (first | (refine sch_yes (v:=?_) rfl rfl ?_ hH ?_;rotate_left;(focus ((rintro W ⟨hW0,hW1,hW2⟩;go_simp) <;> with_reducible rfl));simp only[Act.put,zY,zX,zQ]) | (refine sch_no rfl rfl hH ?_;simp only[Act.put,zY,zX,zQ]))
 refine sch_call rfl rfl (fun K hK=>?_)
 go_wp2_with (go_at_call 85;refine (T1.out _ (HB0.out.trans (hC0.mono HB0.out.size))).mono ?_;rintro e w1 ⟨rfl,hB1⟩)
 have hC1:Below w0.heap.size w0 w1:=hC0.trans (hB1.mono hC0.size)
 have S1:=And.intro ((hC1.cell (p:=⟨w.heap.size,0,none⟩) l1).trans S0.1) (And.intro ((hC1.cell (p:=⟨w.heap.size,1,none⟩) l1).trans S0.2.1) ((hC1.cell (p:=⟨w.heap.size,2,none⟩) l1).trans S0.2.2))
 refine hK.out _ _ S1 ?_
 clear hK hH
 have hH:=S1
 repeat (first | (refine sch_yes (v:=?_) rfl rfl ?_ hH ?_;rotate_left;(focus ((rintro W ⟨hW0,hW1,hW2⟩;go_simp) <;> with_reducible rfl));simp only[Act.put,zY,zX,zQ]) | (refine sch_no rfl rfl hH ?_;simp only[Act.put,zY,zX,zQ]))
 refine sch_call rfl rfl (fun K hK=>?_)
 go_wp2_with (go_at_call 85;refine (T2.out _ (HB0.out.trans (hC1.mono HB0.out.size))).mono ?_;rintro e w2 ⟨rfl,hB2⟩)
 have hC2:Below w0.heap.size w0 w2:=hC1.trans (hB2.mono hC1.size)
 have S2:=And.intro ((hC2.cell (p:=⟨w.heap.size,0,none⟩) l1).trans S0.1) (And.intro ((hC2.cell (p:=⟨w.heap.size,1,none⟩) l1).trans S0.2.1) ((hC2.cell (p:=⟨w.heap.size,2,none⟩) l1).trans S0.2.2))
 refine hK.out _ _ S2 ?_
 clear hK hH
 have hH:=S2
 repeat (first | (refine sch_yes (v:=?_) rfl rfl ?_ hH ?_;rotate_left;(focus ((rintro W ⟨hW0,hW1,hW2⟩;go_simp) <;> with_reducible rfl));simp only[Act.put,zY,zX,zQ]) | (refine sch_no rfl rfl hH ?_;simp only[Act.put,zY,zX,zQ]))
 refine sch_call rfl rfl (fun K hK=>?_)
 have P3:Blk w2 (w.heap.size+1) 97 [.string ⟨#[]⟩,.int .i64 0,.string ⟨#[]⟩]:=P2.out.to hC2
 have f0:=P3.frozen 0
 have d0:=P3.cell (j:=0) rfl
 have f1:=P3.frozen 1
 have d1:=P3.cell (j:=1) rfl
 have f2:=P3.frozen 2
 have d2:=P3.cell (j:=2) rfl
 go_wp2
 have P4:=(((P3).set 0 (.string s)).set 1 (.int .i64 k)).set 2 (.string t)
 refine hK.out _ _ (And.intro (far3 S2.1 (by omega)) (And.intro (far3 S2.2.1 (by omega)) (far3 S2.2.2 (by omega)))) ?_
 clear hK hH
 refine sch_done ?_
 go_wp2
 refine ret_cell0 (d:=.struct _) (cs:=[.string s,.int .i64 k,.string t]) rfl P4 rfl rfl rfl rfl rfl ?_
 have hBend:=((((HB0.out.trans (hC2.mono HB0.out.size)).setCell (p:=⟨w.heap.size+1,0,none⟩) (by simp) (.string s)).setCell (p:=⟨w.heap.size+1,1,none⟩) (by simp) (.int .i64 k)).setCell (p:=⟨w.heap.size+1,2,none⟩) (by simp) (.string t))
 exact⟨rfl,hBend⟩
theorem eachF_any (A:Option Addr) (N c:Nat) (l:List Fld) (w:World) (h:rFlds (All w) w [.slice A N c] l) (hNl:N≤7036874417766) (htl:∀ f∈l,f.1.length≤281474976710656∧f.2.2.length≤281474976710656):
  Calls Tryz.prog 118 #[.slice A N c,.func (.func 119) #[] #[]] w fun e w'=>∃ cs,e=.returned (.slice (some ⟨w.heap.size,0,none⟩) N N)∧Blk w' w.heap.size 97 cs ∧
   Chunks 3 (rFld (fun b=>w.heap.size<b∧b<w'.heap.size) w') cs l∧Below w.heap.size w w':=by
 obtain⟨hN,hNc,hcm⟩:=slice_len h
 have hmk:=fun W=>made_run (P:=Tryz.prog) 80 97 (.agg #[.string ⟨#[]⟩,.int .i64 0,.string ⟨#[]⟩]) 3 40 rfl (by kernel_rfl) N (by omega) (by omega) W
 simp only[maxLen] at hcm
 have b0:=Blk.new w 97 (madeCells (Value.agg #[.string ⟨#[]⟩,.int .i64 0,.string ⟨#[]⟩]).cells (N * 3)).toList
 have hB0:Below w.heap.size w (w.alloc (.cells (madeCells (Value.agg #[.string ⟨#[]⟩,.int .i64 0,.string ⟨#[]⟩]).cells (N * 3)).toList.toArray 97)):=(zA _ w).alloc (zW _) _
 have hl0:=made_len (Value.agg #[.string ⟨#[]⟩,.int .i64 0,.string ⟨#[]⟩]).cells (N * 3)
 go_enter Tryz.func118,Tryz.ntmps118
 go_wp2
 go_loopw [13] (fun iv w'=>∃ (i:Nat) (ds ts:List Value),i≤N∧iv=.int .i64 (i:Int)∧Below w.heap.size w w'∧Blk w' w.heap.size 97 (ds++ts)∧Hid (ds.length=i * 3∧ts.length=(N - i) * 3 ∧
  Chunks 3 (rFld (fun b=>w.heap.size<b∧b<w'.heap.size) w') ds (l.take i))) (fun iv _=>N - (intOf iv).toNat)
 case atStart=>exact⟨0,[],_,by omega,rfl,hB0,b0,zZ ⟨by simp,by rw[hl0];simp,by rw[List.take_zero];exact Chunks.nil⟩⟩
 case round=>
  rename_i iv wr
  obtain⟨i,ds,ts,hi,rfl,hB,b1,hr⟩:=hrel
  clear b0 hB0 hl0 hmk
  by_cases hin:i<N
  ·obtain⟨hr1,hr2,hr3⟩:=hr.out
   obtain⟨z0,z1,z2,r,rfl,hrl⟩:=cons3 (n:=N - i - 1) (by rw[hr2];congr 1;omega)
   have hli:l[i]?=some l[i]:=zV (by omega)
   obtain⟨b,off,sx,tx,rfl,hb,hx0,hx1,hx2,hs,ht,hsm,htm,hk⟩:=fld_at (flds_below hB h) hli
   have hil:(i:Int)<(N:Int):=by omega
   have hi0:(0:Int)≤(i:Int):=by omega
   have hq1:sx.size≤281474976710656:=by rw[← byt_length,hs];exact (htl _ (List.getElem_mem _)).1
   have hq2:tx.size≤281474976710656:=by rw[← byt_length,ht];exact (htl _ (List.getElem_mem _)).2
   have T1:=zZ (fun W (hW:Below wr.heap.size wr W)=>have _:=hW;copyField_any sx tx l[i].2.1 W hq1 hq2)
   have Htk:=zZ (take_at hli)
   have Hr:=zZ hr
   have Hr3:=zZ hr3
   have HB:=zZ hB
   have Hl:=zZ hli
   clear hr hr2 hr3 hB h hli
   have hB1:∀ u,Below wr.heap.size wr (wr.alloc (.cells u 97)):=fun u=>(zA _ wr).alloc (zW _) _
   generalize l[i]=f at *
   go_wp2_with fail
   refine (T1.out _ (hB1 _)).mono ?_
   rintro e w1 ⟨rfl,hB2⟩
   have hC:=(hB1 #[.string sx,.int .i64 f.2.1,.string tx]).trans (hB2.mono (hB1 _).size)
   have b2:=b1.to hC
   have f0:=b2.frozen (i * 3)
   have e0:=b2.cell (j:=i * 3) (u:=z0) (at_end0 hr1)
   have f1:=b2.frozen (i * 3+1)
   have e1:=b2.cell (j:=i * 3+1) (u:=z1) (at_end hr1 1)
   have f2:=b2.frozen (i * 3+2)
   have e2:=b2.cell (j:=i * 3+2) (u:=z2) (at_end hr1 2)
   go_wp2
   go_roundw
   case rel=>
    have P4:=(((b2).set (i * 3) (.string sx)).set (i * 3+1) (.int .i64 f.2.1)).set (i * 3+2) (.string tx)
    rw[set_mid3 hr1] at P4
    refine⟨i+1,_,r,by omega,by go_num,((((HB.out.trans (hC.mono HB.out.size)).setCell (p:=⟨w.heap.size,i * 3,none⟩) (by simp) (.string sx)).setCell (p:=⟨w.heap.size,i * 3+1,none⟩) (by simp) (.int .i64 f.2.1)).setCell (p:=⟨w.heap.size,i * 3+2,none⟩) (by simp) (.string tx)),P4,zZ ⟨by simp[hr1];omega,by rw[hrl];congr 1,?_⟩⟩
    rw[Htk.out]
    refine Chunks.append (Hr3.out.imp fun cs a hq=>rFld_stays.to (Keeps.mono fun _ h=>h) hq) (Chunks.one rfl ?_)
    exact rFld_mk hs ht hsm htm (WalkArith.wf_i64 hk)
   case measure=>simp[intOf];omega
  ·obtain rfl:i=N:=by omega
   obtain⟨hr1,hr2,hr3⟩:=hr.out
   have ht0:ts=[]:=List.eq_nil_of_length_eq_zero (by rw[hr2];simp)
   subst ht0
   rw[List.append_nil] at b1
   rw[List.take_of_length_le (by omega)] at hr3
   have Hr3:=zZ hr3
   clear hr3 hr2 hr1 hr h
   go_wp2
   go_ret
   exact⟨ds,rfl,b1,Hr3.out,hB⟩
theorem copyType_any (s:ByteArray) (A:Option Addr) (N c:Nat) (l:List Fld) (w:World) (h:rFlds (All w) w [.slice A N c] l) (hs:s.size≤281474976710656) (hNl:N≤7036874417766) (htl:∀ f∈l,f.1.length≤281474976710656∧f.2.2.length≤281474976710656):
  Calls Tryz.prog 79 #[.agg #[.string s,.slice A N c]] w fun e w'=>∃ b cs,e=.returned (.agg #[.string s,.slice (some ⟨b,0,none⟩) N N])∧(w.heap.size<b∧b<w'.heap.size)∧Blk w' b 97 cs∧Chunks 3 (rFld (fun _=>True) w') cs l∧Below w.heap.size w w':=by
 obtain⟨p1,p2⟩:=blk_two w 82 82 [.string s,.slice A N c] [.string ⟨#[]⟩,.slice none 0 0]
 have hB0:Below w.heap.size w ((w.alloc (.cells #[.string s,.slice A N c] 82)).alloc (.cells #[.string ⟨#[]⟩,.slice none 0 0] 82)):=((zA _ w).alloc (zW _) _).alloc (by simp) _
 have T1:=zZ (fun W (hW:Below w.heap.size w W)=>have _:=hW;sclone_any s W hs)
 have T2:=zZ (fun W (hW:Below w.heap.size w W)=>eachF_any A N c l W (flds_below hW h) hNl htl)
 have S0:=And.intro (p1.cell (j:=0) rfl) (p1.cell (j:=1) rfl)
 have l1:=p1.lt
 have s0:((w.alloc (.cells #[.string s,.slice A N c] 82)).alloc (.cells #[.string ⟨#[]⟩,.slice none 0 0] 82)).heap.size=w.heap.size+2:=by simp
 have HB0:=zZ hB0
 have P2:=zZ p2
 clear p1 p2 hB0
 go_enter Tryz.func79,Tryz.ntmps79
 go_wp2
 generalize (w.alloc (.cells #[.string s,.slice A N c] 82)).alloc (.cells #[.string ⟨#[]⟩,.slice none 0 0] 82)=w0 at *
 refine sch_start [(0,true),(1,true),(3,true),(4,true),(2,false),(5,false),(6,true),(7,false)]
  (fun W=>W.cell? ⟨w.heap.size,0,none⟩=some (.string s)∧W.cell? ⟨w.heap.size,1,none⟩=some (.slice A N c)) (by kernel_rfl) rfl (by kernel_rfl) (fun _ _ _ _ _ h=>h) S0 (fun hH=>?_)
 have hC0:Below w0.heap.size w0 w0.drew:=(zA w0.heap.size w0).drew
 repeat (first | (refine sch_yes (v:=?_) rfl rfl ?_ hH ?_;rotate_left;(focus ((rintro W ⟨hW0,hW1⟩;go_simp) <;> with_reducible rfl));simp only[Act.put,zY,zX,zQ]) | (refine sch_no rfl rfl hH ?_;simp only[Act.put,zY,zX,zQ]))
 refine sch_call rfl rfl (fun K hK=>?_)
 go_wp2_with (go_at_call 85;refine (T1.out _ (HB0.out.trans (hC0.mono HB0.out.size))).mono ?_;rintro e w1 ⟨rfl,hB1⟩)
 have hC1:Below w0.heap.size w0 w1:=hC0.trans (hB1.mono hC0.size)
 have S1:=And.intro ((hC1.cell (p:=⟨w.heap.size,0,none⟩) l1).trans S0.1) ((hC1.cell (p:=⟨w.heap.size,1,none⟩) l1).trans S0.2)
 refine hK.out _ _ S1 ?_
 clear hK hH
 have hH:=S1
 repeat (first | (refine sch_yes (v:=?_) rfl rfl ?_ hH ?_;rotate_left;(focus ((rintro W ⟨hW0,hW1⟩;go_simp) <;> with_reducible rfl));simp only[Act.put,zY,zX,zQ]) | (refine sch_no rfl rfl hH ?_;simp only[Act.put,zY,zX,zQ]))
 refine sch_call rfl rfl (fun K hK=>?_)
 go_wp2_with (go_at_call 118;refine (T2.out _ (HB0.out.trans (hC1.mono HB0.out.size))).mono ?_;rintro e w2 ⟨cs2,rfl,hb2,hch,hB2⟩)
 have hC2:Below w0.heap.size w0 w2:=hC1.trans (hB2.mono hC1.size)
 have hq1:w.heap.size+2≤w1.heap.size:=by rw[← s0];exact hC1.size
 have S2:=And.intro ((hC2.cell (p:=⟨w.heap.size,0,none⟩) l1).trans S0.1) ((hC2.cell (p:=⟨w.heap.size,1,none⟩) l1).trans S0.2)
 refine hK.out _ _ S2 ?_
 clear hK hH
 have hH:=S2
 repeat (first | (refine sch_yes (v:=?_) rfl rfl ?_ hH ?_;rotate_left;(focus ((rintro W ⟨hW0,hW1⟩;go_simp) <;> with_reducible rfl));simp only[Act.put,zY,zX,zQ]) | (refine sch_no rfl rfl hH ?_;simp only[Act.put,zY,zX,zQ]))
 refine sch_call rfl rfl (fun K hK=>?_)
 have P3:Blk w2 (w.heap.size+1) 82 [.string ⟨#[]⟩,.slice none 0 0]:=P2.out.to hC2
 have f0:=P3.frozen 0
 have d0:=P3.cell (j:=0) rfl
 have f1:=P3.frozen 1
 have d1:=P3.cell (j:=1) rfl
 go_wp2
 have P4:=((P3).set 0 (.string s)).set 1 (.slice (some ⟨w1.heap.size,0,none⟩) N N)
 refine hK.out _ _ (And.intro (far2 S2.1 (by omega)) (far2 S2.2 (by omega))) ?_
 clear hK hH
 refine sch_done ?_
 go_wp2
 refine ret_cell0 (d:=.struct _) (cs:=[.string s,.slice (some ⟨w1.heap.size,0,none⟩) N N]) rfl P4 rfl rfl rfl rfl rfl ?_
 have hBend:=(((HB0.out.trans (hC2.mono HB0.out.size)).setCell (p:=⟨w.heap.size+1,0,none⟩) (by simp) (.string s)).setCell (p:=⟨w.heap.size+1,1,none⟩) (by simp) (.slice (some ⟨w1.heap.size,0,none⟩) N N))
 exact⟨w1.heap.size,cs2,rfl,⟨by omega,by simpa using hb2.lt⟩,(hb2.other _ _ (by simp;omega)).other _ _ (by simp;omega),hch,hBend⟩
theorem eachT_any (A:Option Addr) (N c:Nat) (l:List Typ) (w:World) (h:rSch (All w) w [.slice A N c] l) (hNl:N≤7036874417766) (htl:∀ t∈l,t.1.length≤281474976710656∧t.2.length≤7036874417766∧∀ f∈t.2,f.1.length≤281474976710656∧f.2.2.length≤281474976710656):
  Calls Tryz.prog 78 #[.slice A N c,.func (.func 79) #[] #[]] w fun e w'=>∃ cs,e=.returned (.slice (some ⟨w.heap.size,0,none⟩) N N)∧Blk w' w.heap.size 82 cs ∧
   Chunks 2 (rTyp (fun b=>w.heap.size<b∧b<w'.heap.size) w') cs l∧Below w.heap.size w w':=by
 obtain⟨hN,hNc,hcm⟩:=slice_len h
 have hmk:=fun W=>made_run (P:=Tryz.prog) 22 82 (.agg #[.string ⟨#[]⟩,.slice none 0 0]) 2 40 rfl (by kernel_rfl) N (by omega) (by omega) W
 simp only[maxLen] at hcm
 have b0:=Blk.new w 82 (madeCells (Value.agg #[.string ⟨#[]⟩,.slice none 0 0]).cells (N * 2)).toList
 have hB0:Below w.heap.size w (w.alloc (.cells (madeCells (Value.agg #[.string ⟨#[]⟩,.slice none 0 0]).cells (N * 2)).toList.toArray 82)):=(zA _ w).alloc (zW _) _
 have hl0:=made_len (Value.agg #[.string ⟨#[]⟩,.slice none 0 0]).cells (N * 2)
 go_enter Tryz.func78,Tryz.ntmps78
 go_wp2
 go_loopw [13] (fun iv w'=>∃ (i:Nat) (ds ts:List Value),i≤N∧iv=.int .i64 (i:Int)∧Below w.heap.size w w'∧Blk w' w.heap.size 82 (ds++ts)∧Hid (ds.length=i * 2∧ts.length=(N - i) * 2 ∧
  Chunks 2 (rTyp (fun b=>w.heap.size<b∧b<w'.heap.size) w') ds (l.take i))) (fun iv _=>N - (intOf iv).toNat)
 case atStart=>exact⟨0,[],_,by omega,rfl,hB0,b0,zZ ⟨by simp,by rw[hl0];simp,by rw[List.take_zero];exact Chunks.nil⟩⟩
 case round=>
  rename_i iv wr
  obtain⟨i,ds,ts,hi,rfl,hB,b1,hr⟩:=hrel
  clear b0 hB0 hl0 hmk
  by_cases hin:i<N
  ·obtain⟨hr1,hr2,hr3⟩:=hr.out
   obtain⟨z0,z1,r,rfl,hrl⟩:=cons2 (n:=N - i - 1) (by rw[hr2];congr 1;omega)
   have hli:l[i]?=some l[i]:=zV (by omega)
   obtain⟨b,off,sx,A2,c2,rfl,hb,hx0,hx1,hs,hsm,hfl⟩:=typ_at (sch_below hB h) hli
   have hil:(i:Int)<(N:Int):=by omega
   have hi0:(0:Int)≤(i:Int):=by omega
   have hq1:sx.size≤281474976710656:=by rw[← byt_length,hs];exact (htl _ (List.getElem_mem _)).1
   have hq2:=(htl _ (List.getElem_mem (n:=i) (by omega))).2.1
   have hq3:=(htl _ (List.getElem_mem (n:=i) (by omega))).2.2
   have T1:=zZ (fun W (hW:Below wr.heap.size wr W)=>copyType_any sx A2 l[i].2.length c2 l[i].2 W (flds_below hW hfl) hq1 hq2 hq3)
   have Htk:=zZ (take_at hli)
   have Hr:=zZ hr
   have Hr3:=zZ hr3
   have HB:=zZ hB
   have Hl:=zZ hli
   clear hr hr2 hr3 hB h hli
   have hB1:∀ u,Below wr.heap.size wr (wr.alloc (.cells u 82)):=fun u=>(zA _ wr).alloc (zW _) _
   have hfm:=(slice_len hfl).2
   clear hfl
   generalize l[i]=f at *
   go_wp2_with fail
   refine (T1.out _ (hB1 _)).mono ?_
   rintro e w1 ⟨g2,cs2,rfl,hg2,hb2,hch,hB2⟩
   have hC:=(hB1 #[.string sx,.slice A2 f.2.length c2]).trans (hB2.mono (hB1 _).size)
   have b2:=b1.to hC
   have hgl:w.heap.size<g2:=Nat.lt_of_le_of_lt HB.out.size (Nat.lt_of_le_of_lt (hB1 #[.string sx,.slice A2 f.2.length c2]).size hg2.1)
   have f0:=b2.frozen (i * 2)
   have e0:=b2.cell (j:=i * 2) (u:=z0) (at_end0 hr1)
   have f1:=b2.frozen (i * 2+1)
   have e1:=b2.cell (j:=i * 2+1) (u:=z1) (at_end hr1 1)
   go_wp2
   go_roundw
   case rel=>
    have P4:=((b2).set (i * 2) (.string sx)).set (i * 2+1) (.slice (some ⟨g2,0,none⟩) f.2.length f.2.length)
    rw[set_mid2 hr1] at P4
    refine⟨i+1,_,r,by omega,by go_num,(((HB.out.trans (hC.mono HB.out.size)).setCell (p:=⟨w.heap.size,i * 2,none⟩) (by simp) (.string sx)).setCell (p:=⟨w.heap.size,i * 2+1,none⟩) (by simp) (.slice (some ⟨g2,0,none⟩) f.2.length f.2.length)),P4,zZ ⟨by simp[hr1];omega,by rw[hrl];congr 1,?_⟩⟩
    rw[Htk.out]
    refine Chunks.append (Hr3.out.imp fun cs a hq=>rTyp_stays.to (keep_set2 hC) hq) (Chunks.one rfl ?_)
    exact rTyp_mk hs hsm (blk_slice ((hb2.other _ _ (by simp;omega)).other _ _ (by simp;omega)) hch ⟨hgl,by simpa using hg2.2⟩ (Nat.le_trans hfm.1 hfm.2))
   case measure=>simp[intOf];omega
  ·obtain rfl:i=N:=by omega
   obtain⟨hr1,hr2,hr3⟩:=hr.out
   have ht0:ts=[]:=List.eq_nil_of_length_eq_zero (by rw[hr2];simp)
   subst ht0
   rw[List.append_nil] at b1
   rw[List.take_of_length_le (by omega)] at hr3
   have Hr3:=zZ hr3
   clear hr3 hr2 hr1 hr h
   go_wp2
   go_ret
   exact⟨ds,rfl,b1,Hr3.out,hB⟩
theorem copyVal_any (s:ByteArray) (n r:Int) (w:World) (hs:s.size≤281474976710656):
  Calls Tryz.prog 45 #[.agg #[.int .i64 n,.string s,.int .i64 r]] w fun e w'=>e=.returned (.agg #[.int .i64 n,.string s,.int .i64 r])∧Below w.heap.size w w':=by
 obtain⟨p1,p2⟩:=blk_two w 47 47 [.int .i64 n,.string s,.int .i64 r] [.int .i64 0,.string ⟨#[]⟩,.int .i64 0]
 have hB0:Below w.heap.size w ((w.alloc (.cells #[.int .i64 n,.string s,.int .i64 r] 47)).alloc (.cells #[.int .i64 0,.string ⟨#[]⟩,.int .i64 0] 47)):=((zA _ w).alloc (zW _) _).alloc (by simp) _
 have T1:=zZ (fun W (hW:Below w.heap.size w W)=>have _:=hW;sclone_any s W hs)
 have S0:=And.intro (p1.cell (j:=0) rfl) (And.intro (p1.cell (j:=1) rfl) (p1.cell (j:=2) rfl))
 have l1:=p1.lt
 have s0:((w.alloc (.cells #[.int .i64 n,.string s,.int .i64 r] 47)).alloc (.cells #[.int .i64 0,.string ⟨#[]⟩,.int .i64 0] 47)).heap.size=w.heap.size+2:=by simp
 have HB0:=zZ hB0
 have P2:=zZ p2
 clear p1 p2 hB0
 go_enter Tryz.func45,Tryz.ntmps45
 go_wp2
 generalize (w.alloc (.cells #[.int .i64 n,.string s,.int .i64 r] 47)).alloc (.cells #[.int .i64 0,.string ⟨#[]⟩,.int .i64 0] 47)=w0 at *
 refine sch_start [(0,true),(1,true),(2,true),(3,true),(5,true),(6,true),(4,false),(7,true),(8,false)]
  (fun W=>W.cell? ⟨w.heap.size,0,none⟩=some (.int .i64 n)∧W.cell? ⟨w.heap.size,1,none⟩=some (.string s)∧W.cell? ⟨w.heap.size,2,none⟩=some (.int .i64 r)) (by kernel_rfl) rfl (by kernel_rfl) (fun _ _ _ _ _ h=>h) S0 (fun hH=>?_)
 have hC0:Below w0.heap.size w0 w0.drew:=(zA w0.heap.size w0).drew
 repeat (first | (refine sch_yes (v:=?_) rfl rfl ?_ hH ?_;rotate_left;(focus ((rintro W ⟨hW0,hW1,hW2⟩;go_simp) <;> with_reducible rfl));simp only[Act.put,zY,zX,zQ]) | (refine sch_no rfl rfl hH ?_;simp only[Act.put,zY,zX,zQ]))
 refine sch_call rfl rfl (fun K hK=>?_)
 go_wp2_with (go_at_call 85;refine (T1.out _ (HB0.out.trans (hC0.mono HB0.out.size))).mono ?_;rintro e w1 ⟨rfl,hB1⟩)
 have hC1:Below w0.heap.size w0 w1:=hC0.trans (hB1.mono hC0.size)
 have S1:=And.intro ((hC1.cell (p:=⟨w.heap.size,0,none⟩) l1).trans S0.1) (And.intro ((hC1.cell (p:=⟨w.heap.size,1,none⟩) l1).trans S0.2.1) ((hC1.cell (p:=⟨w.heap.size,2,none⟩) l1).trans S0.2.2))
 refine hK.out _ _ S1 ?_
 clear hK hH
 have hH:=S1
 repeat (first | (refine sch_yes (v:=?_) rfl rfl ?_ hH ?_;rotate_left;(focus ((rintro W ⟨hW0,hW1,hW2⟩;go_simp) <;> with_reducible rfl));simp only[Act.put,zY,zX,zQ]) | (refine sch_no rfl rfl hH ?_;simp only[Act.put,zY,zX,zQ]))
 refine sch_call rfl rfl (fun K hK=>?_)
 have P3:Blk w1 (w.heap.size+1) 47 [.int .i64 0,.string ⟨#[]⟩,.int .i64 0]:=P2.out.to hC1
 have f0:=P3.frozen 0
 have d0:=P3.cell (j:=0) rfl
 have f1:=P3.frozen 1
 have d1:=P3.cell (j:=1) rfl
 have f2:=P3.frozen 2
 have d2:=P3.cell (j:=2) rfl
 go_wp2
 have P4:=(((P3).set 0 (.int .i64 n)).set 1 (.string s)).set 2 (.int .i64 r)
 refine hK.out _ _ (And.intro (far3 S1.1 (by omega)) (And.intro (far3 S1.2.1 (by omega)) (far3 S1.2.2 (by omega)))) ?_
 clear hK hH
 refine sch_done ?_
 go_wp2
 refine ret_cell0 (d:=.struct _) (cs:=[.int .i64 n,.string s,.int .i64 r]) rfl P4 rfl rfl rfl rfl rfl ?_
 have hBend:=((((HB0.out.trans (hC1.mono HB0.out.size)).setCell (p:=⟨w.heap.size+1,0,none⟩) (by simp) (.int .i64 n)).setCell (p:=⟨w.heap.size+1,1,none⟩) (by simp) (.string s)).setCell (p:=⟨w.heap.size+1,2,none⟩) (by simp) (.int .i64 r))
 exact⟨rfl,hBend⟩
theorem eachV_any (A:Option Addr) (N c:Nat) (l:List Vl) (w:World) (h:rVals (All w) w [.slice A N c] l) (hNl:N≤7036874417766) (htl:∀ v∈l,v.2.1.length≤281474976710656):
  Calls Tryz.prog 120 #[.slice A N c,.func (.func 45) #[] #[]] w fun e w'=>∃ cs,e=.returned (.slice (some ⟨w.heap.size,0,none⟩) N N)∧Blk w' w.heap.size 47 cs ∧
   Chunks 3 (rVal (fun b=>w.heap.size<b∧b<w'.heap.size) w') cs l∧Below w.heap.size w w':=by
 obtain⟨hN,hNc,hcm⟩:=slice_len h
 have hmk:=fun W=>made_run (P:=Tryz.prog) 51 47 (.agg #[.int .i64 0,.string ⟨#[]⟩,.int .i64 0]) 3 32 rfl (by kernel_rfl) N (by omega) (by omega) W
 simp only[maxLen] at hcm
 have b0:=Blk.new w 47 (madeCells (Value.agg #[.int .i64 0,.string ⟨#[]⟩,.int .i64 0]).cells (N * 3)).toList
 have hB0:Below w.heap.size w (w.alloc (.cells (madeCells (Value.agg #[.int .i64 0,.string ⟨#[]⟩,.int .i64 0]).cells (N * 3)).toList.toArray 47)):=(zA _ w).alloc (zW _) _
 have hl0:=made_len (Value.agg #[.int .i64 0,.string ⟨#[]⟩,.int .i64 0]).cells (N * 3)
 go_enter Tryz.func120,Tryz.ntmps120
 go_wp2
 go_loopw [13] (fun iv w'=>∃ (i:Nat) (ds ts:List Value),i≤N∧iv=.int .i64 (i:Int)∧Below w.heap.size w w'∧Blk w' w.heap.size 47 (ds++ts)∧Hid (ds.length=i * 3∧ts.length=(N - i) * 3 ∧
  Chunks 3 (rVal (fun b=>w.heap.size<b∧b<w'.heap.size) w') ds (l.take i))) (fun iv _=>N - (intOf iv).toNat)
 case atStart=>exact⟨0,[],_,by omega,rfl,hB0,b0,zZ ⟨by simp,by rw[hl0];simp,by rw[List.take_zero];exact Chunks.nil⟩⟩
 case round=>
  rename_i iv wr
  obtain⟨i,ds,ts,hi,rfl,hB,b1,hr⟩:=hrel
  clear b0 hB0 hl0 hmk
  by_cases hin:i<N
  ·obtain⟨hr1,hr2,hr3⟩:=hr.out
   obtain⟨z0,z1,z2,r,rfl,hrl⟩:=cons3 (n:=N - i - 1) (by rw[hr2];congr 1;omega)
   have hli:l[i]?=some l[i]:=zV (by omega)
   obtain⟨b,off,sx,rfl,hb,hx0,hx1,hx2,hs,hsm,hk,hk2⟩:=val_at (vals_below hB h) hli
   have hil:(i:Int)<(N:Int):=by omega
   have hi0:(0:Int)≤(i:Int):=by omega
   have hq1:sx.size≤281474976710656:=by rw[← byt_length,hs];exact htl _ (List.getElem_mem _)
   have T1:=zZ (fun W (hW:Below wr.heap.size wr W)=>have _:=hW;copyVal_any sx l[i].1 l[i].2.2 W hq1)
   have Htk:=zZ (take_at hli)
   have Hr:=zZ hr
   have Hr3:=zZ hr3
   have HB:=zZ hB
   have Hl:=zZ hli
   clear hr hr2 hr3 hB h hli
   have hB1:∀ u,Below wr.heap.size wr (wr.alloc (.cells u 47)):=fun u=>(zA _ wr).alloc (zW _) _
   generalize l[i]=f at *
   go_wp2_with fail
   refine (T1.out _ (hB1 _)).mono ?_
   rintro e w1 ⟨rfl,hB2⟩
   have hC:=(hB1 #[.int .i64 f.1,.string sx,.int .i64 f.2.2]).trans (hB2.mono (hB1 _).size)
   have b2:=b1.to hC
   have f0:=b2.frozen (i * 3)
   have e0:=b2.cell (j:=i * 3) (u:=z0) (at_end0 hr1)
   have f1:=b2.frozen (i * 3+1)
   have e1:=b2.cell (j:=i * 3+1) (u:=z1) (at_end hr1 1)
   have f2:=b2.frozen (i * 3+2)
   have e2:=b2.cell (j:=i * 3+2) (u:=z2) (at_end hr1 2)
   go_wp2
   go_roundw
   case rel=>
    have P4:=(((b2).set (i * 3) (.int .i64 f.1)).set (i * 3+1) (.string sx)).set (i * 3+2) (.int .i64 f.2.2)
    rw[set_mid3 hr1] at P4
    refine⟨i+1,_,r,by omega,by go_num,((((HB.out.trans (hC.mono HB.out.size)).setCell (p:=⟨w.heap.size,i * 3,none⟩) (by simp) (.int .i64 f.1)).setCell (p:=⟨w.heap.size,i * 3+1,none⟩) (by simp) (.string sx)).setCell (p:=⟨w.heap.size,i * 3+2,none⟩) (by simp) (.int .i64 f.2.2)),P4,zZ ⟨by simp[hr1];omega,by rw[hrl];congr 1,?_⟩⟩
    rw[Htk.out]
    refine Chunks.append (Hr3.out.imp fun cs a hq=>rVal_stays.to (Keeps.mono fun _ h=>h) hq) (Chunks.one rfl ?_)
    exact rVal_mk hs hsm (WalkArith.wf_i64 hk) (WalkArith.wf_i64 hk2)
   case measure=>simp[intOf];omega
  ·obtain rfl:i=N:=by omega
   obtain⟨hr1,hr2,hr3⟩:=hr.out
   have ht0:ts=[]:=List.eq_nil_of_length_eq_zero (by rw[hr2];simp)
   subst ht0
   rw[List.append_nil] at b1
   rw[List.take_of_length_le (by omega)] at hr3
   have Hr3:=zZ hr3
   clear hr3 hr2 hr1 hr h
   go_wp2
   go_ret
   exact⟨ds,rfl,b1,Hr3.out,hB⟩
theorem copyObj_any (n k:Int) (A:Option Addr) (N c:Nat) (l:List Vl) (w:World) (h:rVals (All w) w [.slice A N c] l) (hNl:N≤7036874417766) (htl:∀ v∈l,v.2.1.length≤281474976710656):
  Calls Tryz.prog 81 #[.agg #[.int .i64 n,.int .i64 k,.slice A N c]] w fun e w'=>∃ b cs,e=.returned (.agg #[.int .i64 n,.int .i64 k,.slice (some ⟨b,0,none⟩) N N])∧(w.heap.size<b∧b<w'.heap.size)∧Blk w' b 47 cs∧Chunks 3 (rVal (fun _=>True) w') cs l∧Below w.heap.size w w':=by
 obtain⟨p1,p2⟩:=blk_two w 53 53 [.int .i64 n,.int .i64 k,.slice A N c] [.int .i64 0,.int .i64 0,.slice none 0 0]
 have hB0:Below w.heap.size w ((w.alloc (.cells #[.int .i64 n,.int .i64 k,.slice A N c] 53)).alloc (.cells #[.int .i64 0,.int .i64 0,.slice none 0 0] 53)):=((zA _ w).alloc (zW _) _).alloc (by simp) _
 have T1:=zZ (fun W (hW:Below w.heap.size w W)=>eachV_any A N c l W (vals_below hW h) hNl htl)
 have S0:=And.intro (p1.cell (j:=0) rfl) (And.intro (p1.cell (j:=1) rfl) (p1.cell (j:=2) rfl))
 have l1:=p1.lt
 have s0:((w.alloc (.cells #[.int .i64 n,.int .i64 k,.slice A N c] 53)).alloc (.cells #[.int .i64 0,.int .i64 0,.slice none 0 0] 53)).heap.size=w.heap.size+2:=by simp
 have HB0:=zZ hB0
 have P2:=zZ p2
 clear p1 p2 hB0
 go_enter Tryz.func81,Tryz.ntmps81
 go_wp2
 generalize (w.alloc (.cells #[.int .i64 n,.int .i64 k,.slice A N c] 53)).alloc (.cells #[.int .i64 0,.int .i64 0,.slice none 0 0] 53)=w0 at *
 refine sch_start [(0,true),(1,true),(2,true),(3,true),(4,true),(5,true),(6,false),(7,true),(8,false)]
  (fun W=>W.cell? ⟨w.heap.size,0,none⟩=some (.int .i64 n)∧W.cell? ⟨w.heap.size,1,none⟩=some (.int .i64 k)∧W.cell? ⟨w.heap.size,2,none⟩=some (.slice A N c)) (by kernel_rfl) rfl (by kernel_rfl) (fun _ _ _ _ _ h=>h) S0 (fun hH=>?_)
 have hC0:Below w0.heap.size w0 w0.drew:=(zA w0.heap.size w0).drew
 have hd0:w0.drew.heap.size=w.heap.size+2:=s0
 repeat (first | (refine sch_yes (v:=?_) rfl rfl ?_ hH ?_;rotate_left;(focus ((rintro W ⟨hW0,hW1,hW2⟩;go_simp) <;> with_reducible rfl));simp only[Act.put,zY,zX,zQ]) | (refine sch_no rfl rfl hH ?_;simp only[Act.put,zY,zX,zQ]))
 refine sch_call rfl rfl (fun K hK=>?_)
 go_wp2_with (go_at_call 120;refine (T1.out _ (HB0.out.trans (hC0.mono HB0.out.size))).mono ?_;rintro e w1 ⟨cs2,rfl,hb2,hch,hB1⟩)
 have hC1:Below w0.heap.size w0 w1:=hC0.trans (hB1.mono hC0.size)
 rw[hd0] at hb2
 have S1:=And.intro ((hC1.cell (p:=⟨w.heap.size,0,none⟩) l1).trans S0.1) (And.intro ((hC1.cell (p:=⟨w.heap.size,1,none⟩) l1).trans S0.2.1) ((hC1.cell (p:=⟨w.heap.size,2,none⟩) l1).trans S0.2.2))
 refine hK.out _ _ S1 ?_
 clear hK hH
 have hH:=S1
 repeat (first | (refine sch_yes (v:=?_) rfl rfl ?_ hH ?_;rotate_left;(focus ((rintro W ⟨hW0,hW1,hW2⟩;go_simp) <;> with_reducible rfl));simp only[Act.put,zY,zX,zQ]) | (refine sch_no rfl rfl hH ?_;simp only[Act.put,zY,zX,zQ]))
 refine sch_call rfl rfl (fun K hK=>?_)
 have P3:Blk w1 (w.heap.size+1) 53 [.int .i64 0,.int .i64 0,.slice none 0 0]:=P2.out.to hC1
 have f0:=P3.frozen 0
 have d0:=P3.cell (j:=0) rfl
 have f1:=P3.frozen 1
 have d1:=P3.cell (j:=1) rfl
 have f2:=P3.frozen 2
 have d2:=P3.cell (j:=2) rfl
 go_wp2
 have P4:=(((P3).set 0 (.int .i64 n)).set 1 (.int .i64 k)).set 2 (.slice (some ⟨w.heap.size+2,0,none⟩) N N)
 refine hK.out _ _ (And.intro (far3 S1.1 (by omega)) (And.intro (far3 S1.2.1 (by omega)) (far3 S1.2.2 (by omega)))) ?_
 clear hK hH
 refine sch_done ?_
 go_wp2
 refine ret_cell0 (d:=.struct _) (cs:=[.int .i64 n,.int .i64 k,.slice (some ⟨w.heap.size+2,0,none⟩) N N]) rfl P4 rfl rfl rfl rfl rfl ?_
 have hBend:=((((HB0.out.trans (hC1.mono HB0.out.size)).setCell (p:=⟨w.heap.size+1,0,none⟩) (by simp) (.int .i64 n)).setCell (p:=⟨w.heap.size+1,1,none⟩) (by simp) (.int .i64 k)).setCell (p:=⟨w.heap.size+1,2,none⟩) (by simp) (.slice (some ⟨w.heap.size+2,0,none⟩) N N))
 exact⟨w.heap.size+2,cs2,rfl,⟨by omega,by simpa using hb2.lt⟩,((hb2.other _ _ (by simp)).other _ _ (by simp)).other _ _ (by simp),hch,hBend⟩
theorem eachO_any (A:Option Addr) (N c:Nat) (l:List Ob) (w:World) (h:rObs (All w) w [.slice A N c] l) (hNl:N≤7036874417766) (htl:∀ o∈l,o.2.2.length≤7036874417766∧∀ v∈o.2.2,v.2.1.length≤281474976710656):
  Calls Tryz.prog 80 #[.slice A N c,.func (.func 81) #[] #[]] w fun e w'=>∃ cs,e=.returned (.slice (some ⟨w.heap.size,0,none⟩) N N)∧Blk w' w.heap.size 53 cs ∧
   ObDone w.heap.size w' cs l∧Below w.heap.size w w':=by
 obtain⟨hN,hNc,hcm⟩:=slice_len h
 have hmk:=fun W=>made_run (P:=Tryz.prog) 25 53 (.agg #[.int .i64 0,.int .i64 0,.slice none 0 0]) 3 40 rfl (by kernel_rfl) N (by omega) (by omega) W
 simp only[maxLen] at hcm
 have b0:=Blk.new w 53 (madeCells (Value.agg #[.int .i64 0,.int .i64 0,.slice none 0 0]).cells (N * 3)).toList
 have hB0:Below w.heap.size w (w.alloc (.cells (madeCells (Value.agg #[.int .i64 0,.int .i64 0,.slice none 0 0]).cells (N * 3)).toList.toArray 53)):=(zA _ w).alloc (zW _) _
 have hl0:=made_len (Value.agg #[.int .i64 0,.int .i64 0,.slice none 0 0]).cells (N * 3)
 go_enter Tryz.func80,Tryz.ntmps80
 go_wp2
 go_loopw [13] (fun iv w'=>∃ (i:Nat) (ds ts:List Value),i≤N∧iv=.int .i64 (i:Int)∧Below w.heap.size w w'∧Blk w' w.heap.size 53 (ds++ts)∧Hid (ds.length=i * 3∧ts.length=(N - i) * 3 ∧
  ObDone w.heap.size w' ds (l.take i))) (fun iv _=>N - (intOf iv).toNat)
 case atStart=>exact⟨0,[],_,by omega,rfl,hB0,b0,zZ ⟨by simp,by rw[hl0];simp,by rw[List.take_zero];exact ObDone.nil⟩⟩
 case round=>
  rename_i iv wr
  obtain⟨i,ds,ts,hi,rfl,hB,b1,hr⟩:=hrel
  clear b0 hB0 hl0 hmk
  by_cases hin:i<N
  ·obtain⟨hr1,hr2,hr3⟩:=hr.out
   obtain⟨z0,z1,z2,r,rfl,hrl⟩:=cons3 (n:=N - i - 1) (by rw[hr2];congr 1;omega)
   have hli:l[i]?=some l[i]:=zV (by omega)
   obtain⟨b,off,A2,c2,rfl,hb,hx0,hx1,hx2,hfl,hk,hk2⟩:=ob_at (obs_below hB h) hli
   have hil:(i:Int)<(N:Int):=by omega
   have hi0:(0:Int)≤(i:Int):=by omega
   have hq2:=(htl _ (List.getElem_mem (n:=i) (by omega))).1
   have hq3:=(htl _ (List.getElem_mem (n:=i) (by omega))).2
   have T1:=zZ (fun W (hW:Below wr.heap.size wr W)=>copyObj_any l[i].1 l[i].2.1 A2 l[i].2.2.length c2 l[i].2.2 W (vals_below hW hfl) hq2 hq3)
   have Htk:=zZ (take_at hli)
   have Hr:=zZ hr
   have Hr3:=zZ hr3
   have HB:=zZ hB
   have Hl:=zZ hli
   clear hr hr2 hr3 hB h hli
   have hB1:∀ u,Below wr.heap.size wr (wr.alloc (.cells u 53)):=fun u=>(zA _ wr).alloc (zW _) _
   have hfm:=(slice_len hfl).2
   clear hfl
   generalize l[i]=f at *
   go_wp2_with fail
   refine (T1.out _ (hB1 _)).mono ?_
   rintro e w1 ⟨g2,cs2,rfl,hg2,hb2,hch,hB2⟩
   have hC:=(hB1 #[.int .i64 f.1,.int .i64 f.2.1,.slice A2 f.2.2.length c2]).trans (hB2.mono (hB1 _).size)
   have b2:=b1.to hC
   have hgl:w.heap.size<g2:=Nat.lt_of_le_of_lt HB.out.size (Nat.lt_of_le_of_lt (hB1 #[.int .i64 f.1,.int .i64 f.2.1,.slice A2 f.2.2.length c2]).size hg2.1)
   have f0:=b2.frozen (i * 3)
   have e0:=b2.cell (j:=i * 3) (u:=z0) (at_end0 hr1)
   have f1:=b2.frozen (i * 3+1)
   have e1:=b2.cell (j:=i * 3+1) (u:=z1) (at_end hr1 1)
   have f2:=b2.frozen (i * 3+2)
   have e2:=b2.cell (j:=i * 3+2) (u:=z2) (at_end hr1 2)
   go_wp2
   go_roundw
   case rel=>
    have P4:=(((b2).set (i * 3) (.int .i64 f.1)).set (i * 3+1) (.int .i64 f.2.1)).set (i * 3+2) (.slice (some ⟨g2,0,none⟩) f.2.2.length f.2.2.length)
    rw[set_mid3 hr1] at P4
    refine⟨i+1,_,r,by omega,by go_num,((((HB.out.trans (hC.mono HB.out.size)).setCell (p:=⟨w.heap.size,i * 3,none⟩) (by simp) (.int .i64 f.1)).setCell (p:=⟨w.heap.size,i * 3+1,none⟩) (by simp) (.int .i64 f.2.1)).setCell (p:=⟨w.heap.size,i * 3+2,none⟩) (by simp) (.slice (some ⟨g2,0,none⟩) f.2.2.length f.2.2.length)),P4,zZ ⟨by simp[hr1];omega,by rw[hrl];congr 1,?_⟩⟩
    rw[Htk.out]
    exact ObDone.add Hr3.out (keep_set3 hC) (Nat.le_trans (hB1 #[.int .i64 f.1,.int .i64 f.2.1,.slice A2 f.2.2.length c2]).size (Nat.le_of_lt hg2.1)) hgl (by simpa using hg2.2) ⟨WalkArith.wf_i64 hk,WalkArith.wf_i64 hk2,Nat.le_trans hfm.1 hfm.2,cs2,((hb2.other _ _ (by simp;omega)).other _ _ (by simp;omega)).other _ _ (by simp;omega),hch⟩
   case measure=>simp[intOf];omega
  ·obtain rfl:i=N:=by omega
   obtain⟨hr1,hr2,hr3⟩:=hr.out
   have ht0:ts=[]:=List.eq_nil_of_length_eq_zero (by rw[hr2];simp)
   subst ht0
   rw[List.append_nil] at b1
   rw[List.take_of_length_le (by omega)] at hr3
   have Hr3:=zZ hr3
   clear hr3 hr2 hr1 hr h
   go_wp2
   go_ret
   exact⟨ds,rfl,b1,Hr3.out,hB⟩
def ints (l:List Int):List Value:=l.map (Value.int .i64)
theorem lit_ints (w:World) (l:List Int):Rd (w.alloc (.cells (ints l).toArray 3)) (some ⟨w.heap.size,0,none⟩) (ints l):=
 .inr ⟨w.heap.size,0,rfl,by simp,fun j u hu=>by
  rw[World.cell?_alloc_at _ _ _ _ rfl,Nat.zero_add]
  simpa using hu⟩
theorem ints_append (a b:List Int):ints (a++b)=ints a++ints b:=by simp[ints]
@[simp] theorem ints_length (l:List Int):(ints l).length=l.length:=by simp[ints]
theorem ints_one (l:List Int):∀ u∈ints l,u.oneCell'=true:=by
 intro u hu
 obtain⟨x,_,rfl⟩:=List.mem_map.1 hu
 rfl
theorem chunks_ints:∀ {l:List Int} {xs:List Value},Chunks 1 (fun cs n=>cs=[.int .i64 n]∧(Lit.int .i64 n).wf=true) xs l↔xs=ints l∧∀ n∈l,(Lit.int .i64 n).wf=true:=by
 intro l xs
 constructor
 ·intro ⟨h1,h2⟩
  have h1':xs.length=l.length:=by simpa using h1
  have hx:∀ (i:Nat) (a:Int),l[i]?=some a→xs[i]?=some (.int .i64 a)∧(Lit.int .i64 a).wf=true:=fun i a ha=>by
   obtain⟨e,hw⟩:=h2 i a ha
   rw[Nat.mul_one] at e
   have:=congrArg (·[0]?) e
   simp only[List.getElem?_take,List.getElem?_drop,Nat.add_zero,Nat.zero_lt_one,if_true,List.getElem?_cons_zero] at this
   exact⟨this,hw⟩
  refine⟨List.ext_getElem? fun i=>?_,fun n hn=>?_⟩
  ·by_cases hi:i<l.length
   ·rw[(hx i l[i] (zV hi)).1];simp[ints,hi]
   ·rw[List.getElem?_eq_none (by omega),List.getElem?_eq_none (by simp;omega)]
  ·obtain⟨i,hi⟩:=List.getElem?_of_mem hn
   exact (hx i n hi).2
 ·rintro⟨rfl,h⟩
  refine⟨by simp,fun i a ha=>⟨?_,h a (List.mem_of_getElem? ha)⟩⟩
  have hlt:=(List.getElem?_eq_some_iff.1 ha).1
  rw[Nat.mul_one,List.drop_eq_getElem_cons (by simpa using hlt)]
  simp[ints,(List.getElem?_eq_some_iff.1 ha).2]
theorem ids_rd {w:World} {A:Option Addr} {n c:Nat} {l:List Int} (h:rIds (All w) w [.slice A n c] l):Rd w A (ints l)∧∀ n∈l,(Lit.int .i64 n).wf=true:=by
 obtain⟨A1,c1,xs,hv,_,_,hr,hc⟩:=h
 obtain⟨rfl,hw⟩:=chunks_ints.1 hc
 have hA:A=A1:=by simp at hv;exact hv.1
 subst hA
 exact⟨hr,hw⟩
theorem ids_own {w:World} {base n:Nat} {A:Option Addr} {c:Nat} {l:List Int} (h:w.ownsRow base 3 1 (.slice A n c) n (ints l)) (hn:l.length=n) (hw:∀ n∈l,(Lit.int .i64 n).wf=true):rIds (fun b=>base≤b∧b<w.heap.size) w [.slice A n c] l:=by
 obtain⟨A1,c1,hv,h1,h2,h3⟩:=own_in h
 injection hv with e1 e2 e3
 subst e1 e3 hn
 exact⟨A,c,_,rfl,h1,h2,h3,chunks_ints.2 ⟨rfl,hw⟩⟩
theorem iclone_any (A:Option Addr) (N c:Nat) (l:List Int) (w:World) (h:rIds (All w) w [.slice A N c] l) (hN:N≤17592186044416):
  Calls Tryz.prog 82 #[.slice A N c] w fun e w'=>∃ A1 c1,e=.returned (.slice A1 N c1)∧w'.ownsRow w.heap.size 3 1 (.slice A1 N c1) N (ints l)∧Below w.heap.size w w':=by
 obtain⟨hl,_,_⟩:=slice_len h
 obtain⟨i0,hi,hz0,hz1,hz2⟩:=info_parts info_int
 have hr:=(ids_rd h).1
 clear h
 cases A with
 | none=>
  have h0:l=[]:=by
   rcases hr with h | ⟨_,_,h,_⟩
   ·exact List.eq_nil_of_length_eq_zero (by simpa using congrArg List.length h)
   ·cases h
  subst h0
  obtain rfl:N=0:=by simpa using hl.symm
  have hq:=fun W:World=>Lib.run_eql_slice_nil (P:=Tryz.prog) W 26 3 none 0 c 0 0 rfl
  go_enter Tryz.func82,Tryz.ntmps82
  go_wp2
  go_ret
  exact⟨none,0,rfl,World.ownsRow_nil _ _ _ _,zA _ _⟩
 | some a=>
  have hq:=fun W:World=>Lib.run_eql_slice_nil (P:=Tryz.prog) W 26 3 (some a) N c 0 0 rfl
  have hB0:Below w.heap.size w (w.alloc (.cells #[] 3)):=(zA _ w).alloc (zW _) _
  have hown:(w.alloc (.cells #[] 3)).ownsRow w.heap.size 3 1 (.slice (some ⟨w.heap.size,0,none⟩) 0 0) 0 []:=
   ⟨rfl,.inr ⟨w.heap.size,0,#[],rfl,zW _,heap_alloc_new w _,zW _,by simp[maxLen],rfl,rfl⟩⟩
  have hr0:=hr.below hB0
  have Hown:=zZ hown
  clear hown hr
  go_enter Tryz.func82,Tryz.ntmps82
  go_wp2_with (first | (at_builtin;refine wpList_app rfl _ _ 26 rfl w.heap.size 3 i0 (.int .i64 0) 8 rfl hi hz0 hz1 hz2 rfl _ 0 [] rfl Hown.out (some a) N c (ints l) rfl (by simpa using hl) hr0 (ints_one l) (by simp only[maxLen];omega) (by omega) (by simp) ?_;intro v1 w1 hown1 hg1 hv1) | fail)
  obtain⟨A1,c1,hv,_⟩:=own_slice hown1
  rw[Nat.zero_add] at hv hown1
  subst hv
  go_ret
  exact⟨A1,c1,rfl,by simpa using hown1,hB0.grown hg1 (by simp) (fun k hk=>by injection hk with hk;exact Nat.le_of_eq hk)⟩
def ObIn (lo hi:Nat) (w:World) (ds:List Value) (os:List Ob):Prop:=∃ bs:List Nat,ds=obCells os bs∧os.length=bs.length∧bs.Pairwise (·<·)∧∀ (i:Nat) o b,os[i]?=some o→bs[i]?=some b→lo<b∧b<hi∧OwnF w b o
theorem ObIn.keep {lo hi:Nat} {w w':World} {ds:List Value} {os:List Ob} (h:ObIn lo hi w ds os) (hk:∀ b,lo<b→b<hi→w'.heap[b]?=w.heap[b]?):ObIn lo hi w' ds os:=by
 obtain⟨bs,h1,h2,h3,h4⟩:=h
 refine⟨bs,h1,h2,h3,fun i o b ho hb=>?_⟩
 obtain⟨h5,h6,h7⟩:=h4 i o b ho hb
 exact⟨h5,h6,h7.keep (hk b h5 h6)⟩
theorem ObIn.chunks {lo hi:Nat} {w:World} {ds:List Value} {os:List Ob} (h:ObIn lo hi w ds os):Chunks 3 (rOb (fun b=>lo<b∧b<hi) w) ds os:=by
 obtain⟨bs,rfl,h2,-,h4⟩:=h
 induction os generalizing bs with
 | nil=>cases bs with
  | nil=>exact Chunks.nil
  | cons b bs=>simp at h2
 | cons o os ih=>cases bs with
  | nil=>simp at h2
  | cons b bs=>
   obtain⟨h5,h6,h7,h8,h9,vs,h10,h11⟩:=h4 0 o b rfl rfl
   have h12:=ih bs (by simpa using h2) (fun i p c hp hc=>h4 (i+1) p c (by simpa using hp) (by simpa using hc))
   exact Chunks.append (xs:=[.int .i64 o.1,.int .i64 o.2.1,.slice (some ⟨b,0,none⟩) o.2.2.length o.2.2.length]) (l:=[o]) (Chunks.one rfl (rOb_mk h7 h8 (blk_slice h10 h11 ⟨h5,h6⟩ h9))) h12
structure OwnG (H:Nat) (w:World) (g:Gr) (b1 b2 m:Nat) (v:Value):Prop where
 low:H≤b1
 one:b1<b2
 two:b2<m
 top:m≤w.heap.size
 sch:rSch (fun b=>b1≤b∧b<b2) w [.slice (some ⟨b1,0,none⟩) g.1.length g.1.length] g.1
 obs:∃ ds,Blk w b2 53 ds∧ObIn b2 m w ds g.2.1
 len:g.2.1.length≤maxLen
 ids:w.ownsRow m 3 1 v g.2.2.length (ints g.2.2)
 wf:∀ n∈g.2.2,(Lit.int .i64 n).wf=true
theorem own_keep {w w':World} {base e size n:Nat} {v:Value} {xs:List Value} (h:w.ownsRow base e size v n xs) (hk:∀ b,base≤b→b<w.heap.size→w'.heap[b]?=w.heap[b]?):w'.ownsRow base e size v n xs:=by
 refine⟨h.1,?_⟩
 rcases h.2 with h | ⟨g,cap,cur,h1,h2,h3,h4⟩
 ·exact .inl h
 ·exact .inr ⟨g,cap,cur,h1,h2,(hk g h2 (Array.getElem?_eq_some_iff.1 h3).1).trans h3,h4⟩
section
variable {H b1 b2 m : Nat} {w w' : World} {g : Gr} {v : Value}
theorem OwnG.keep (h:OwnG H w g b1 b2 m v) (hs:w.heap.size≤w'.heap.size) (hk:∀ b,H≤b→b<w.heap.size→w'.heap[b]?=w.heap[b]?):OwnG H w' g b1 b2 m v:=by
 obtain⟨ds,h1,h2⟩:=h.obs
 have:=h.low;have:=h.one;have:=h.two;have:=h.top
 exact⟨h.low,h.one,h.two,by omega,rSch_stays.to (fun b hb=>⟨hb,hk b (by omega) (by omega)⟩) h.sch,⟨ds,(hk b2 (by omega) (by omega)).trans h1,h2.keep fun b h3 h4=>hk b (by omega) (by omega)⟩,h.len,
  own_keep h.ids fun b h3 h4=>hk b (by omega) h4,h.wf⟩
theorem OwnG.below (h:OwnG H w g b1 b2 m v) (hB:Below w.heap.size w w'):OwnG H w' g b1 b2 m v:=h.keep hB.size fun b _ hb=>hB.block b hb
theorem OwnG.lower {H':Nat} (h:OwnG H w g b1 b2 m v) (hH:H'≤H):OwnG H' w g b1 b2 m v:=⟨Nat.le_trans hH h.low,h.one,h.two,h.top,h.sch,h.obs,h.len,h.ids,h.wf⟩
theorem OwnG.make {w1 w2:World} {cs1 cs2:List Value} (hH:H≤b1) (p1:Blk w1 b1 82 cs1) (q1:Chunks 2 (rTyp (fun b=>b1<b∧b<w1.heap.size) w1) cs1 g.1) (hB2:Below w1.heap.size w1 w2) (p2:Blk w2 w1.heap.size 53 cs2)
  (q2:ObDone w1.heap.size w2 cs2 g.2.1) (hB3:Below w2.heap.size w2 w) (q3:w.ownsRow w2.heap.size 3 1 v g.2.2.length (ints g.2.2)) (hw:∀ n∈g.2.2,(Lit.int .i64 n).wf=true) (h1:g.1.length≤maxLen) (h2:g.2.1.length≤maxLen):OwnG H w g b1 w1.heap.size w2.heap.size v:=by
 have a1:=p1.lt
 have a2:=p2.lt
 have a3:=hB3.size
 have hB:Below w1.heap.size w1 w:=hB2.trans (hB3.mono hB2.size)
 exact⟨hH,a1,a2,a3,rSch_stays.to (S:=fun b=>b1≤b∧b<w1.heap.size) (w:=w1) (fun b hb=>⟨hb,hB.block b hb.2⟩) (blk_slice p1 (q1.imp fun cs a hq=>rTyp_stays.to (Keeps.mono fun b hb=>⟨by omega,hb.2⟩) hq) ⟨zW _,a1⟩ h1),
  ⟨cs2,(hB3.block _ a2).trans p2,ObIn.keep (w:=w2) q2 fun b _ hb=>hB3.block b hb⟩,h2,q3,hw⟩
end
def tameG (g:Gr):Prop:=(g.1.length≤7036874417766∧∀ t∈g.1,t.1.length≤281474976710656∧t.2.length≤7036874417766∧∀ f∈t.2,f.1.length≤281474976710656∧f.2.2.length≤281474976710656) ∧
 (g.2.1.length≤7036874417766∧∀ o∈g.2.1,o.2.2.length≤7036874417766∧∀ v∈o.2.2,v.2.1.length≤281474976710656)∧g.2.2.length≤17592186044416
theorem copyGraph_any (A B C:Option Addr) (N c M d K e:Nat) (g:Gr) (w:World) (h:rGr (All w) w [.slice A N c,.slice B M d,.slice C K e] g) (ht:tameG g):
  Calls Tryz.prog 43 #[.agg #[.slice A N c,.slice B M d,.slice C K e]] w fun e w'=>∃ b1 b2 m A3 c3,e=.returned (.agg #[.slice (some ⟨b1,0,none⟩) N N,.slice (some ⟨b2,0,none⟩) M M,.slice A3 K c3])∧OwnG w.heap.size w' g b1 b2 m (.slice A3 K c3)∧Below w.heap.size w w':=by
 obtain⟨hN,hNc,hcm⟩:=slice_len (rGr_open h).1
 obtain⟨hM,hMd,hdm⟩:=slice_len (rGr_open h).2.1
 obtain⟨hK,hKe,hem⟩:=slice_len (rGr_open h).2.2
 have hwf:=(ids_rd (rGr_open h).2.2).2
 obtain⟨p1,p2⟩:=blk_two w 28 28 [.slice A N c,.slice B M d,.slice C K e] [.slice none 0 0,.slice none 0 0,.slice none 0 0]
 have hB0:Below w.heap.size w ((w.alloc (.cells #[.slice A N c,.slice B M d,.slice C K e] 28)).alloc (.cells #[.slice none 0 0,.slice none 0 0,.slice none 0 0] 28)):=((zA _ w).alloc (zW _) _).alloc (by simp) _
 have T1:=zZ (fun W (hW:Below w.heap.size w W)=>eachT_any A N c g.1 W (sch_below hW (rGr_open h).1) (hN ▸ ht.1.1) ht.1.2)
 have T2:=zZ (fun W (hW:Below w.heap.size w W)=>eachO_any B M d g.2.1 W (obs_below hW (rGr_open h).2.1) (hM ▸ ht.2.1.1) ht.2.1.2)
 have T3:=zZ (fun W (hW:Below w.heap.size w W)=>iclone_any C K e g.2.2 W (ids_below hW (rGr_open h).2.2) (hK ▸ ht.2.2))
 have S0:=And.intro (p1.cell (j:=0) rfl) (And.intro (p1.cell (j:=1) rfl) (p1.cell (j:=2) rfl))
 have l1:=p1.lt
 have s0:((w.alloc (.cells #[.slice A N c,.slice B M d,.slice C K e] 28)).alloc (.cells #[.slice none 0 0,.slice none 0 0,.slice none 0 0] 28)).heap.size=w.heap.size+2:=by simp
 have HB0:=zZ hB0
 have P2:=zZ p2
 clear p1 p2 hB0
 go_enter Tryz.func43,Tryz.ntmps43
 go_wp2
 generalize (w.alloc (.cells #[.slice A N c,.slice B M d,.slice C K e] 28)).alloc (.cells #[.slice none 0 0,.slice none 0 0,.slice none 0 0] 28)=w0 at *
 refine sch_start [(0,true),(1,true),(2,true),(5,true),(6,true),(8,true),(9,true),(3,false),(4,true),(7,false),(10,false),(11,true),(12,false)]
  (fun W=>W.cell? ⟨w.heap.size,0,none⟩=some (.slice A N c)∧W.cell? ⟨w.heap.size,1,none⟩=some (.slice B M d)∧W.cell? ⟨w.heap.size,2,none⟩=some (.slice C K e)) (by kernel_rfl) rfl (by kernel_rfl) (fun _ _ _ _ _ h=>h) S0 (fun hH=>?_)
 have hC0:Below w0.heap.size w0 w0.drew:=(zA w0.heap.size w0).drew
 have hd0:w0.drew.heap.size=w.heap.size+2:=s0
 repeat (first | (refine sch_yes (v:=?_) rfl rfl ?_ hH ?_;rotate_left;(focus ((rintro W ⟨hW0,hW1,hW2⟩;go_simp) <;> with_reducible rfl));simp only[Act.put,zY,zX,zQ]) | (refine sch_no rfl rfl hH ?_;simp only[Act.put,zY,zX,zQ]))
 refine sch_call rfl rfl (fun K' hK'=>?_)
 go_wp2_with (go_at_call 78;refine (T1.out _ (HB0.out.trans (hC0.mono HB0.out.size))).mono ?_;rintro e w1 ⟨cs1,rfl,hb1,hch1,hB1⟩)
 have hC1:Below w0.heap.size w0 w1:=hC0.trans (hB1.mono hC0.size)
 rw[hd0] at hb1 hch1
 have S1:=And.intro ((hC1.cell (p:=⟨w.heap.size,0,none⟩) l1).trans S0.1) (And.intro ((hC1.cell (p:=⟨w.heap.size,1,none⟩) l1).trans S0.2.1) ((hC1.cell (p:=⟨w.heap.size,2,none⟩) l1).trans S0.2.2))
 refine hK'.out _ _ S1 ?_
 clear hK' hH
 have hH:=S1
 repeat (first | (refine sch_yes (v:=?_) rfl rfl ?_ hH ?_;rotate_left;(focus ((rintro W ⟨hW0,hW1,hW2⟩;go_simp) <;> with_reducible rfl));simp only[Act.put,zY,zX,zQ]) | (refine sch_no rfl rfl hH ?_;simp only[Act.put,zY,zX,zQ]))
 refine sch_call rfl rfl (fun K' hK'=>?_)
 go_wp2_with (go_at_call 80;refine (T2.out _ (HB0.out.trans (hC1.mono HB0.out.size))).mono ?_;rintro e w2 ⟨cs2,rfl,hb2,hch2,hB2⟩)
 have hC2:Below w0.heap.size w0 w2:=hC1.trans (hB2.mono hC1.size)
 have S2:=And.intro ((hC2.cell (p:=⟨w.heap.size,0,none⟩) l1).trans S0.1) (And.intro ((hC2.cell (p:=⟨w.heap.size,1,none⟩) l1).trans S0.2.1) ((hC2.cell (p:=⟨w.heap.size,2,none⟩) l1).trans S0.2.2))
 refine hK'.out _ _ S2 ?_
 clear hK' hH
 have hH:=S2
 repeat (first | (refine sch_yes (v:=?_) rfl rfl ?_ hH ?_;rotate_left;(focus ((rintro W ⟨hW0,hW1,hW2⟩;go_simp) <;> with_reducible rfl));simp only[Act.put,zY,zX,zQ]) | (refine sch_no rfl rfl hH ?_;simp only[Act.put,zY,zX,zQ]))
 refine sch_call rfl rfl (fun K' hK'=>?_)
 go_wp2_with (go_at_call 82;refine (T3.out _ (HB0.out.trans (hC2.mono HB0.out.size))).mono ?_;rintro e w3 ⟨A3,c3,rfl,hown3,hB3⟩)
 have hC3:Below w0.heap.size w0 w3:=hC2.trans (hB3.mono hC2.size)
 have hG:=OwnG.make (H:=w.heap.size+2) (g:=g) (zW _) hb1 hch1 hB2 hb2 hch2 hB3 (by rw[hK];exact hown3) hwf (by omega) (by omega)
 have HG:=zZ hG
 clear hb1 hch1 hb2 hch2 hown3 hG
 have S3:=And.intro ((hC3.cell (p:=⟨w.heap.size,0,none⟩) l1).trans S0.1) (And.intro ((hC3.cell (p:=⟨w.heap.size,1,none⟩) l1).trans S0.2.1) ((hC3.cell (p:=⟨w.heap.size,2,none⟩) l1).trans S0.2.2))
 refine hK'.out _ _ S3 ?_
 clear hK' hH
 have hH:=S3
 repeat (first | (refine sch_yes (v:=?_) rfl rfl ?_ hH ?_;rotate_left;(focus ((rintro W ⟨hW0,hW1,hW2⟩;go_simp) <;> with_reducible rfl));simp only[Act.put,zY,zX,zQ]) | (refine sch_no rfl rfl hH ?_;simp only[Act.put,zY,zX,zQ]))
 refine sch_call rfl rfl (fun K' hK'=>?_)
 have P3:Blk w3 (w.heap.size+1) 28 [.slice none 0 0,.slice none 0 0,.slice none 0 0]:=P2.out.to hC3
 have f0:=P3.frozen 0
 have d0:=P3.cell (j:=0) rfl
 have f1:=P3.frozen 1
 have d1:=P3.cell (j:=1) rfl
 have f2:=P3.frozen 2
 have d2:=P3.cell (j:=2) rfl
 go_wp2
 have P4:=(((P3).set 0 (.slice (some ⟨w.heap.size+2,0,none⟩) N N)).set 1 (.slice (some ⟨w1.heap.size,0,none⟩) M M)).set 2 (.slice A3 K c3)
 refine hK'.out _ _ (And.intro (far3 S3.1 (by omega)) (And.intro (far3 S3.2.1 (by omega)) (far3 S3.2.2 (by omega)))) ?_
 clear hK' hH
 refine sch_done ?_
 go_wp2
 refine ret_cell0 (d:=.struct _) (cs:=[.slice (some ⟨w.heap.size+2,0,none⟩) N N,.slice (some ⟨w1.heap.size,0,none⟩) M M,.slice A3 K c3]) rfl P4 rfl rfl rfl rfl rfl ?_
 have hBend:=((((HB0.out.trans (hC3.mono HB0.out.size)).setCell (p:=⟨w.heap.size+1,0,none⟩) (by simp) (.slice (some ⟨w.heap.size+2,0,none⟩) N N)).setCell (p:=⟨w.heap.size+1,1,none⟩) (by simp) (.slice (some ⟨w1.heap.size,0,none⟩) M M)).setCell (p:=⟨w.heap.size+1,2,none⟩) (by simp) (.slice A3 K c3))
 refine⟨w.heap.size+2,w1.heap.size,w2.heap.size,A3,c3,rfl,(HG.out.keep (by simp) fun b hb _=>?_).lower (by omega),hBend⟩
 rw[Below.heap_setCell _ _ _ _ (by show b≠w.heap.size+1;omega),Below.heap_setCell _ _ _ _ (by show b≠w.heap.size+1;omega),Below.heap_setCell _ _ _ _ (by show b≠w.heap.size+1;omega)]
theorem may_len {n:List Nat} {s:ByteArray} (hs:byt s=n) (h:mayN n=true):n.length≤16:=by
 subst hs
 rw[byt_length]
 exact may_size h
theorem tame_may {S:Nat→Prop} {w:World} {A B C:Option Addr} {N c M d K e:Nat} {g:Gr} (h:rGr S w [.slice A N c,.slice B M d,.slice C K e] g) (hm:mayG g=true):tameG g:=by
 obtain⟨hs,ho,hr⟩:=rGr_open h
 obtain⟨m1,m2,m3,m4,m5⟩:=mayG_parts hm
 obtain⟨⟨s1,s2⟩,s3⟩:=(mayS_iff g.1).1 m1
 have hT:∀ t∈g.1,t.1.length≤16∧t.2.length≤5∧∀ f∈t.2,f.1.length≤16∧(f.2.2=[]∨∃ u∈g.1,u.1=f.2.2):=by
  intro t ht
  obtain⟨i,hi⟩:=List.getElem?_of_mem ht
  obtain⟨t1,t2,t3,t4⟩:=(mayT_iff g.1 i t).1 (s3 i t hi)
  obtain⟨_,_,sx,A2,c2,-,-,-,-,hx,-,hfl⟩:=typ_at hs hi
  refine⟨may_len hx t1,t3,fun f hf=>?_⟩
  obtain⟨j,hj⟩:=List.getElem?_of_mem hf
  obtain⟨f1,f2,f3⟩:=(mayF_iff g.1 t.2 j f).1 (t4 j f hj)
  obtain⟨_,_,sy,_,-,-,-,-,-,hy,-⟩:=fld_at hfl hj
  refine⟨may_len hy f1,?_⟩
  rw[leadS] at f3
  split at f3
  ·exact .inr (findS_some (of_decide_eq_true f3))
  ·rw[Bool.and_eq_true] at f3
   exact .inl (of_decide_eq_true f3.2)
 refine⟨⟨by omega,fun t ht=>?_⟩,⟨by omega,fun o ho'=>?_⟩,by omega⟩
 ·obtain⟨a1,a2,a3⟩:=hT t ht
  refine⟨by omega,by omega,fun f hf=>?_⟩
  obtain⟨b1,b2⟩:=a3 f hf
  refine⟨by omega,?_⟩
  rcases b2 with b2 | ⟨u,hu,hv⟩
  ·rw[b2];simp
  ·rw[← hv];have:=(hT u hu).1;omega
 ·have mo:=mayG_obj hm ho'
  have hl:o.2.2.length≤5:=by
   rw[← mo.len]
   have:=mo.t0;have:=mo.t1
   have hlt:o.2.1.toNat<g.1.length:=by omega
   rw[fldsG_at (i:=o.2.1.toNat) (x:=g.1[o.2.1.toNat]) (by omega) (zV hlt)]
   exact (hT _ (List.getElem_mem hlt)).2.1
  refine⟨by omega,fun v hv=>?_⟩
  obtain⟨k,hk⟩:=List.getElem?_of_mem hv
  have hkl:=(List.getElem?_eq_some_iff.1 hk).1
  obtain⟨f,hfk⟩:∃ f,(fldsG g.1 o.2.1)[k]?=some f:=⟨_,zV (by have:=mo.len;omega)⟩
  have hh:=mo.have' k f v hfk hk
  rw[haveG,Bool.and_eq_true] at hh
  have hf:=hh.1
  generalize f.2.1=kd at hf
  rcases vl_kinds kd with rfl | rfl | rfl | rfl | rfl | rfl | hk'
  ·rw[vl_fits_0] at hf;rw[(of_decide_eq_true hf).2.2.1];simp
  ·rw[vl_fits_1] at hf;rw[(of_decide_eq_true hf).2.2.1];simp
  ·rw[vl_fits_2] at hf;rw[(of_decide_eq_true hf).2.2.1];simp
  ·rw[vl_fits_3] at hf;rw[(of_decide_eq_true hf).1];simp
  ·rw[vl_fits_4] at hf;have:=(of_decide_eq_true hf).1;omega
  ·rw[vl_fits_5] at hf;rw[(of_decide_eq_true hf).2.2.2];simp
  ·rw[vl_fits_x hk'] at hf;cases hf
theorem have1_any (A B C:Option Addr) (N c M d K e:Nat) (g:Gr) (x y s:ByteArray) (f:Fld) (v:Vl) (G:Nat) (w:World) (hG:Blk w G 28 [.slice A N c,.slice B M d,.slice C K e]) (h:rGr (All w) w [.slice A N c,.slice B M d,.slice C K e] g) (hy:byt y=f.2.2) (hs:byt s=v.2.1):
  Calls Tryz.prog 129 #[.agg #[.string x,.int .i64 f.2.1,.string y],.agg #[.int .i64 v.1,.string s,.int .i64 v.2.2],.pointer (some ⟨G,0,none⟩)] w fun e w'=>e=.returned (.bool (haveG g f v))∧Below w.heap.size w w':=by
 have hB:∀ u v,Below w.heap.size w ((w.alloc (.cells u 97)).alloc (.cells v 47)):=fun u v=>((zA _ w).alloc (zW _) _).alloc (by simp) _
 have T1:=zZ (fun W (hW:Below w.heap.size w W)=>mayHave_any A B C N c M d K e g x y s f v W (gr_below hW h) hy hs)
 have c0:∀ u v,((w.alloc (.cells u 97)).alloc (.cells v 47)).cell? ⟨G,0,none⟩=some (.slice A N c):=fun u v=>((hB u v).cell (p:=⟨G,0,none⟩) hG.lt).trans (hG.cell (j:=0) rfl)
 have c1:∀ u v,((w.alloc (.cells u 97)).alloc (.cells v 47)).cell? ⟨G,1,none⟩=some (.slice B M d):=fun u v=>((hB u v).cell (p:=⟨G,1,none⟩) hG.lt).trans (hG.cell (j:=1) rfl)
 have c2:∀ u v,((w.alloc (.cells u 97)).alloc (.cells v 47)).cell? ⟨G,2,none⟩=some (.slice C K e):=fun u v=>((hB u v).cell (p:=⟨G,2,none⟩) hG.lt).trans (hG.cell (j:=2) rfl)
 clear h
 generalize haveG g f v=r at *
 generalize f.2.1=k at *
 generalize v.1=n1 at *
 generalize v.2.2=n2 at *
 go_enter Tryz.func129,Tryz.ntmps129
 go_wp2_with fail
 refine (T1.out _ (hB _ _)).mono ?_
 rintro e w1 ⟨rfl,hB1⟩
 go_wp2
 go_ret
 exact⟨rfl,(hB _ _).trans (hB1.mono (hB _ _).size)⟩
theorem equalFV_any (A B C:Option Addr) (N c M d K e:Nat) (g:Gr) (A2 A3:Option Addr) (n c2 m c3:Nat) (fs:List Fld) (vs:List Vl) (G:Nat) (w:World) (hG:Blk w G 28 [.slice A N c,.slice B M d,.slice C K e]) (h:rGr (All w) w [.slice A N c,.slice B M d,.slice C K e] g) (h1:rFlds (All w) w [.slice A2 n c2] fs) (h2:rVals (All w) w [.slice A3 m c3] vs):
  Calls Tryz.prog 128 #[.slice A2 n c2,.slice A3 m c3,.func (.func 129) #[] #[.pointer (some ⟨G,0,none⟩)]] w fun e w'=>e=.returned (.bool (all2 (haveG g) fs vs))∧Below w.heap.size w w':=by
 obtain⟨hn,hnc,hcm⟩:=slice_len h1
 obtain⟨hm,hmd,hdm⟩:=slice_len h2
 simp only[maxLen] at hcm hdm
 by_cases hnm:n=m
 ·subst hnm
  have hnn:((n:Int) != (n:Int))=false:=by simp
  have H0:Hid (all2 (haveG g) fs vs=all2 (haveG g) (fs.drop 0) (vs.drop 0)):=zZ (by rw[List.drop_zero,List.drop_zero])
  generalize all2 (haveG g) fs vs=r at *
  go_enter Tryz.func128,Tryz.ntmps128
  go_wp2
  go_loopw [17] (fun iv w'=>∃ i:Nat,i≤n∧iv=.int .i64 (i:Int)∧Below w.heap.size w w'∧Hid (r=all2 (haveG g) (fs.drop i) (vs.drop i))) (fun iv _=>n - (intOf iv).toNat)
  case atStart=>exact⟨0,by omega,rfl,zA _ _,H0⟩
  case round=>
   rename_i iv wr
   obtain⟨i,hi,rfl,hB,hr⟩:=hrel
   clear H0
   by_cases hin:i<n
   ·have hl1:fs[i]?=some fs[i]:=zV (by omega)
    have hl2:vs[i]?=some vs[i]:=zV (by omega)
    obtain⟨b1,off1,x1,y1,rfl,hb1,p1,p2,p3,e1,e2,_,_,_⟩:=fld_at (flds_below hB h1) hl1
    obtain⟨b2,off2,s2,rfl,hb2,q1,q2,q3,f1,_,_,_⟩:=val_at (vals_below hB h2) hl2
    have hil:(i:Int)<(n:Int):=by omega
    have hi0:(0:Int)≤(i:Int):=by omega
    have hr':=hr.out
    rw[all2_at hl1 hl2] at hr'
    have Hr:=zZ hr'
    have HB:=zZ hB
    have hB1:∀ u v,Below wr.heap.size wr ((wr.alloc (.cells u 97)).alloc (.cells v 47)):=fun u v=>((zA _ wr).alloc (zW _) _).alloc (by simp) _
    have T1:=zZ (fun W (hW:Below w.heap.size w W)=>have1_any A B C N c M d K e g x1 y1 s2 fs[i] vs[i] G W (hG.below hG.lt hW) (gr_below hW h) e2 f1)
    have q1':∀ u,(wr.alloc (.cells u 97)).cell? ⟨b2,off2+i * 3,none⟩=some (.int .i64 vs[i].1):=fun u=>(((zA _ wr).alloc (zW _) (.cells u 97)).cell (p:=⟨b2,off2+i * 3,none⟩) hb2).trans q1
    have q2':∀ u,(wr.alloc (.cells u 97)).cell? ⟨b2,off2+i * 3+1,none⟩=some (.string s2):=fun u=>(((zA _ wr).alloc (zW _) (.cells u 97)).cell (p:=⟨b2,off2+i * 3+1,none⟩) hb2).trans q2
    have q3':∀ u,(wr.alloc (.cells u 97)).cell? ⟨b2,off2+i * 3+2,none⟩=some (.int .i64 vs[i].2.2):=fun u=>(((zA _ wr).alloc (zW _) (.cells u 97)).cell (p:=⟨b2,off2+i * 3+2,none⟩) hb2).trans q3
    clear hr hr' hl1 hl2 h1 h2 hB e1 e2 f1 h hG q1 q2 q3
    generalize haveG g fs[i] vs[i]=m1 at *
    generalize fs[i].2.1=k1 at *
    generalize vs[i].1=k2 at *
    generalize vs[i].2.2=k3 at *
    cases m1
    ·go_wp2_with (first | (go_at_call 129;refine (T1.out _ (HB.out.trans ((hB1 _ _).mono HB.out.size))).mono ?_;rintro e w1 ⟨rfl,hB2⟩) | fail)
     go_ret
     exact⟨by rw[Hr.out];rfl,HB.out.trans (((hB1 _ _).trans (hB2.mono (hB1 _ _).size)).mono HB.out.size)⟩
    ·rw[Bool.true_and] at Hr
     go_wp2_with (first | (go_at_call 129;refine (T1.out _ (HB.out.trans ((hB1 _ _).mono HB.out.size))).mono ?_;rintro e w1 ⟨rfl,hB2⟩) | fail)
     go_roundw
     case rel=>exact⟨i+1,by omega,by go_num,HB.out.trans (((hB1 _ _).trans (hB2.mono (hB1 _ _).size)).mono HB.out.size),Hr⟩
     case measure=>simp[intOf];omega
   ·obtain rfl:i=n:=by omega
    have hr':=hr.out
    rw[all2_end (by omega) (by omega)] at hr'
    clear hr
    go_wp2
    go_ret
    exact⟨by rw[hr'];rfl,hB⟩
 ·have hd:all2 (haveG g) fs vs=false:=all2_ne (by omega)
  have hne:((n:Int) != (m:Int))=true:=by rw[bne_iff_ne];omega
  rw[hd]
  go_enter Tryz.func128,Tryz.ntmps128
  go_wp2
  go_ret
  exact⟨rfl,zA _ _⟩
theorem mayObj_any (A B C:Option Addr) (N c M d K e:Nat) (g:Gr) (o:Ob) (A2:Option Addr) (c2:Nat) (w:World) (h:rGr (All w) w [.slice A N c,.slice B M d,.slice C K e] g) (hv:rVals (All w) w [.slice A2 o.2.2.length c2] o.2.2):
  Calls Tryz.prog 91 #[.agg #[.slice A N c,.slice B M d,.slice C K e],.agg #[.int .i64 o.1,.int .i64 o.2.1,.slice A2 o.2.2.length c2]] w fun e w'=>e=.returned (.bool (mayO g o))∧Below w.heap.size w w':=by
 have hB0:Below w.heap.size w ((w.alloc (.cells #[.slice A N c,.slice B M d,.slice C K e] 28)).alloc (.cells #[.int .i64 o.1,.int .i64 o.2.1,.slice A2 o.2.2.length c2] 53)):=((zA _ w).alloc (zW _) _).alloc (by simp) _
 obtain⟨p1,p2⟩:=blk_two w 28 53 [.slice A N c,.slice B M d,.slice C K e] [.int .i64 o.1,.int .i64 o.2.1,.slice A2 o.2.2.length c2]
 obtain⟨hN,hNc,hcm⟩:=slice_len (rGr_open h).1
 simp only[maxLen] at hcm
 have T1:=zZ (fun W=>isPlace_any o.2.1 (N:Int) W)
 have Hv:Hid (mayO g o=((decide (0≤o.2.1) && decide (o.2.1<(g.1.length:Int))) && all2 (haveG g) (fldsG g.1 o.2.1) o.2.2)):=zZ rfl
 rw[hN] at Hv
 have l1:=p1.lt
 have l2:=p2.lt
 by_cases hp:(decide (0≤o.2.1) && decide (o.2.1<(N:Int)))=true
 ·obtain⟨t,ht⟩:∃ t:Nat,o.2.1=(t:Int):=⟨o.2.1.toNat,by simp at hp;omega⟩
  have htN:t<N:=by simp at hp;omega
  have hxt:g.1[t]?=some g.1[t]:=zV (by omega)
  obtain⟨b,off,sx,A4,c4,rfl,hb,-,hx2,-,-,hfl⟩:=typ_at (rGr_open h).1 hxt
  rw[hp,Bool.true_and,fldsG_at ht hxt] at Hv
  rw[hp,ht] at T1
  have T2:=zZ (fun W (hW:Below w.heap.size w W) hG=>equalFV_any (some ⟨b,off,none⟩) B C N c M d K e g A4 A2 g.1[t].2.length c4 o.2.2.length c2 g.1[t].2 o.2.2 w.heap.size W hG (gr_below hW h) (flds_below hW hfl) (vals_below hW hv))
  have hil:(t:Int)<(N:Int):=by omega
  have hi0:(0:Int)≤(t:Int):=by omega
  have hx2':=(hB0.cell (p:=⟨b,off+t * 2+1,none⟩) hb).trans hx2
  have S0:=And.intro (p1.cell (j:=0) rfl) (And.intro (p2.cell (j:=1) rfl) (And.intro (p2.cell (j:=2) rfl) hx2'))
  have HB0:=zZ hB0
  have hb1:b<((w.alloc (.cells #[.slice (some ⟨b,off,none⟩) N c,.slice B M d,.slice C K e] 28)).alloc (.cells #[.int .i64 o.1,.int .i64 o.2.1,.slice A2 o.2.2.length c2] 53)).heap.size:=Nat.lt_of_lt_of_le hb hB0.size
  have P1:=zZ p1
  clear h hv hfl hx2 hx2' hB0 p1 p2 hp
  rw[ht] at *
  generalize mayO g o=r at *
  generalize all2 (haveG g) g.1[t].2 o.2.2=m1 at *
  generalize g.1[t].2.length=fl at *
  generalize o.2.2.length=vl at *
  generalize o.1=oid at *
  clear hxt ht
  go_enter Tryz.func91,Tryz.ntmps91
  go_wp2
  generalize (w.alloc (.cells #[.slice (some ⟨b,off,none⟩) N c,.slice B M d,.slice C K e] 28)).alloc (.cells #[.int .i64 oid,.int .i64 (t:Int),.slice A2 vl c2] 53)=w0 at *
  refine sch_start [(0,true),(1,true),(2,true),(3,true),(4,true),(5,true),(6,false),(7,true),(8,true),(9,true),(10,true),(11,true),(12,true),(13,true),(14,true),(15,true),(16,true),(17,true),(18,true),(19,false),(20,true),(21,true)]
   (fun W=>W.cell? ⟨w.heap.size,0,none⟩=some (.slice (some ⟨b,off,none⟩) N c)∧W.cell? ⟨w.heap.size+1,1,none⟩=some (.int .i64 (t:Int))∧W.cell? ⟨w.heap.size+1,2,none⟩=some (.slice A2 vl c2)∧W.cell? ⟨b,off+t * 2+1,none⟩=some (.slice A4 fl c4)) (by kernel_rfl) rfl (by kernel_rfl) (fun _ _ _ _ _ h=>h) S0 (fun hH=>?_)
  repeat (first | (refine sch_yes (v:=?_) rfl rfl ?_ hH ?_;rotate_left;(focus ((rintro W ⟨hW1,hW2,hW3,hW4⟩;go_simp) <;> with_reducible rfl));simp only[Act.put,zY,zX,zQ]) | (refine sch_no rfl rfl hH ?_;simp only[Act.put,zY,zX,zQ]))
  refine sch_call rfl rfl (fun K hK=>?_)
  go_wp2_with (go_at_call 83;refine (T1.out _).mono ?_;rintro e w8 ⟨rfl,rfl⟩)
  refine hK.out _ _ S0 ?_
  clear hK hH
  have hH:=S0
  repeat (first | (refine sch_yes (v:=?_) rfl rfl ?_ hH ?_;rotate_left;(focus ((rintro W ⟨hW1,hW2,hW3,hW4⟩;go_simp) <;> with_reducible rfl));simp only[Act.put,zY,zX,zQ]) | (refine sch_no rfl rfl hH ?_;simp only[Act.put,zY,zX,zQ]))
  refine sch_call rfl rfl (fun K hK=>?_)
  go_wp2_with (go_at_call 128;refine (T2.out _ HB0.out.drew P1.out).mono ?_;rintro e w9 ⟨rfl,hB9⟩)
  have hC9:Below w0.heap.size w0 w9:=(zA w0.heap.size w0).drew.trans hB9
  have hH8:=And.intro ((hC9.cell (p:=⟨w.heap.size,0,none⟩) l1).trans S0.1) (And.intro ((hC9.cell (p:=⟨w.heap.size+1,1,none⟩) l2).trans S0.2.1) (And.intro ((hC9.cell (p:=⟨w.heap.size+1,2,none⟩) l2).trans S0.2.2.1) ((hC9.cell (p:=⟨b,off+t * 2+1,none⟩) hb1).trans S0.2.2.2)))
  refine hK.out _ _ hH8 ?_
  clear hK hH
  have hH:=hH8
  repeat (first | (refine sch_yes (v:=?_) rfl rfl ?_ hH ?_;rotate_left;(focus ((rintro W ⟨hW1,hW2,hW3,hW4⟩;go_simp) <;> with_reducible rfl));simp only[Act.put,zY,zX,zQ]) | (refine sch_no rfl rfl hH ?_;simp only[Act.put,zY,zX,zQ]))
  refine sch_done ?_
  clear hH hH8
  go_wp2
  go_ret
  exact⟨by rw[Hv.out];rfl,HB0.out.trans (hC9.mono HB0.out.size)⟩
 ·have hp':(decide (0≤o.2.1) && decide (o.2.1<(N:Int)))=false:=by simpa using hp
  rw[hp',Bool.false_and] at Hv
  rw[hp'] at T1
  have HB0:=zZ hB0
  have S0:=And.intro (p1.cell (j:=0) rfl) (p2.cell (j:=1) rfl)
  clear h hv hB0 p1 p2 hp hp'
  generalize mayO g o=r at *
  generalize o.2.2.length=vl at *
  generalize o.1=oid at *
  generalize o.2.1=ot at *
  go_enter Tryz.func91,Tryz.ntmps91
  go_wp2
  generalize (w.alloc (.cells #[.slice A N c,.slice B M d,.slice C K e] 28)).alloc (.cells #[.int .i64 oid,.int .i64 ot,.slice A2 vl c2] 53)=w0 at *
  refine sch_start [(0,true),(1,true),(2,true),(3,true),(4,true),(5,true),(6,false),(7,true),(8,true),(9,true),(10,true),(11,true),(12,true),(13,true),(14,true),(15,true),(16,true),(17,true),(18,true),(19,false),(20,true),(21,true)]
   (fun W=>W.cell? ⟨w.heap.size,0,none⟩=some (.slice A N c)∧W.cell? ⟨w.heap.size+1,1,none⟩=some (.int .i64 ot)) (by kernel_rfl) rfl (by kernel_rfl) (fun _ _ _ _ _ h=>h) S0 (fun hH=>?_)
  repeat (first | (refine sch_yes (v:=?_) rfl rfl ?_ hH ?_;rotate_left;(focus ((rintro W ⟨hW1,hW2⟩;go_simp) <;> with_reducible rfl));simp only[Act.put,zY,zX,zQ]) | (refine sch_no rfl rfl hH ?_;simp only[Act.put,zY,zX,zQ]))
  refine sch_call rfl rfl (fun K hK=>?_)
  go_wp2_with (go_at_call 83;refine (T1.out _).mono ?_;rintro e w8 ⟨rfl,rfl⟩)
  refine hK.out _ _ S0 ?_
  clear hK hH
  have hH:=S0
  repeat (first | (refine sch_yes (v:=?_) rfl rfl ?_ hH ?_;rotate_left;(focus ((rintro W ⟨hW1,hW2⟩;go_simp) <;> with_reducible rfl));simp only[Act.put,zY,zX,zQ]) | (refine sch_no rfl rfl hH ?_;simp only[Act.put,zY,zX,zQ]))
  refine sch_call_no rfl rfl hH ?_
  repeat (first | (refine sch_yes (v:=?_) rfl rfl ?_ hH ?_;rotate_left;(focus ((rintro W ⟨hW1,hW2⟩;go_simp) <;> with_reducible rfl));simp only[Act.put,zY,zX,zQ]) | (refine sch_no rfl rfl hH ?_;simp only[Act.put,zY,zX,zQ]))
  refine sch_done ?_
  clear hH
  go_wp2
  go_ret
  exact⟨by rw[Hv.out];rfl,HB0.out.drew⟩
theorem mayObjs_any (A B C:Option Addr) (N c M d K e:Nat) (g:Gr) (w:World) (h:rGr (All w) w [.slice A N c,.slice B M d,.slice C K e] g):
  Calls Tryz.prog 48 #[.agg #[.slice A N c,.slice B M d,.slice C K e]] w fun e w'=>e=.returned (.bool (mayOs g))∧Below w.heap.size w w':=by
 obtain⟨hM,hMd,hdm⟩:=slice_len (rGr_open h).2.1
 simp only[maxLen] at hdm
 have hB0:Below w.heap.size w (w.alloc (.cells #[.slice A N c,.slice B M d,.slice C K e] 28)):=(zA _ w).alloc (zW _) _
 by_cases h8:M≤8
 ·have Hm:Hid (mayOs g=riseG g (-1) (g.2.1.drop 0)):=zZ (by rw[mayOs,zJ (by omega),Bool.true_and,List.drop_zero])
  have h8':decide ((8:Int)<(M:Int))=false:=by simp;omega
  generalize mayOs g=r at *
  go_enter Tryz.func48,Tryz.ntmps48
  go_wp2
  go_loopw [3,13] (fun lv iv w'=>∃ (i:Nat) (last:Int),i≤M∧iv=.int .i64 (i:Int)∧lv=.int .i64 last∧Below w.heap.size w w'∧Blk w' w.heap.size 28 [.slice A N c,.slice B M d,.slice C K e]∧Hid (r=riseG g last (g.2.1.drop i))) (fun _ iv _=>M - (intOf iv).toNat)
  case atStart=>exact⟨0,-1,by omega,rfl,rfl,hB0,Blk.new w _ [.slice A N c,.slice B M d,.slice C K e],Hm⟩
  case round=>
   rename_i lv iv wr
   obtain⟨i,last,hi,rfl,rfl,hB,b1,hr⟩:=hrel
   clear Hm hB0
   by_cases hin:i<M
   ·have hoi:g.2.1[i]?=some g.2.1[i]:=zV (by omega)
    obtain⟨b,off,A2,c2,rfl,hb,hx1,hx2,hx3,hvs,-,-⟩:=ob_at (rGr_open (gr_below hB h)).2.1 hoi
    have hil:(i:Int)<(M:Int):=by omega
    have hi0:(0:Int)≤(i:Int):=by omega
    have hr':=hr.out
    rw[riseG_at hoi] at hr'
    have Hr:=zZ hr'
    clear hr' hr hoi
    generalize g.2.1[i]=o at *
    have hB1:Below wr.heap.size wr (wr.alloc (.cells #[.int .i64 o.1,.int .i64 o.2.1,.slice A2 o.2.2.length c2] 53)):=(zA _ wr).alloc (zW _) _
    have b3:=Blk.new wr 53 [.int .i64 o.1,.int .i64 o.2.1,.slice A2 o.2.2.length c2]
    have hvs1:=vals_below hB1 hvs
    have T1:=zZ (fun W (hW:Below w.heap.size w W) hq=>mayObj_any A (some ⟨b,off,none⟩) C N c M d K e g o A2 c2 W (gr_below hW h) hq)
    have H0:=zZ (hB.trans (hB1.mono hB.size))
    have b1':=b1.to hB1
    have c0:=b1'.cell (j:=0) rfl
    have c1:=b1'.cell (j:=1) rfl
    have c2':=b1'.cell (j:=2) rfl
    have Hvs:=zZ hvs1
    clear hB b1 h hvs hvs1
    generalize mayO g o=m1 at *
    generalize em2:riseG g o.1 (g.2.1.drop (i+1))=m2 at *
    by_cases hl:o.1≤last
    ·have hl':decide (o.1≤last)=true:=zJ hl
     have Hr2:Hid (r=false):=zZ (by rw[Hr.out,zK (p:=last<o.1) (by omega)];rfl)
     clear hl
     go_wp2
     go_ret
     exact⟨by rw[Hr2.out];rfl,H0.out⟩
    ·have hl':decide (o.1≤last)=false:=zK hl
     by_cases hx:1073741824<o.1
     ·have hx':decide ((1073741824:Int)<o.1)=true:=zJ hx
      have Hr2:Hid (r=false):=zZ (by rw[Hr.out,zK (p:=o.1≤1073741824) (by omega)];simp)
      clear hl hx
      go_wp2
      go_ret
      exact⟨by rw[Hr2.out];rfl,H0.out⟩
     ·have hx':decide ((1073741824:Int)<o.1)=false:=zK hx
      have Hr2:Hid (r=(m1 && m2)):=zZ (by rw[Hr.out,zJ (p:=o.1≤1073741824) (by omega),zJ (p:=last<o.1) (by omega)];simp)
      clear hl hx Hr
      go_wp2_with fail
      refine (T1.out _ H0.out Hvs.out).mono ?_
      rintro e w1 ⟨rfl,hB2⟩
      have H1:=zZ (H0.out.trans (hB2.mono H0.out.size))
      have b1w:=b1'.to hB2
      have b3w:Blk w1 wr.heap.size 53 [.int .i64 o.1,.int .i64 o.2.1,.slice A2 o.2.2.length c2]:=b3.to hB2
      have d3:=b3w.cell (j:=0) rfl
      clear hB2 c0 c1 c2' b1' b3
      cases m1
      ·go_wp2
       go_ret
       exact⟨by rw[Hr2.out];rfl,H1.out⟩
      ·rw[Bool.true_and] at Hr2
       go_wp2
       go_roundw
       case rel=>exact⟨i+1,o.1,by omega,by go_num,rfl,H1.out,b1w,zZ (Hr2.out.trans em2.symm)⟩
       case measure=>simp[intOf];omega
   ·obtain rfl:i=M:=by omega
    have hr':=hr.out
    rw[riseG_end (by omega)] at hr'
    clear hr
    go_wp2
    go_ret
    exact⟨by rw[hr'];rfl,hB⟩
 ·have Hm:Hid (mayOs g=false):=zZ (by rw[mayOs,zK (by omega),Bool.false_and])
  have h8':decide ((8:Int)<(M:Int))=true:=by simp;omega
  go_enter Tryz.func48,Tryz.ntmps48
  go_wp2
  go_ret
  exact⟨by rw[Hm.out];rfl,hB0⟩
theorem mayRoot_any (A B C:Option Addr) (N c M d K e:Nat) (g:Gr) (n:Int) (w:World) (h:rGr (All w) w [.slice A N c,.slice B M d,.slice C K e] g):
  Calls Tryz.prog 92 #[.agg #[.slice A N c,.slice B M d,.slice C K e],.int .i64 n] w fun e w'=>e=.returned (.bool (rootG g.2.1 n))∧Below w.heap.size w w':=by
 have hB0:Below w.heap.size w (w.alloc (.cells #[.slice A N c,.slice B M d,.slice C K e] 28)):=(zA _ w).alloc (zW _) _
 have T1:=zZ (gfind_any A B C N c M d K e g n _ (gr_below hB0 h))
 have Hv:Hid (rootG g.2.1 n=(decide (n = -1) || decide (findG g.2.1 n≠-1))):=zZ rfl
 clear h
 generalize rootG g.2.1 n=r at *
 generalize findG g.2.1 n=q at *
 by_cases hn:n = -1
 ·have hn':(n == -1)=true:=by simp[hn]
  have Hr:Hid (r=true):=zZ (by rw[Hv.out];simp[hn])
  clear Hv hn
  go_enter Tryz.func92,Tryz.ntmps92
  go_wp2
  go_ret
  exact⟨by rw[Hr.out];rfl,hB0⟩
 ·have hn':(n == -1)=false:=by simp[hn]
  have Hr:Hid (r=(q != -1)):=zZ (by rw[Hv.out,zK hn,Bool.false_or];by_cases e:q = -1 <;> simp[e])
  clear Hv hn
  go_enter Tryz.func92,Tryz.ntmps92
  go_wp2_with fail
  refine T1.out.mono ?_
  rintro e w1 ⟨rfl,hB1⟩
  go_wp2
  go_ret
  exact⟨by rw[Hr.out];rfl,hB0.trans (hB1.mono hB0.size)⟩
theorem mayRoots_any (A B C:Option Addr) (N c M d K e:Nat) (g:Gr) (w:World) (h:rGr (All w) w [.slice A N c,.slice B M d,.slice C K e] g):
  Calls Tryz.prog 49 #[.agg #[.slice A N c,.slice B M d,.slice C K e]] w fun e w'=>e=.returned (.bool (mayRs g))∧Below w.heap.size w w':=by
 obtain⟨hM,hMd,hdm⟩:=slice_len (rGr_open h).2.2
 simp only[maxLen] at hdm
 have hB0:Below w.heap.size w (w.alloc (.cells #[.slice A N c,.slice B M d,.slice C K e] 28)):=(zA _ w).alloc (zW _) _
 by_cases h3:K≤3
 ·have Hm:Hid (mayRs g=(g.2.2.drop 0).all (rootG g.2.1)):=zZ (by rw[mayRs,zJ (by omega),Bool.true_and,List.drop_zero])
  have h3':decide ((3:Int)<(K:Int))=false:=by simp;omega
  generalize mayRs g=r at *
  go_enter Tryz.func49,Tryz.ntmps49
  go_wp2
  go_loopw [12] (fun iv w'=>∃ i:Nat,i≤K∧iv=.int .i64 (i:Int)∧Below w.heap.size w w'∧Blk w' w.heap.size 28 [.slice A N c,.slice B M d,.slice C K e]∧Hid (r=(g.2.2.drop i).all (rootG g.2.1))) (fun iv _=>K - (intOf iv).toNat)
  case atStart=>exact⟨0,by omega,rfl,hB0,Blk.new w _ [.slice A N c,.slice B M d,.slice C K e],Hm⟩
  case round=>
   rename_i iv wr
   obtain⟨i,hi,rfl,hB,b1,hr⟩:=hrel
   clear Hm hB0
   by_cases hin:i<K
   ·have hoi:g.2.2[i]?=some g.2.2[i]:=zV (by omega)
    obtain⟨b,off,rfl,hb,hx1,-⟩:=id_at (rGr_open (gr_below hB h)).2.2 hoi
    have hil:(i:Int)<(K:Int):=by omega
    have hi0:(0:Int)≤(i:Int):=by omega
    have hr':=hr.out
    rw[all_at hoi] at hr'
    have Hr:=zZ hr'
    clear hr' hr hoi
    generalize g.2.2[i]=n at *
    have T1:=zZ (fun W (hW:Below w.heap.size w W)=>mayRoot_any A B (some ⟨b,off,none⟩) N c M d K e g n W (gr_below hW h))
    have H0:=zZ hB
    have c0:=b1.cell (j:=0) rfl
    have c1:=b1.cell (j:=1) rfl
    have c2':=b1.cell (j:=2) rfl
    clear hB h
    generalize rootG g.2.1 n=m1 at *
    go_wp2_with fail
    refine (T1.out _ H0.out).mono ?_
    rintro e w1 ⟨rfl,hB2⟩
    have H1:=zZ (H0.out.trans (hB2.mono H0.out.size))
    have b1w:=b1.to hB2
    clear hB2 c0 c1 c2' b1
    cases m1
    ·go_wp2
     go_ret
     exact⟨by rw[Hr.out];rfl,H1.out⟩
    ·rw[Bool.true_and] at Hr
     go_wp2
     go_roundw
     case rel=>exact⟨i+1,by omega,by go_num,H1.out,b1w,Hr⟩
     case measure=>simp[intOf];omega
   ·obtain rfl:i=K:=by omega
    have hr':=hr.out
    rw[all_end (by omega)] at hr'
    clear hr
    go_wp2
    go_ret
    exact⟨by rw[hr'];rfl,hB⟩
 ·have Hm:Hid (mayRs g=false):=zZ (by rw[mayRs,zK (by omega),Bool.false_and])
  have h3':decide ((3:Int)<(K:Int))=true:=by simp;omega
  go_enter Tryz.func49,Tryz.ntmps49
  go_wp2
  go_ret
  exact⟨by rw[Hm.out];rfl,hB0⟩
theorem gmay_any (A B C:Option Addr) (N c M d K e:Nat) (g:Gr) (w:World) (h:rGr (All w) w [.slice A N c,.slice B M d,.slice C K e] g):
  Calls Tryz.prog 17 #[.agg #[.slice A N c,.slice B M d,.slice C K e]] w fun e w'=>e=.returned (.bool (mayG g))∧Below w.heap.size w w':=by
 have hB0:Below w.heap.size w (w.alloc (.cells #[.slice A N c,.slice B M d,.slice C K e] 28)):=(zA _ w).alloc (zW _) _
 have b1:=Blk.new w 28 [.slice A N c,.slice B M d,.slice C K e]
 have T1:=zZ (may_any A N c g.1 _ (sch_below hB0 (rGr_open h).1))
 have T2:=zZ (fun W (hW:Below w.heap.size w W)=>mayObjs_any A B C N c M d K e g W (gr_below hW h))
 have T3:=zZ (fun W (hW:Below w.heap.size w W)=>mayRoots_any A B C N c M d K e g W (gr_below hW h))
 have Hv:Hid (mayG g=(mayS g.1 && mayOs g && mayRs g)):=zZ rfl
 have HB0:=zZ hB0
 clear h hB0
 generalize mayG g=r at *
 generalize mayS g.1=m1 at *
 generalize mayOs g=m2 at *
 generalize mayRs g=m3 at *
 go_enter Tryz.func17,Tryz.ntmps17
 go_wp2_with fail
 refine T1.out.mono ?_
 rintro e w1 ⟨rfl,hB1⟩
 have H1:=zZ (HB0.out.trans (hB1.mono HB0.out.size))
 replace b1:=b1.to hB1
 clear hB1 HB0
 cases m1
 ·go_wp2
  go_ret
  exact⟨by rw[Hv.out];rfl,H1.out⟩
 have c0:=b1.cell (j:=0) rfl
 have c1:=b1.cell (j:=1) rfl
 have c2:=b1.cell (j:=2) rfl
 go_wp2_with fail
 refine (T2.out _ H1.out).mono ?_
 rintro e w2 ⟨rfl,hB2⟩
 have H2:=zZ (H1.out.trans (hB2.mono H1.out.size))
 replace b1:=b1.to hB2
 clear hB2 H1 c0 c1 c2
 cases m2
 ·go_wp2
  go_ret
  exact⟨by rw[Hv.out];rfl,H2.out⟩
 have c0:=b1.cell (j:=0) rfl
 have c1:=b1.cell (j:=1) rfl
 have c2:=b1.cell (j:=2) rfl
 go_wp2_with fail
 refine (T3.out _ H2.out).mono ?_
 rintro e w3 ⟨rfl,hB3⟩
 have H3:=zZ (H2.out.trans (hB3.mono H2.out.size))
 go_wp2
 go_ret
 exact⟨by rw[Hv.out];rfl,H3.out⟩
def cellsZ (z:List (Ob × Nat)):List Value:=z.flatMap fun p=>[.int .i64 p.1.1,.int .i64 p.1.2.1,.slice (some ⟨p.2,0,none⟩) p.1.2.2.length p.1.2.2.length]
theorem cellsZ_len (z:List (Ob × Nat)):(cellsZ z).length=z.length * 3:=by
 induction z with
 | nil=>rfl
 | cons p z ih=>rw[cellsZ,List.flatMap_cons,List.length_append,List.length_cons,← cellsZ,ih];simp;omega
theorem cellsZ_append (y z:List (Ob × Nat)):cellsZ (y++z)=cellsZ y++cellsZ z:=by simp[cellsZ]
theorem cellsZ_cons (p:Ob × Nat) (z:List (Ob × Nat)):cellsZ (p :: z)=.int .i64 p.1.1 :: .int .i64 p.1.2.1 :: .slice (some ⟨p.2,0,none⟩) p.1.2.2.length p.1.2.2.length :: cellsZ z:=rfl
theorem obCells_z:∀ {os:List Ob} {bs:List Nat},os.length=bs.length→obCells os bs=cellsZ (os.zip bs)
 | [],[],_=>rfl
 | o :: os,b :: bs,h=>by rw[obCells,List.zip_cons_cons,cellsZ_cons,obCells_z (by simpa using h)]
 | [],b :: bs,h=>by simp at h
 | o :: os,[],h=>by simp at h
def InZ (lo hi:Nat) (w:World) (z:List (Ob × Nat)):Prop:=(∀ p∈z,lo<p.2∧p.2<hi∧OwnF w p.2 p.1)∧(z.map (·.2)).Pairwise (·<·)
theorem ObIn.z {lo hi:Nat} {w:World} {ds:List Value} {os:List Ob} (h:ObIn lo hi w ds os):∃ z:List (Ob × Nat),ds=cellsZ z∧z.map (·.1)=os∧InZ lo hi w z:=by
 obtain⟨bs,rfl,h2,h3,h4⟩:=h
 refine⟨os.zip bs,obCells_z h2,by rw[List.map_fst_zip (by omega)],fun p hp=>?_,by rw[List.map_snd_zip (by omega)];exact h3⟩
 obtain⟨i,hi⟩:=List.getElem?_of_mem hp
 rw[List.getElem?_zip_eq_some] at hi
 exact h4 i p.1 p.2 hi.1 hi.2
theorem InZ.ob {lo hi:Nat} {w:World} {z:List (Ob × Nat)} (h:InZ lo hi w z):ObIn lo hi w (cellsZ z) (z.map (·.1)):=by
 refine⟨z.map (·.2),?_,by simp,h.2,fun i o b ho hb=>?_⟩
 ·rw[obCells_z (by simp),List.zip_map',List.map_id']
 ·rw[List.getElem?_map,Option.map_eq_some_iff] at ho hb
  obtain⟨p,hp,rfl⟩:=ho
  obtain⟨q,hq,rfl⟩:=hb
  rw[hp] at hq
  injection hq with e
  subst e
  exact h.1 p (List.mem_of_getElem? hp)
theorem InZ.filter {lo hi:Nat} {w:World} {z:List (Ob × Nat)} (h:InZ lo hi w z) (k:Ob × Nat→Bool):InZ lo hi w (z.filter k):=
 ⟨fun p hp=>h.1 p (List.mem_filter.1 hp).1,h.2.sublist (List.filter_sublist.map _)⟩
theorem InZ.keep {lo hi:Nat} {w w':World} {z:List (Ob × Nat)} (h:InZ lo hi w z) (hk:∀ b,lo<b→b<hi→w'.heap[b]?=w.heap[b]?):InZ lo hi w' z:=
 ⟨fun p hp=>by obtain⟨h1,h2,h3⟩:=h.1 p hp;exact⟨h1,h2,h3.keep (hk _ h1 h2)⟩,h.2⟩
theorem pre_slice {α:Type} {size b n c:Nat} {R:Reader α} {S:Nat→Prop} {w:World} {t:TypeId} {cs rest:List Value} {l:List α} (hb:Blk w b t (cs++rest)) (hc:Chunks size (R S w) cs l) (hS:S b) (hl:l.length=n) (hnc:n≤c) (hcm:c≤maxLen):
  rSlice size R S w [.slice (some ⟨b,0,none⟩) n c] l:=by
 subst hl
 exact⟨_,_,cs,rfl,hnc,hcm,.inr ⟨b,0,rfl,hS,fun j u hu=>by rw[Nat.zero_add];exact hb.cell (by rw[List.getElem?_append_left (List.getElem?_eq_some_iff.1 hu).1];exact hu)⟩,hc⟩
theorem blk_setCells {b:Nat} {t:TypeId}:∀ (vs:List Value) (o:Nat) (w:World) (cs:List Value),Blk w b t cs→∃ ds,Blk (w.setCells b o vs) b t ds∧ds.length=cs.length∧ds.take o=cs.take o∧w.grownBy (w.setCells b o vs) (some b)
 | [],_,w,cs,h=>⟨cs,h,rfl,rfl,World.grownBy.refl _ _⟩
 | v :: vs,o,w,cs,h=>by
  obtain⟨ds,h1,h2,h3,h4⟩:=blk_setCells vs (o+1) (w.setCell ⟨b,o,none⟩ v) (cs.set o v) (h.set o v)
  have hb:=(zA b w).setCell (p:=⟨b,o,none⟩) (zW _) v
  refine⟨ds,h1,by rw[h2,List.length_set],?_,⟨h4.os.trans hb.os,h4.tape.trans hb.tape,h4.output.trans hb.output,Nat.le_trans hb.size h4.size,fun k hk hne=>?_⟩⟩
  ·have:ds.take o=(ds.take (o+1)).take o:=by rw[List.take_take,Nat.min_eq_left (by omega)]
   rw[this,h3,List.take_take,Nat.min_eq_left (by omega),List.take_set_of_le (zW _)]
  ·have:=h4.block k (by simpa using hk) hne
   exact this.trans (Below.heap_setCell _ _ _ _ (by simpa using hne))
theorem zero_one (n:Nat):∀ v∈(Builtin.zeroCells #[Value.int .i64 0,.int .i64 0,.slice none 0 0] n).toList,v.oneCell'=true:=by
 intro v hv
 simp only[Builtin.zeroCells,Array.toList_map,List.mem_map] at hv
 obtain⟨i,-,rfl⟩:=hv
 have:i % 3=0∨i % 3=1∨i % 3=2:=by omega
 simp only[List.size_toArray,List.length_cons,List.length_nil,Nat.zero_add]
 rcases this with e | e | e <;> rw[e] <;> rfl
theorem zero_len (n:Nat):(Builtin.zeroCells #[Value.int .i64 0,.int .i64 0,.slice none 0 0] n).toList.length=n * 3:=by simp[Builtin.zeroCells]
theorem run_clear {b:Nat} {cs:List Value} {w:World} (hb:Blk w b 53 cs) (o n c:Nat) (hn:0<n) (hl:o+n * 3≤cs.length):
  ∃ w' ds,(∀ ty,(Builtin.clear_ #[25] ty #[.slice (some ⟨b,o,none⟩) n c]).run Tryz.prog w=.ok (.tuple #[]) w')∧Blk w' b 53 ds∧ds.length=cs.length∧ds.take o=cs.take o∧w.grownBy w' (some b):=by
 obtain⟨ds,h1,h2,h3,h4⟩:=blk_setCells (Builtin.zeroCells #[Value.int .i64 0,.int .i64 0,.slice none 0 0] n).toList o w cs hb
 refine⟨_,ds,fun ty=>?_,h1,h2,h3,h4⟩
 have hz:(zeroValue 53).run Tryz.prog w=.ok (.agg #[.int .i64 0,.int .i64 0,.slice none 0 0]) w:=by kernel_rfl
 have hs:=run_storeCells_cells (P:=Tryz.prog) b o (Builtin.zeroCells #[Value.int .i64 0,.int .i64 0,.slice none 0 0] n).toList 0 w
  (fun j hj=>by rw[zero_len] at hj;rw[Nat.add_zero,hb.cell (j:=o+j) (zV (by omega))];rfl) (fun j _=>hb.frozen _) (zero_one n)
 have hu:Tryz.prog.underlying 25=some (.slice 53):=Tryz.underlying25
 obtain⟨m,rfl⟩:∃ m,n=m+1:=⟨n - 1,by omega⟩
 simp only[Nat.add_zero] at hs
 simp[Builtin.clear_,run_underlying hu,hz,Value.cells,hs]
theorem run_rest (b n i:Nat) (h:i<n) (W:World):(Instr.slice 25 (.slice (some ⟨b,0,none⟩) n n) (some (.int .i64 (i:Int))) none none).run Tryz.prog W=.ok (.slice (some ⟨b,i * 3,none⟩) (n - i) (n - i)) W:=by
 have hu:Tryz.prog.underlying 25=some (.slice 53):=Tryz.underlying25
 obtain⟨j,hj,hs⟩:∃ j,Tryz.prog.info? 53=some j∧j.size=3:=by
  have:(Tryz.prog.info? 53).map (·.size)=some 3:=by kernel_rfl
  obtain⟨j,h1,h2⟩:=Option.map_eq_some_iff.1 this
  exact⟨j,h1,h2⟩
 have h1:i≤n:=by omega
 have h2:¬ n=i:=by omega
 simp[Instr.slice,Instr.sliceBounds,Instr.sliceBound,asIntOf,run_underlying hu,sizeOf,typeInfo,hj,hs,h1,h2,addr_add,Nat.mul_comm]
theorem run_first (b n i:Nat) (h:i≤n) (W:World):(Instr.slice 25 (.slice (some ⟨b,0,none⟩) n n) none (some (.int .i64 (i:Int))) none).run Tryz.prog W=.ok (.slice (some ⟨b,0,none⟩) i n) W:=by
 have hu:Tryz.prog.underlying 25=some (.slice 53):=Tryz.underlying25
 obtain⟨j,hj,hs⟩:∃ j,Tryz.prog.info? 53=some j∧j.size=3:=by
  have:(Tryz.prog.info? 53).map (·.size)=some 3:=by kernel_rfl
  obtain⟨j,h1,h2⟩:=Option.map_eq_some_iff.1 this
  exact⟨j,h1,h2⟩
 simp[Instr.slice,Instr.sliceBounds,Instr.sliceBound,asIntOf,run_underlying hu,sizeOf,typeInfo,hj,h,addr_add]
end Go.Proofs.YtnljjnkindjeoaaGreatDoor
namespace Go.Proofs.YtnljjnkindjeoaaGreatDoor
open Go.RowKit Go.Maps
theorem come_law:Keyed Tryz.prog 3:=int_keyed Tryz.underlying3
theorem come_zero (w:World):(zeroValue 136).run Tryz.prog w=.ok (.agg #[]) w:=by kernel_rfl
def SetM (w:World) (b:Nat) (M:List Int):Prop:=∃ D:DataW Unit,w.ownsMap Tryz.prog 3 unitElem b M.length D∧∀ x,(Lit.int .i64 x).wf=true→Maps.has D (.int .i64 x)=decide (x∈M)
theorem SetM.kept {w w':World} {b:Nat} {M:List Int} {row:Option Nat} (h:SetM w b M) (hg:w.grownBy w' row) (hn:some b≠row):SetM w' b M:=by
 obtain⟨D,h1,h2⟩:=h
 exact⟨D,h1.kept hg hn,h2⟩
theorem below_grown {w w':World} (h:Below w.heap.size w w') (row:Option Nat):w.grownBy w' row:=⟨h.os,h.tape,h.output,h.size,fun b hb _=>h.block b hb⟩
theorem SetM.below {w w':World} {b:Nat} {M:List Int} (h:SetM w b M) (hB:Below w.heap.size w w'):SetM w' b M:=h.kept (below_grown hB none) (by simp)
theorem SetM.add {D:DataW Unit} {w:World} {b:Nat} {M:List Int} {x:Int} (h:w.ownsMap Tryz.prog 3 unitElem b (M.length+1) (D.put (.int .i64 x) (.agg []))) (hm:IsMap D) (hh:∀ y,(Lit.int .i64 y).wf=true→Maps.has D (.int .i64 y)=decide (y∈M)):SetM w b (M++[x]):=by
 refine⟨_,by rw[List.length_append];exact h,fun y hy=>?_⟩
 by_cases e:y=x
 ·subst e
  rw[has_put_same hm (by trivial)]
  simp
 ·rw[has_put_other (by simpa using e),hh y hy]
  simp[e]
structure CW (A B C:Option Addr) (N c M d K e:Nat) (g:Gr) (Gb Mc Vc Mb:Nat) (w:World):Prop where
 gb:Blk w Gb 28 [.slice A N c,.slice B M d,.slice C K e]
 mc:w.cell? ⟨Mc,0,none⟩=some (.map (some Mb))
 vc:w.cell? ⟨Vc,0,none⟩=some (.func (.func 136) #[] #[.pointer (some ⟨Mc,0,none⟩),.pointer (some ⟨Gb,0,none⟩),.pointer (some ⟨Vc,0,none⟩)])
 rd:rGr (fun b=>b<w.heap.size∧b≠Mb) w [.slice A N c,.slice B M d,.slice C K e] g
 ne:Gb≠Mb∧Mc≠Mb∧Vc≠Mb
section
variable {A B C : Option Addr} {N c M d K e : Nat} {g : Gr} {Gb Mc Vc Mb : Nat} {w w' : World}
theorem CW.to (h:CW A B C N c M d K e g Gb Mc Vc Mb w) (hg:w.grownBy w' (some Mb)):CW A B C N c M d K e g Gb Mc Vc Mb w':=by
 obtain⟨n1,n2,n3⟩:=h.ne
 exact⟨(hg.block _ h.gb.lt (by simpa using n1)).trans h.gb,hg.cell h.mc (by simpa using n2),hg.cell h.vc (by simpa using n3),
  rGr_stays.to (fun b hb=>⟨⟨Nat.lt_of_lt_of_le hb.1 hg.size,hb.2⟩,hg.block b hb.1 (by simpa using hb.2)⟩) h.rd,h.ne⟩
theorem CW.below (h:CW A B C N c M d K e g Gb Mc Vc Mb w) (hB:Below w.heap.size w w'):CW A B C N c M d K e g Gb Mc Vc Mb w':=h.to (below_grown hB _)
theorem CW.all (h:CW A B C N c M d K e g Gb Mc Vc Mb w):rGr (All w) w [.slice A N c,.slice B M d,.slice C K e] g:=rGr_stays.to (Keeps.mono fun _ hb=>hb.1) h.rd
end
abbrev Visits (g:Gr) (Mb:Nat) (id:Int) (L:List Int) (w:World) (e:Ending) (w':World):Prop:=
 e=.returned (.tuple #[])∧∃ L',SetM w' Mb L'∧L'.length+cntG g.2.1 L'≤g.2.1.length∧Dfs g L L' id∧w.grownBy w' (some Mb)
theorem visit_skip (A B C:Option Addr) (N c M d K e:Nat) (g:Gr) (Gb Mc Vc Mb:Nat) (id:Int) (L:List Int) (w:World) (hid:(Lit.int .i64 id).wf=true) (hL:L.length+cntG g.2.1 L≤g.2.1.length) (hC:CW A B C N c M d K e g Gb Mc Vc Mb w) (hS:SetM w Mb L) (hsk:id = -1∨id∈L):
  Calls Tryz.prog 136 #[.int .i64 id,.pointer (some ⟨Mc,0,none⟩),.pointer (some ⟨Gb,0,none⟩),.pointer (some ⟨Vc,0,none⟩)] w (Visits g Mb id L w):=by
 have Hd:=zZ (Dfs.skip (g:=g) hsk)
 have HS:=zZ hS
 obtain⟨D,hown,hhas⟩:=hS
 have hkey:keyOf Tryz.prog 3 (.int .i64 id)=some (.int .i64 id):=keyOf_int_mk Tryz.underlying3 hid
 have hh:=hhas id hid
 have m1:=hC.mc
 have hmlt:=hown.lt
 clear hhas hC
 by_cases hm:id∈L
 ·rw[zJ hm] at hh
  clear hm hsk
  go_enter Tryz.func136,Tryz.ntmps136
  go_wp2_with (first | (at_lookup;refine wpList_lookup_own_unit _ rfl _ _ 133 rfl 3 136 come_law rfl (come_zero _) Mb L.length D rfl hown _ _ rfl hkey ?_;rw[hh]) | fail)
  go_end0
  exact⟨rfl,L,HS.out.kept (World.grownBy_alloc _ _ none) (by simp),hL,Hd.out,World.grownBy_alloc _ _ _⟩
 ·rw[zK hm] at hh
  have h1:(id == -1)=true:=by simp[hsk.resolve_right hm]
  clear hm hsk
  go_enter Tryz.func136,Tryz.ntmps136
  go_wp2_with (first | (at_lookup;refine wpList_lookup_own_unit _ rfl _ _ 133 rfl 3 136 come_law rfl (come_zero _) Mb L.length D rfl hown _ _ rfl hkey ?_;rw[hh]) | fail)
  go_end0
  exact⟨rfl,L,HS.out.kept (World.grownBy_alloc _ _ none) (by simp),hL,Hd.out,World.grownBy_alloc _ _ _⟩
theorem keepM {w w':World} {b:Nat} (hg:w.grownBy w' (some b)):Keeps (fun x=>x<w.heap.size∧x≠b) (fun x=>x<w'.heap.size∧x≠b) w w':=fun x hx=>⟨⟨Nat.lt_of_lt_of_le hx.1 hg.size,hx.2⟩,hg.block x hx.1 (by simpa using hx.2)⟩
theorem visit_go (A B C:Option Addr) (N c M d K e:Nat) (g:Gr) (Gb Mc Vc Mb:Nat) (hmay:mayG g=true) (o:Ob) (ho:o∈g.2.1) (L:List Int) (w:World) (hn:o.1 ∉ L) (hL:L.length+cntG g.2.1 L≤g.2.1.length) (hC:CW A B C N c M d K e g Gb Mc Vc Mb w) (hS:SetM w Mb L)
  (hrec:∀ (id:Int) (L':List Int) (W:World),(Lit.int .i64 id).wf=true→(id = -1∨findG g.2.1 id≠-1)→cntG g.2.1 L'<cntG g.2.1 L→L'.length+cntG g.2.1 L'≤g.2.1.length→CW A B C N c M d K e g Gb Mc Vc Mb W→SetM W Mb L' →
   Calls Tryz.prog 136 #[.int .i64 id,.pointer (some ⟨Mc,0,none⟩),.pointer (some ⟨Gb,0,none⟩),.pointer (some ⟨Vc,0,none⟩)] W (Visits g Mb id L' W)):
  Calls Tryz.prog 136 #[.int .i64 o.1,.pointer (some ⟨Mc,0,none⟩),.pointer (some ⟨Gb,0,none⟩),.pointer (some ⟨Vc,0,none⟩)] w (Visits g Mb o.1 L w):=by
 have hmo:=mayG_obj hmay ho
 have hid:(Lit.int .i64 o.1).wf=true:=WalkArith.wf_i64 ⟨by have:=hmo.id0;omega,by have:=hmo.id1;omega⟩
 obtain⟨D,hown,hhas⟩:=hS
 have hkey:keyOf Tryz.prog 3 (.int .i64 o.1)=some (.int .i64 o.1):=keyOf_int_mk Tryz.underlying3 hid
 have hh:=hhas o.1 hid
 rw[zK hn] at hh
 have m1:=hC.mc
 have m1':=fun u=>(hC.below ((zA _ w).alloc (zW _) u)).mc
 have hmlt:=hown.lt
 have hm8:=(mayG_parts hmay).2.1
 have hlm:L.length<maxLen:=by simp only[maxLen];omega
 have h1:(o.1 == -1)=false:=by have:=hmo.id0;simp;omega
 have Hadd:=zZ (fun (W:World) (h:W.ownsMap Tryz.prog 3 unitElem Mb (L.length+1) (D.put (.int .i64 o.1) (.agg [])))=>SetM.add h hown.isMap hhas)
 clear hhas
 have Hmo:=zZ hmo
 have Hrec:=zZ hrec
 have HC:=zZ hC
 have Hcnt:=zZ (cntG_lt ho hn)
 have HL:=zZ hL
 clear hmo hrec hC hL
 -- where the object stands
 obtain⟨I,hI,hgi⟩:∃ I:Nat,findG g.2.1 o.1=(I:Int)∧g.2.1[I]?=some o:=by
  obtain⟨i,p,e1,e2,e3,-⟩:=findG_at (findG_mem.2 ⟨o,ho,rfl⟩)
  have:=mayG_apart hmay (List.mem_of_getElem? e2) ho e3
  subst this
  exact⟨i,e1,e2⟩
 obtain⟨hM,hMd,hdm⟩:=slice_len (rGr_open HC.out.rd).2.1
 have hIM:I<M:=by have:=(List.getElem?_eq_some_iff.1 hgi).1;omega
 go_enter Tryz.func136,Tryz.ntmps136
 go_wp2_with (first | (at_lookup;refine wpList_lookup_own_unit _ rfl _ _ 133 rfl 3 136 come_law rfl (come_zero _) Mb L.length D rfl hown _ _ rfl hkey ?_;rw[hh]) | (at_mapUpdate;refine wpList_mapUpdate_own _ rfl _ _ _ 133 rfl 3 136 come_law rfl (unitElem (H:=Unit)) Mb L.length D rfl (hown.alloc _) hlm _ _ _ rfl rfl hkey _ [] unitElem_mk ?_;intro w1 hown1 hgrow1) | fail)
 have HG1:=zZ ((World.grownBy_alloc w (.cells #[] 136) (some Mb)).trans hgrow1)
 have HS1:=zZ (Hadd.out _ hown1)
 have HC1:=zZ (HC.out.to HG1.out)
 have hml1:=hown1.lt
 obtain⟨b,off,A2,c2,rfl,hb,x0,x1,x2,hvs,-,-⟩:=ob_at (rGr_open HC1.out.rd).2.1 hgi
 have g0:=HC1.out.gb.cell (j:=0) rfl
 have g1:=HC1.out.gb.cell (j:=1) rfl
 have g2:=HC1.out.gb.cell (j:=2) rfl
 have hil:(I:Int)<(M:Int):=by omega
 have hi0:(0:Int)≤(I:Int):=by omega
 have T1:=zZ (fun W (hW:Below w1.heap.size w1 W)=>gfind_any A (some ⟨b,off,none⟩) C N c M d K e g o.1 W (HC1.out.below hW).all)
 rw[hI] at T1
 clear hown hown1 hgrow1 m1 m1' hh Hadd hkey hid
 simp only[Act.put]
 go_cut [7] (fun v7 wx=>∃ b7:Nat,v7=.pointer (some ⟨b7,0,none⟩)∧Blk wx b7 53 [.int .i64 o.1,.int .i64 o.2.1,.slice A2 o.2.2.length c2]∧w1.heap.size≤b7∧Below w1.heap.size w1 wx)
 case first=>
  have lg:=HC1.out.gb.lt
  have HS:=zZ (fun (W:World) (hW:Below w1.heap.size w1 W)=>And.intro ((hW.cell (p:=⟨Gb,0,none⟩) lg).trans g0) (And.intro ((hW.cell (p:=⟨Gb,1,none⟩) lg).trans g1) (And.intro ((hW.cell (p:=⟨Gb,2,none⟩) lg).trans g2)
   (And.intro ((hW.cell (p:=⟨b,off+I * 3,none⟩) hb.1).trans x0) (And.intro ((hW.cell (p:=⟨b,off+I * 3+1,none⟩) hb.1).trans x1) ((hW.cell (p:=⟨b,off+I * 3+2,none⟩) hb.1).trans x2))))))
  clear g0 g1 g2 x0 x1 x2
  refine fr_start (fun W=>W.cell? ⟨Gb,0,none⟩=some (.slice A N c)∧W.cell? ⟨Gb,1,none⟩=some (.slice (some ⟨b,off,none⟩) M d)∧W.cell? ⟨Gb,2,none⟩=some (.slice C K e)∧W.cell? ⟨b,off+I * 3,none⟩=some (.int .i64 o.1)∧W.cell? ⟨b,off+I * 3+1,none⟩=some (.int .i64 o.2.1)∧W.cell? ⟨b,off+I * 3+2,none⟩=some (.slice A2 o.2.2.length c2)) 9 (by kernel_rfl) rfl (fun _ _ _ _ _ h=>h) (HS.out _ (zA _ w1).drew) (fun hH=>?_)
  have hD:=(zA w1.heap.size w1).drew
  have hDs:w1.heap.size≤w1.drew.heap.size:=hD.size
  generalize w1.drew=wd at *
  (refine fr_yes 0 (v:=?_) rfl (by kernel_rfl) rfl ?_ hH ?_;rotate_left;(focus ((rintro W ⟨hW1,hW2,hW3,hW4,hW5,hW6⟩;go_simp) <;> with_reducible rfl));simp only[Act.put,zY,zX,zQ]);(refine fr_yes 1 (v:=?_) rfl (by kernel_rfl) rfl ?_ hH ?_;rotate_left;(focus ((rintro W ⟨hW1,hW2,hW3,hW4,hW5,hW6⟩;go_simp) <;> with_reducible rfl));simp only[Act.put,zY,zX,zQ]);(refine fr_yes 2 (v:=?_) rfl (by kernel_rfl) rfl ?_ hH ?_;rotate_left;(focus ((rintro W ⟨hW1,hW2,hW3,hW4,hW5,hW6⟩;go_simp) <;> with_reducible rfl));simp only[Act.put,zY,zX,zQ]);(refine fr_yes 3 (v:=?_) rfl (by kernel_rfl) rfl ?_ hH ?_;rotate_left;(focus ((rintro W ⟨hW1,hW2,hW3,hW4,hW5,hW6⟩;go_simp) <;> with_reducible rfl));simp only[Act.put,zY,zX,zQ])
  refine fr_op [4,7] (by kernel_rfl) (by simp) ?_;intro jj hjj;simp only[List.mem_cons,List.not_mem_nil,or_false] at hjj;rcases hjj with rfl | rfl
  ·refine⟨_,rfl,rfl,fun K hK=>?_⟩
   go_wp2_with (go_at_call 46;refine (T1.out _ hD).mono ?_;rintro e wg ⟨rfl,hCg⟩)
   have hDg:=hD.trans (hCg.mono hD.size)
   refine hK.out _ _ (HS.out _ hDg) ?_
   clear hK hH hCg
   have hH:=HS.out _ hDg
   (refine fr_yes 5 (v:=?_) rfl (by kernel_rfl) rfl ?_ hH ?_;rotate_left;(focus ((rintro W ⟨hW1,hW2,hW3,hW4,hW5,hW6⟩;go_simp) <;> with_reducible rfl));simp only[Act.put,zY,zX,zQ]);(refine fr_yes 6 (v:=?_) rfl (by kernel_rfl) rfl ?_ hH ?_;rotate_left;(focus ((rintro W ⟨hW1,hW2,hW3,hW4,hW5,hW6⟩;go_simp) <;> with_reducible rfl));simp only[Act.put,zY,zX,zQ])
   refine fr_op [7] (by kernel_rfl) (by simp) ?_;intro jj hjj;simp only[List.mem_cons,List.not_mem_nil,or_false] at hjj;subst hjj;refine⟨_,rfl,rfl,fun K hK=>?_⟩
   go_wp2
   have hDz:=hDg.alloc hDg.size (.cells #[.int .i64 0,.int .i64 0,.slice none 0 0] 53)
   refine hK.out _ _ (HS.out _ hDz) ?_
   clear hK hH
   refine fr_op [8] (by kernel_rfl) (by simp) ?_;intro jj hjj;simp only[List.mem_cons,List.not_mem_nil,or_false] at hjj;subst hjj;refine⟨_,rfl,rfl,fun K hK=>?_⟩
   go_wp2
   have hDe:=hDg.alloc hDg.size (.cells #[.int .i64 o.1,.int .i64 o.2.1,.slice A2 o.2.2.length c2] 53)
   refine hK.out _ _ (HS.out _ hDe) ?_
   clear hK
   refine fr_done (by kernel_rfl) ?_
   go_wp2
   go_meet
   case rel=>exact⟨_,rfl,Blk.new _ _ [.int .i64 o.1,.int .i64 o.2.1,.slice A2 o.2.2.length c2],hDg.size,hDe⟩
  ·refine⟨_,rfl,rfl,fun K hK=>?_⟩
   go_wp2
   have hDz:=hD.alloc hD.size (.cells #[.int .i64 0,.int .i64 0,.slice none 0 0] 53)
   have vz:=Blk.new wd 53 [.int .i64 0,.int .i64 0,.slice none 0 0]
   refine hK.out _ _ (HS.out _ hDz) ?_
   clear hK hH
   have hH:=HS.out _ hDz
   generalize wd.alloc (.cells #[.int .i64 0,.int .i64 0,.slice none 0 0] 53)=wz at *
   refine fr_op [4] (by kernel_rfl) (by simp) ?_;intro jj hjj;simp only[List.mem_cons,List.not_mem_nil,or_false] at hjj;subst hjj;refine⟨_,rfl,rfl,fun K hK=>?_⟩
   go_wp2_with (go_at_call 46;refine (T1.out _ hDz).mono ?_;rintro e wg ⟨rfl,hCg⟩)
   have hDg:=hDz.trans (hCg.mono hDz.size)
   have vg:=vz.to hCg
   refine hK.out _ _ (HS.out _ hDg) ?_
   clear hK hH hCg hDz vz
   have hH:=HS.out _ hDg
   (refine fr_yes 5 (v:=?_) rfl (by kernel_rfl) rfl ?_ hH ?_;rotate_left;(focus ((rintro W ⟨hW1,hW2,hW3,hW4,hW5,hW6⟩;go_simp) <;> with_reducible rfl));simp only[Act.put,zY,zX,zQ]);(refine fr_yes 6 (v:=?_) rfl (by kernel_rfl) rfl ?_ hH ?_;rotate_left;(focus ((rintro W ⟨hW1,hW2,hW3,hW4,hW5,hW6⟩;go_simp) <;> with_reducible rfl));simp only[Act.put,zY,zX,zQ])
   have z0:=vg.cell (j:=0) rfl
   have z1:=vg.cell (j:=1) rfl
   have z2:=vg.cell (j:=2) rfl
   have f0:=vg.frozen 0
   have f1:=vg.frozen 1
   have f2:=vg.frozen 2
   refine fr_op [8] (by kernel_rfl) (by simp) ?_;intro jj hjj;simp only[List.mem_cons,List.not_mem_nil,or_false] at hjj;subst hjj;refine⟨_,rfl,rfl,fun K hK=>?_⟩
   go_wp2
   have hDe:=((hDg.setCell (p:=⟨wd.heap.size,0,none⟩) hDs (.int .i64 o.1)).setCell (p:=⟨wd.heap.size,1,none⟩) hDs (.int .i64 o.2.1)).setCell (p:=⟨wd.heap.size,2,none⟩) hDs (.slice A2 o.2.2.length c2)
   refine hK.out _ _ (HS.out _ hDe) ?_
   clear hK hH
   refine fr_done (by kernel_rfl) ?_
   go_wp2
   go_meet
   case rel=>exact⟨_,rfl,((vg.set 0 (.int .i64 o.1)).set 1 (.int .i64 o.2.1)).set 2 (.slice A2 o.2.2.length c2),hDs,hDe⟩
 case rest=>
  obtain⟨b7,rfl,p7,hb7,hBx⟩:=hcut
  clear T1 x0 x1 x2 g0 g1 g2 hI hil hi0
  have HGx:=zZ (HG1.out.trans (below_grown hBx (some Mb)))
  have HCx:=zZ (HC1.out.below hBx)
  have HSx:=zZ (HS1.out.below hBx)
  have hvx:=rVals_stays.to (keepM (below_grown hBx (some Mb))) hvs
  have h7:b7≠Mb:=by omega
  clear hBx HG1 HC1 HS1 hvs hb7 hml1 HC
  obtain⟨t,ht⟩:∃ t:Nat,o.2.1=(t:Int):=⟨o.2.1.toNat,by have:=Hmo.out.t0;omega⟩
  obtain⟨hN,hNc,hcm⟩:=slice_len (rGr_open HCx.out.rd).1
  have htN:t<N:=by have:=Hmo.out.t1;omega
  have hgt:g.1[t]?=some g.1[t]:=zV (by omega)
  obtain⟨bt,offt,st,AF,cF,rfl,hbt,-,y1,-,-,hfs⟩:=typ_at (rGr_open HCx.out.rd).1 hgt
  have hFe:=fldsG_at ht hgt
  rw[← hFe] at y1 hfs
  obtain⟨hF,hFc,hFm⟩:=slice_len hfs
  have hlen:=Hmo.out.len
  have hmay':=Hmo.out.have'
  rw[ht] at p7
  have k1:=HCx.out.gb.cell (j:=0) rfl
  have k2:=p7.cell (j:=1) rfl
  have htl:(t:Int)<(N:Int):=by omega
  have ht0:(0:Int)≤(t:Int):=by omega
  simp only[maxLen] at hFm
  clear hFe hgt Hmo
  have Hfs:=zZ hfs
  have Hvx:=zZ hvx
  have P7:=zZ p7
  have Hlen:=zZ hlen
  have Hhave:=zZ hmay'
  clear hfs hvx p7 hlen hmay' hF
  generalize hfs0:fldsG g.1 o.2.1=fs at *
  generalize hfl:fs.length=fl at *
  generalize hvl:o.2.2.length=vl at *
  have hlv:=Hlen.out
  go_wp2
  clear k1 k2 y1
  go_loopw [40] (fun iv w'=>∃ (i:Nat) (Li:List Int),i≤fl∧iv=.int .i64 (i:Int)∧Hid (wc.grownBy w' (some Mb))∧Hid (SetM w' Mb Li)∧Hid (Li.length+cntG g.2.1 Li≤g.2.1.length∧DfsI g L Li o i)) (fun iv _=>fl - (intOf iv).toNat)
  case atStart=>exact⟨0,_,by omega,rfl,zZ (World.grownBy.refl _ _),HSx,zZ ⟨by have:=HL.out;have:=Hcnt.out;rw[List.length_append,List.length_singleton];omega,DfsI.start g L o⟩⟩
  case round=>
   rename_i iv wr
   obtain⟨i,Li,hi,rfl,hg,hS,hr⟩:=hrel
   by_cases hin:i<fl
   ·obtain⟨f,hfi⟩:∃ f,fs[i]?=some f:=⟨_,zV (by omega)⟩
    obtain⟨bf,offf,sx,tx,rfl,hbf,q0,q1,q2,-,-,-,-,-⟩:=fld_at (rFlds_stays.to (keepM hg.out) Hfs.out) hfi
    have hil:(i:Int)<(fl:Int):=by omega
    have hi0:(0:Int)≤(i:Int):=by omega
    have HA:=zZ (World.grownBy_alloc wr (.cells #[.string sx,.int .i64 f.2.1,.string tx] 97) (some Mb))
    by_cases h5:f.2.1=5
    ·have h5':(f.2.1 == 5)=true:=by simp[h5]
     obtain⟨v,hvi⟩:∃ v,o.2.2[i]?=some v:=⟨_,zV (by omega)⟩
     obtain⟨bv,offv,sv,rfl,hbv,-,-,r2,-,-,-,hvb⟩:=val_at (rVals_stays.to (keepM hg.out) Hvx.out) hvi
     have HGr:=zZ (hg.out.trans HA.out)
     have HCr:=zZ (HCx.out.to HGr.out)
     have HSr:=zZ (hS.out.kept (World.grownBy_alloc wr (.cells #[.string sx,.int .i64 f.2.1,.string tx] 97) none) (by simp))
     have p7r:Blk (wr.alloc (.cells #[.string sx,.int .i64 f.2.1,.string tx] 97)) b7 53 [.int .i64 o.1,.int .i64 (t:Int),.slice (some ⟨bv,offv,none⟩) vl c2]:=(HGr.out.block _ P7.out.lt (by simpa using h7)).trans P7.out
     have r2':(wr.alloc (.cells #[.string sx,.int .i64 f.2.1,.string tx] 97)).cell? ⟨bv,offv+i * 3+2,none⟩=some (.int .i64 v.2.2):=HA.out.cell r2 (by simpa using hbv.2)
     have T9:=zZ (fun W hC9 hS9=>Hrec.out v.2.2 Li W (WalkArith.wf_i64 hvb) (by
      by_cases e1:v.2.2 = -1
      ·exact .inl e1
      ·exact .inr (haveG_ref (Hhave.out i f v hfi hvi) h5 e1).1) (by have:=cntG_le (os:=g.2.1) hr.out.2.more;have:=Hcnt.out;omega) hr.out.1 hC9 hS9)
     have Hst:=zZ (fun Lj hd=>hr.out.2.step (Mj:=Lj) ho (by rw[hfs0];exact hfi) hvi h5 hd)
     have S0:=And.intro HCr.out.vc (And.intro (p7r.cell (j:=2) rfl) r2')
     have hilv:(i:Int)<(vl:Int):=by omega
     clear r2 r2' hfi hvi h5 hvb
     generalize hkk:f.2.1=kk at *
     generalize hrr:v.2.2=rr at *
     clear hkk
     go_wp2
     generalize wr.alloc (.cells #[.string sx,.int .i64 kk,.string tx] 97)=W1 at *
     refine sch_start [(0,true),(1,true),(2,true),(3,true),(4,true),(5,true),(6,true),(7,false)]
      (fun W=>W.cell? ⟨Vc,0,none⟩=some (.func (.func 136) #[] #[.pointer (some ⟨Mc,0,none⟩),.pointer (some ⟨Gb,0,none⟩),.pointer (some ⟨Vc,0,none⟩)])∧W.cell? ⟨b7,2,none⟩=some (.slice (some ⟨bv,offv,none⟩) vl c2)∧W.cell? ⟨bv,offv+i * 3+2,none⟩=some (.int .i64 rr)) (by kernel_rfl) rfl (by kernel_rfl) (fun _ _ _ _ _ h=>h) S0 (fun hH=>?_)
     repeat (first | (refine sch_yes (v:=?_) rfl rfl ?_ hH ?_;rotate_left;(focus ((rintro W ⟨hW1,hW2,hW3⟩;go_simp) <;> with_reducible rfl));simp only[Act.put,zY,zX,zQ]) | (refine sch_no rfl rfl hH ?_;simp only[Act.put,zY,zX,zQ]))
     refine sch_call rfl rfl (fun K' hK=>?_)
     go_wp2_with (go_at_call 136;refine (T9.out _ (HCr.out.below (zA _ W1).drew) (HSr.out.below (zA _ W1).drew)).mono ?_;rintro e w9 ⟨rfl,Lj,hS9,hL9,hd9,hg9⟩)
     have hG9:W1.grownBy w9 (some Mb):=(below_grown (zA _ W1).drew (some Mb)).trans hg9
     have S9:=And.intro (HCr.out.to hG9).vc (And.intro (hG9.cell S0.2.1 (by simpa using h7)) (hG9.cell S0.2.2 (by simpa using hbv.2)))
     refine hK.out _ _ S9 ?_
     clear hK hH
     refine sch_done ?_
     go_wp2
     go_roundw
     case rel=>exact⟨i+1,Lj,by omega,by go_num,zZ (HGr.out.trans hG9),zZ hS9,zZ ⟨hL9,Hst.out Lj hd9⟩⟩
     case measure=>simp[intOf];omega
    ·have h5':(f.2.1 == 5)=false:=by simp[h5]
     have Hp:=zZ (hr.out.2.pass (by rw[hfs0];exact hfi) h5)
     clear hfi h5
     generalize f.2.1=kk at *
     go_wp2
     go_roundw
     case rel=>exact⟨i+1,Li,by omega,by go_num,zZ (hg.out.trans HA.out),zZ (hS.out.kept (World.grownBy_alloc _ _ none) (by simp)),zZ ⟨hr.out.1,Hp.out⟩⟩
     case measure=>simp[intOf];omega
   ·obtain rfl:i=fl:=by omega
    have Hall:=zZ (hr.out.2.all ho (by omega) (by simpa using h1) (fun p hp e=>mayG_apart hmay hp ho e))
    go_wp2
    go_end0
    exact⟨rfl,Li,hS.out,hr.out.1,Hall.out,HGx.out.trans hg.out⟩
theorem visit_any (A B C:Option Addr) (N c M d K e:Nat) (g:Gr) (Gb Mc Vc Mb:Nat) (hmay:mayG g=true):∀ (n:Nat) (id:Int) (L:List Int) (w:World),cntG g.2.1 L≤n→(Lit.int .i64 id).wf=true→(id = -1∨findG g.2.1 id≠-1)→L.length+cntG g.2.1 L≤g.2.1.length→CW A B C N c M d K e g Gb Mc Vc Mb w→SetM w Mb L →
  Calls Tryz.prog 136 #[.int .i64 id,.pointer (some ⟨Mc,0,none⟩),.pointer (some ⟨Gb,0,none⟩),.pointer (some ⟨Vc,0,none⟩)] w (Visits g Mb id L w):=by
 intro n
 induction n with
 | zero=>
  intro id L w hn hw hi hL hC hS
  refine visit_skip A B C N c M d K e g Gb Mc Vc Mb id L w hw hL hC hS ?_
  by_cases h1:id = -1
  ·exact .inl h1
  ·obtain⟨o,ho,rfl⟩:=findG_mem.1 (hi.resolve_left h1)
   by_cases h2:o.1∈L
   ·exact .inr h2
   ·have:=cntG_lt ho h2;omega
 | succ n ih=>
  intro id L w hn hw hi hL hC hS
  by_cases h1:id = -1
  ·exact visit_skip A B C N c M d K e g Gb Mc Vc Mb id L w hw hL hC hS (.inl h1)
  ·obtain⟨o,ho,rfl⟩:=findG_mem.1 (hi.resolve_left h1)
   by_cases h2:o.1∈L
   ·exact visit_skip A B C N c M d K e g Gb Mc Vc Mb o.1 L w hw hL hC hS (.inr h2)
   ·exact visit_go A B C N c M d K e g Gb Mc Vc Mb hmay o ho L w h2 hL hC hS (fun id' L' W a1 a2 a3 a4 a5 a6=>ih id' L' W (by omega) a1 a2 a4 a5 a6)
theorem four_boxes (w:World) (o1 o2 o3 o4:Obj):((((w.alloc o1).alloc o2).alloc o3).alloc o4).heap[w.heap.size]?=some o1∧((((w.alloc o1).alloc o2).alloc o3).alloc o4).heap[w.heap.size+1]?=some o2∧((((w.alloc o1).alloc o2).alloc o3).alloc o4).heap[w.heap.size+2]?=some o3∧((((w.alloc o1).alloc o2).alloc o3).alloc o4).heap[w.heap.size+3]?=some o4:=by
 have e1:(w.alloc o1).heap.size=w.heap.size+1:=by simp
 have e2:((w.alloc o1).alloc o2).heap.size=w.heap.size+2:=by simp
 have e3:(((w.alloc o1).alloc o2).alloc o3).heap.size=w.heap.size+3:=by simp
 refine⟨?_,?_,?_,?_⟩
 ·rw[Below.heap_alloc _ _ _ (by omega),Below.heap_alloc _ _ _ (by omega),Below.heap_alloc _ _ _ (by omega)];exact heap_alloc_new w o1
 ·rw[Below.heap_alloc _ _ _ (by omega),Below.heap_alloc _ _ _ (by omega),← e1];exact heap_alloc_new _ o2
 ·rw[Below.heap_alloc _ _ _ (by omega),← e2];exact heap_alloc_new _ o3
 ·rw[← e3];exact heap_alloc_new _ o4
theorem cntG_nil (os:List Ob):cntG os []=os.length:=by
 induction os with
 | nil=>rfl
 | cons o os ih=>rw[cntG_cons,ih,if_neg (by simp),List.length_cons];omega
theorem comeTo_any (A B C:Option Addr) (N c M d K e:Nat) (g:Gr) (w:World) (h:rGr (All w) w [.slice A N c,.slice B M d,.slice C K e] g) (hmay:mayG g=true):
  Calls Tryz.prog 99 #[.agg #[.slice A N c,.slice B M d,.slice C K e]] w fun e w'=>∃ Mb L,e=.returned (.map (some Mb))∧SetM w' Mb L∧(∀ x,x∈L↔ComeG g x)∧w.heap.size≤Mb∧Below w.heap.size w w':=by
 have hmm:=@run_makeMap Tryz.prog
 obtain⟨hK,hKe,hem⟩:=slice_len (rGr_open h).2.2
 simp only[maxLen] at hem
 obtain⟨q1,q2,q3,q4⟩:=four_boxes w (.cells #[.slice A N c,.slice B M d,.slice C K e] 28) (.map #[] 0) (.cells #[.map (some (w.heap.size+1))] 133) (.cells #[.func (.func 136) #[] #[.pointer (some ⟨w.heap.size+2,0,none⟩),.pointer (some ⟨w.heap.size,0,none⟩),.pointer (some ⟨w.heap.size+3,0,none⟩)]] 165)
 have HB:=zZ (fun o1 o2 o3 o4=>(((((zA w.heap.size w).alloc (zW _) o1).alloc (by simp) o2).alloc (by simp;omega) o3).alloc (by simp;omega) o4:Below w.heap.size w ((((w.alloc o1).alloc o2).alloc o3).alloc o4)))
 have Hown:=zZ (World.ownsMap_made (H:=Unit) (w.alloc (.cells #[.slice A N c,.slice B M d,.slice C K e] 28)) Tryz.prog 3 unitElem)
 have HC0:=zZ (CW.mk (g:=g) q1 (Blk.cell (cs:=[_]) q3 (j:=0) rfl) (Blk.cell (cs:=[_]) q4 (j:=0) rfl) (rGr_stays.to (fun b hb=>⟨⟨Nat.lt_of_lt_of_le hb (HB.out _ _ _ _).size,by have:b<w.heap.size:=hb;omega⟩,(HB.out _ _ _ _).block b hb⟩) h) ⟨by omega,by omega,by omega⟩)
 have e1:(w.alloc (.cells #[.slice A N c,.slice B M d,.slice C K e] 28)).heap.size=w.heap.size+1:=by simp
 rw[e1] at Hown
 have HS0:=zZ (show SetM _ (w.heap.size+1) [] from ⟨_,(Hown.out.alloc (.cells #[.map (some (w.heap.size+1))] 133)).alloc (.cells #[.func (.func 136) #[] #[.pointer (some ⟨w.heap.size+2,0,none⟩),.pointer (some ⟨w.heap.size,0,none⟩),.pointer (some ⟨w.heap.size+3,0,none⟩)]] 165),fun x _=>by simp[Maps.has]⟩)
 clear q1 q2 q3 q4 Hown e1
 have HK:=zZ (mayG_parts hmay).2.2.2.2
 have p4:∀ o1 o2 o3,Blk ((((w.alloc o1).alloc o2).alloc o3).alloc (.cells #[.nilFunc] 165)) (w.heap.size+1+1+1) 165 [.nilFunc]:=fun o1 o2 o3=>(four_boxes w o1 o2 o3 _).2.2.2
 have c4:=fun o1 o2 o3=>(p4 o1 o2 o3).cell (j:=0) rfl
 have f4:=fun o1 o2 o3=>(p4 o1 o2 o3).frozen 0
 clear h
 go_enter Tryz.func99,Tryz.ntmps99
 go_wp2
 go_loopw [12] (fun iv w'=>∃ (i:Nat) (L:List Int),i≤K∧iv=.int .i64 (i:Int)∧Hid (CW A B C N c M d K e g w.heap.size (w.heap.size+2) (w.heap.size+3) (w.heap.size+1) w')∧Hid (SetM w' (w.heap.size+1) L)∧Hid (L.length+cntG g.2.1 L≤g.2.1.length∧DfsR g L i)∧Hid (Below w.heap.size w w')) (fun iv _=>K - (intOf iv).toNat)
 case atStart=>exact⟨0,[],by omega,rfl,HC0,HS0,zZ ⟨by rw[cntG_nil];simp,DfsR.start g⟩,zZ (HB.out _ _ _ _)⟩
 case round=>
  rename_i iv wr
  obtain⟨i,L,hi,rfl,hC,hS,hr,hB⟩:=hrel
  clear HC0 HS0 HB
  by_cases hin:i<K
  ·obtain⟨x,hx⟩:∃ x,g.2.2[i]?=some x:=⟨_,zV (by omega)⟩
   obtain⟨b,off,rfl,hb,hx1,hxb⟩:=id_at (rGr_open hC.out.rd).2.2 hx
   have hil:(i:Int)<(K:Int):=by omega
   have hi0:(0:Int)≤(i:Int):=by omega
   have vc':wr.cell? ⟨w.heap.size+1+1+1,0,none⟩=some (.func (.func 136) #[] #[.pointer (some ⟨w.heap.size+1+1,0,none⟩),.pointer (some ⟨w.heap.size,0,none⟩),.pointer (some ⟨w.heap.size+1+1+1,0,none⟩)]):=hC.out.vc
   have T9:Hid (Calls Tryz.prog 136 #[.int .i64 x,.pointer (some ⟨w.heap.size+1+1,0,none⟩),.pointer (some ⟨w.heap.size,0,none⟩),.pointer (some ⟨w.heap.size+1+1+1,0,none⟩)] wr (Visits g (w.heap.size+1) x L wr)):=
    zZ (visit_any A B (some ⟨b,off,none⟩) N c M d K e g w.heap.size (w.heap.size+2) (w.heap.size+3) (w.heap.size+1) hmay _ x L wr (zW _) (WalkArith.wf_i64 hxb) (by
     have:=HK.out x (List.mem_of_getElem? hx)
     rw[rootG,Bool.or_eq_true,decide_eq_true_eq,decide_eq_true_eq] at this
     exact this) hr.out.1 hC.out hS.out)
   have Hx:=zZ hx
   clear hx
   go_wp2_with (first | (go_at_call 136;refine T9.out.mono ?_;rintro e w9 ⟨rfl,Lj,hS9,hL9,hd9,hg9⟩) | fail)
   go_roundw
   case rel=>exact⟨i+1,Lj,by omega,by go_num,zZ (hC.out.to hg9),zZ hS9,zZ ⟨hL9,hr.out.2.step Hx.out hd9⟩,zZ (hB.out.grown hg9 hB.out.size (fun k hk=>by cases hk;exact Nat.le_succ _))⟩
   case measure=>simp[intOf];omega
  ·obtain rfl:i=K:=by omega
   have mc':wr.cell? ⟨w.heap.size+1+1,0,none⟩=some (.map (some (w.heap.size+1))):=hC.out.mc
   have Hall:=zZ (fun x=>hr.out.2.all (by omega) x)
   go_wp2
   go_ret
   exact⟨w.heap.size+1,L,rfl,hS.out,Hall.out,Nat.le_succ _,hB.out⟩
theorem del_any (x y:Int) (A2:Option Addr) (n2 c2:Nat) (L:List Int) (Mb g:Nat) (w:World) (hn:w.cell? ⟨g,0,none⟩=some (.map (some Mb))) (hg:g<w.heap.size) (hS:SetM w Mb L) (hw:(Lit.int .i64 x).wf=true):
  Calls Tryz.prog 101 #[.agg #[.int .i64 x,.int .i64 y,.slice A2 n2 c2],.pointer (some ⟨g,0,none⟩)] w fun e w'=>e=.returned (.bool (!decide (x∈L)))∧Below w.heap.size w w':=by
 have hB:Below w.heap.size w (w.alloc (.cells #[.int .i64 x,.int .i64 y,.slice A2 n2 c2] 53)):=(zA _ w).alloc (zW _) _
 have hn':=(hB.cell (p:=⟨g,0,none⟩) hg).trans hn
 obtain⟨D,hown,hhas⟩:=hS.below hB
 have hkey:keyOf Tryz.prog 3 (.int .i64 x)=some (.int .i64 x):=keyOf_int_mk Tryz.underlying3 hw
 have hh:=hhas x hw
 clear hhas hS
 go_enter Tryz.func101,Tryz.ntmps101
 go_wp2_with (first | (at_lookup;refine wpList_lookup_own_unit _ rfl _ _ 133 rfl 3 136 come_law rfl (come_zero _) Mb L.length D rfl hown _ _ rfl hkey ?_;rw[hh]) | fail)
 go_ret
 exact⟨rfl,hB.alloc hB.size _⟩
theorem indexD_any (A:Option Addr) (N c:Nat) (l:List Ob) (L:List Int) (Mb g:Nat) (w:World) (h:rObs (All w) w [.slice A N c] l) (hn:w.cell? ⟨g,0,none⟩=some (.map (some Mb))) (hg:g<w.heap.size) (hS:SetM w Mb L):
  Calls Tryz.prog 86 #[.slice A N c,.func (.func 101) #[] #[.pointer (some ⟨g,0,none⟩)]] w fun e w'=>e=.returned (.int .i64 (idxP (fun o=>!decide (o.1∈L)) l))∧Below w.heap.size w w':=by
 obtain⟨hN,hNc,hcm⟩:=slice_len h
 simp only[maxLen] at hcm
 go_enter Tryz.func86,Tryz.ntmps86
 go_wp2
 go_loopw [8] (fun iv w'=>∃ i:Nat,i≤N∧iv=.int .i64 (i:Int)∧Below w.heap.size w w'∧∀ j o,j<i→l[j]?=some o→(!decide (o.1∈L))=false) (fun iv _=>N - (intOf iv).toNat)
 case atStart=>exact⟨0,by omega,rfl,zA _ _,fun j t hj=>by omega⟩
 case round=>
  rename_i iv wr
  obtain⟨i,hi,rfl,hB,hno⟩:=hrel
  have h:=obs_below hB h
  have hn:wr.cell? ⟨g,0,none⟩=some (.map (some Mb)):=(hB.cell (p:=⟨g,0,none⟩) hg).trans hn
  have hg:g<wr.heap.size:=Nat.lt_of_lt_of_le hg hB.size
  have hS:=hS.kept (below_grown hB none) (by simp)
  by_cases hin:i<N
  ·have hli:l[i]?=some l[i]:=zV (by omega)
   obtain⟨b,off,A2,c2,rfl,hb,hx1,hx2,hx3,-,hid,-⟩:=ob_at h hli
   have T1:=zZ (del_any l[i].1 l[i].2.1 A2 l[i].2.2.length c2 L Mb g wr hn hg hS (WalkArith.wf_i64 hid))
   have hil:(i:Int)<(N:Int):=by omega
   have hi0:(0:Int)≤(i:Int):=by omega
   have Hno:=zZ hno
   have Hli:=zZ hli
   have HB:=zZ hB
   clear hno hli h hB hS
   by_cases he:(!decide (l[i].1∈L))=true
   ·have Hr:Hid (idxP (fun o=>!decide (o.1∈L)) l=(i:Int)):=(idxP_iff _ l i).2 ⟨⟨l[i],Hli.out,he⟩,fun j b hj hb=>Hno.out j b hj hb⟩
    rw[he] at T1
    clear he
    generalize l[i].1=x1 at *
    generalize l[i].2.1=x2 at *
    generalize l[i].2.2.length=x3 at *
    go_wp2_with (first | (go_at_call 101;refine T1.out.mono ?_;rintro e w1 ⟨rfl,hB1⟩) | fail)
    go_ret
    exact⟨by rw[Hr.out];rfl,HB.out.trans (hB1.mono HB.out.size)⟩
   ·replace he:(!decide (l[i].1∈L))=false:=by simpa using he
    have Hr:Hid (∀ j o,j<i+1→l[j]?=some o→(!decide (o.1∈L))=false):=fun j t hj ht=>by
     by_cases hji:j<i
     ·exact Hno.out j t hji ht
     ·obtain rfl:j=i:=by omega
      rw[Hli.out] at ht
      injection ht with ht
      subst ht
      exact he
    rw[he] at T1
    clear he
    generalize l[i].1=x1 at *
    generalize l[i].2.1=x2 at *
    generalize l[i].2.2.length=x3 at *
    go_wp2_with (first | (go_at_call 101;refine T1.out.mono ?_;rintro e w1 ⟨rfl,hB1⟩) | fail)
    go_roundw
    case rel=>exact⟨i+1,by omega,by go_num,HB.out.trans (hB1.mono HB.out.size),Hr.out⟩
    case measure=>simp[intOf];omega
  ·obtain rfl:i=N:=by omega
   have Hr:Hid (idxP (fun o=>!decide (o.1∈L)) l = -1):=(idxP_none _ l).2 fun t ht=>by
    obtain⟨j,hj⟩:=List.getElem?_of_mem ht
    have:=(List.getElem?_eq_some_iff.1 hj).1
    exact hno j t (by omega) hj
   clear hno
   go_wp2
   go_ret
   exact⟨by rw[Hr.out];rfl,hB⟩
theorem deleteFunc_any (b2 n:Nat) (z:List (Ob × Nat)) (L:List Int) (lo hi Mb g:Nat) (w:World) (hz:z.length=n) (hnm:n≤8) (hb:Blk w b2 53 (cellsZ z)) (hI:InZ lo hi w z) (hhi:hi≤w.heap.size) (hn:w.cell? ⟨g,0,none⟩=some (.map (some Mb))) (hg:g<w.heap.size) (hS:SetM w Mb L) (hgb:g≠b2) (hmb:Mb≠b2):
  Calls Tryz.prog 100 #[.slice (some ⟨b2,0,none⟩) n n,.func (.func 101) #[] #[.pointer (some ⟨g,0,none⟩)]] w fun e w'=>
   ∃ (k:Nat) (rest:List Value),e=.returned (.slice (some ⟨b2,0,none⟩) k n)∧k=(z.filter fun p=>decide (p.1.1∈L)).length∧Blk w' b2 53 (cellsZ (z.filter fun p=>decide (p.1.1∈L))++rest)∧w.grownBy w' (some b2):=by
 have hr:rObs (All w) w [.slice (some ⟨b2,0,none⟩) n n] (z.map (·.1)):=blk_slice hb (hI.ob.chunks.imp fun cs a hq=>rOb_stays.to (Keeps.mono fun b hb=>by show b<_;omega) hq) hb.lt (by simp[hz,maxLen];omega) (by simpa using hz)
 have T1:=zZ (indexD_any (some ⟨b2,0,none⟩) n n (z.map (·.1)) L Mb g w hr hn hg hS)
 have hwf:∀ p∈z,(Lit.int .i64 p.1.1).wf=true:=fun p hp=>(hI.1 p hp).2.2.1
 have Hix:=zZ (fun i=>(idxP_iff (fun o:Ob=>!decide (o.1∈L)) (z.map (·.1)) i).1)
 have Hno:=zZ (idxP_none (fun o:Ob=>!decide (o.1∈L)) (z.map (·.1))).1
 have Hlo:=zZ (idxP_low (fun o:Ob=>!decide (o.1∈L)) (z.map (·.1)))
 clear hr hI
 generalize idxP (fun o:Ob=>!decide (o.1∈L)) (z.map (·.1))=q at *
 by_cases hq:q = -1
 ·subst hq
  have hall:(z.filter fun p=>decide (p.1.1∈L))=z:=List.filter_eq_self.2 fun p hp=>by
   have:=Hno.out rfl p.1 (List.mem_map_of_mem hp)
   simpa using this
  have Hall:=zZ hall
  clear hall
  go_enter Tryz.func100,Tryz.ntmps100
  go_wp2_with (first | (go_at_call 86;refine T1.out.mono ?_;rintro e w1 ⟨rfl,hB1⟩) | fail)
  go_ret
  refine⟨n,[],rfl,by rw[Hall.out,hz],?_,below_grown hB1 _⟩
  rw[Hall.out,List.append_nil]
  exact hb.to hB1
 ·obtain⟨i0,hi0⟩:∃ i0:Nat,q=(i0:Int):=⟨q.toNat,by have:=Hlo.out;omega⟩
  subst hi0
  obtain⟨⟨o0,ho0,hp0⟩,hbefore⟩:=Hix.out i0 rfl
  rw[List.getElem?_map,Option.map_eq_some_iff] at ho0
  obtain⟨p0,hz0,rfl⟩:=ho0
  have hi0n:i0<n:=by have:=(List.getElem?_eq_some_iff.1 hz0).1;omega
  have hpre:(z.take (i0+1)).filter (fun p=>decide (p.1.1∈L))=z.take i0:=by
   rw[take_at hz0,List.filter_append,List.filter_cons_of_neg (by simpa using hp0),List.filter_nil,List.append_nil]
   refine List.filter_eq_self.2 fun p hp=>?_
   obtain⟨j,hj⟩:=List.getElem?_of_mem hp
   rw[List.getElem?_take] at hj
   split at hj
   ·have:=hbefore j p.1 (by assumption) (by rw[List.getElem?_map,hj];rfl)
    simpa using this
   ·cases hj
  have hcut:cellsZ z=cellsZ ((z.take (i0+1)).filter (fun p=>decide (p.1.1∈L)))++(cellsZ [p0]++cellsZ (z.drop (i0+1))):=by
   rw[hpre,← cellsZ_append,← cellsZ_append]
   congr 1
   rw[List.singleton_append,← (List.getElem?_eq_some_iff.1 hz0).2,← List.drop_eq_getElem_cons,List.take_append_drop]
  have hq':((i0:Int) == -1)=false:=by rw[beq_eq_false_iff_ne];omega
  have hlen0:((z.take (i0+1)).filter (fun p=>decide (p.1.1∈L))).length=i0:=by rw[hpre,List.length_take];omega
  rw[hcut] at hb
  have Hlen0:=zZ hlen0
  have Hb:=zZ hb
  clear hbefore hp0 hpre hcut Hix Hno Hlo hz0 hlen0 hb
  go_enter Tryz.func100,Tryz.ntmps100
  go_wp2_with (first | (go_at_call 86;refine T1.out.mono ?_;rintro e w1 ⟨rfl,hB1⟩) | fail)
  go_loopw [5,6] (fun iv jv w'=>∃ (i j:Nat) (mid:List Value),i<j∧j≤n∧iv=.int .i64 (i:Int)∧jv=.int .i64 (j:Int)∧Hid (mid.length=(j - i) * 3∧((z.take j).filter (fun p=>decide (p.1.1∈L))).length=i∧Blk w' b2 53 (cellsZ ((z.take j).filter (fun p=>decide (p.1.1∈L)))++(mid++cellsZ (z.drop j)))∧w.grownBy w' (some b2))) (fun _ jv _=>n - (intOf jv).toNat)
  case atStart=>exact⟨i0,i0+1,cellsZ [p0],by omega,by omega,rfl,by go_num,zZ ⟨by rw[cellsZ_len,List.length_singleton];omega,Hlen0.out,Hb.out.to hB1,below_grown hB1 _⟩⟩
  case round=>
   rename_i iv jv wr
   obtain⟨i,j,mid,hij,hjn,rfl,rfl,hr⟩:=hrel
   clear Hlen0 Hb T1 hB1
   by_cases hin:j<n
   ·obtain⟨p,hzj⟩:∃ p,z[j]?=some p:=⟨_,zV (by omega)⟩
    have hil:(j:Int)<(n:Int):=by omega
    have hj0:(0:Int)≤(j:Int):=by omega
    have hin2:(i:Int)<(n:Int):=by omega
    have hii0:(0:Int)≤(i:Int):=by omega
    obtain⟨r1,r2,r3,r4⟩:=hr.out
    have hdj:z.drop j=p :: z.drop (j+1):=by rw[List.drop_eq_getElem_cons (by omega),(List.getElem?_eq_some_iff.1 hzj).2]
    rw[hdj,cellsZ_cons] at r3
    have hlen:(cellsZ ((z.take j).filter (fun p=>decide (p.1.1∈L)))++mid).length=j * 3:=by rw[List.length_append,cellsZ_len,r2,r1];omega
    have hlen1:(cellsZ ((z.take j).filter (fun p=>decide (p.1.1∈L)))).length=i * 3:=by rw[cellsZ_len,r2]
    have r3':=r3
    rw[← List.append_assoc] at r3'
    have x0:=r3'.cell (j:=j * 3) (at_end0 hlen)
    have x1:=r3'.cell (j:=j * 3+1) (at_end hlen 1)
    have x2:=r3'.cell (j:=j * 3+2) (at_end hlen 2)
    have hpz:=List.mem_of_getElem? hzj
    have hnr:=r4.cell hn (by simpa using hgb)
    have hSr:=hS.kept r4 (by simpa using hmb)
    have hgr:g<wr.heap.size:=Nat.lt_of_lt_of_le hg r4.size
    have hB2:Below wr.heap.size wr (wr.alloc (.cells #[.int .i64 p.1.1,.int .i64 p.1.2.1,.slice (some ⟨p.2,0,none⟩) p.1.2.2.length p.1.2.2.length] 53)):=(zA _ wr).alloc (zW _) _
    have T2:=zZ (del_any p.1.1 p.1.2.1 (some ⟨p.2,0,none⟩) p.1.2.2.length p.1.2.2.length L Mb g _ ((hB2.cell (p:=⟨g,0,none⟩) hgr).trans hnr) (Nat.lt_of_lt_of_le hgr hB2.size) (hSr.below hB2) (hwf p hpz))
    have htk:=take_at hzj
    have b3:=Blk.new wr 53 [.int .i64 p.1.1,.int .i64 p.1.2.1,.slice (some ⟨p.2,0,none⟩) p.1.2.2.length p.1.2.2.length]
    by_cases hk:p.1.1∈L
    ·rw[zJ hk] at T2
     obtain⟨z0,z1,z2,tl,hmid,htl⟩:=cons3 (n:=j - i) (t:=mid++[.int .i64 p.1.1,.int .i64 p.1.2.1,.slice (some ⟨p.2,0,none⟩) p.1.2.2.length p.1.2.2.length]) (by rw[List.length_append,r1];simp;omega)
     have hf':(z.take (j+1)).filter (fun p=>decide (p.1.1∈L))=(z.take j).filter (fun p=>decide (p.1.1∈L))++[p]:=by rw[htk,List.filter_append,List.filter_cons_of_pos (by simpa using hk),List.filter_nil]
     have r3c:Blk wr b2 53 (cellsZ ((z.take j).filter (fun p=>decide (p.1.1∈L)))++(z0 :: z1 :: z2 :: (tl++cellsZ (z.drop (j+1))))):=by
      have e:mid++Value.int .i64 p.1.1 :: .int .i64 p.1.2.1 :: .slice (some ⟨p.2,0,none⟩) p.1.2.2.length p.1.2.2.length :: cellsZ (z.drop (j+1))=z0 :: z1 :: z2 :: (tl++cellsZ (z.drop (j+1))):=by
       have:=congrArg (·++cellsZ (z.drop (j+1))) hmid
       simpa using this
      rw[e] at r3
      exact r3
     have Hf:=zZ hf'
     have R3:=zZ r3c
     have H1:=zZ hlen1
     have Hr2:=zZ r2
     have Hr4:=zZ r4
     have Htl:=zZ htl
     clear r3 r3' r3c r1 r2 r4 hdj hlen hlen1 hmid htl hf' htk hzj hr hSr hnr
     go_wp2_with fail
     refine T2.out.mono ?_
     rintro e w2 ⟨rfl,hB3⟩
     have hC:Below wr.heap.size wr w2:=hB2.trans (hB3.mono hB2.size)
     have c3:=b3.to hB3
     have r5:=R3.out.to hC
     have f0:=r5.frozen (i * 3)
     have f1:=r5.frozen (i * 3+1)
     have f2:=r5.frozen (i * 3+2)
     have e0:=r5.cell (j:=i * 3) (u:=z0) (at_end0 H1.out)
     have e1:=r5.cell (j:=i * 3+1) (u:=z1) (at_end H1.out 1)
     have e2:=r5.cell (j:=i * 3+2) (u:=z2) (at_end H1.out 2)
     have d0:=c3.cell (j:=0) rfl
     have d1:=c3.cell (j:=1) rfl
     have d2:=c3.cell (j:=2) rfl
     go_wp2
     go_roundw
     case rel=>
      have P4:=((r5.set (i * 3) (.int .i64 p.1.1)).set (i * 3+1) (.int .i64 p.1.2.1)).set (i * 3+2) (.slice (some ⟨p.2,0,none⟩) p.1.2.2.length p.1.2.2.length)
      rw[set_mid3 H1.out] at P4
      refine⟨i+1,j+1,tl,by omega,by omega,by go_num,by go_num,zZ ⟨by rw[Htl.out];congr 1;omega,by rw[Hf.out,List.length_append,Hr2.out];rfl,?_,?_⟩⟩
      ·rw[Hf.out,cellsZ_append]
       exact P4
      ·have hq:=(((zA b2 w2).setCell (p:=⟨b2,i * 3,none⟩) (zW _) (.int .i64 p.1.1)).setCell (p:=⟨b2,i * 3+1,none⟩) (zW _) (.int .i64 p.1.2.1)).setCell (p:=⟨b2,i * 3+2,none⟩) (zW _) (.slice (some ⟨p.2,0,none⟩) p.1.2.2.length p.1.2.2.length)
       refine (Hr4.out.trans (below_grown hC _)).trans ⟨hq.os,hq.tape,hq.output,hq.size,fun k hk hne=>?_⟩
       have hne':k≠b2:=by simpa using hne
       rw[Below.heap_setCell _ _ _ _ hne',Below.heap_setCell _ _ _ _ hne',Below.heap_setCell _ _ _ _ hne']
     case measure=>simp[intOf];omega
    ·rw[zK hk] at T2
     have hf':(z.take (j+1)).filter (fun p=>decide (p.1.1∈L))=(z.take j).filter (fun p=>decide (p.1.1∈L)):=by rw[htk,List.filter_append,List.filter_cons_of_neg (by simpa using hk),List.filter_nil,List.append_nil]
     have Hf:=zZ hf'
     have R3:=zZ r3
     have Hr1:=zZ r1
     have Hr2:=zZ r2
     have Hr4:=zZ r4
     clear r3 r3' r1 r2 r4 hdj hlen hlen1 hf' htk hzj hr hSr hnr b3
     go_wp2_with fail
     refine T2.out.mono ?_
     rintro e w2 ⟨rfl,hB3⟩
     have hC:Below wr.heap.size wr w2:=hB2.trans (hB3.mono hB2.size)
     go_wp2
     go_roundw
     case rel=>
      refine⟨i,j+1,mid++cellsZ [p],by omega,by omega,rfl,by go_num,zZ ⟨by rw[List.length_append,Hr1.out,cellsZ_len];simp;omega,by rw[Hf.out,Hr2.out],?_,Hr4.out.trans (below_grown hC _)⟩⟩
      rw[Hf.out]
      have:=R3.out.to hC
      rw[List.append_assoc]
      exact this
     case measure=>simp[intOf];omega
   ·obtain rfl:j=n:=by omega
    obtain⟨r1,r2,r3,r4⟩:=hr.out
    rw[List.take_of_length_le (by omega)] at r2 r3
    rw[List.drop_of_length_le (by omega)] at r3
    have s1:=fun W=>run_rest b2 j i (by omega) W
    have s2:=fun W=>run_first b2 j i (by omega) W
    obtain⟨w3,ds,hcl,p3,q3,t3,g3⟩:=run_clear r3 (i * 3) (j - i) (j - i) (by omega) (by rw[List.length_append,cellsZ_len,r2,List.length_append,r1];omega)
    have Hfin:Hid (∃ rest,Blk w3 b2 53 (cellsZ (z.filter fun p=>decide (p.1.1∈L))++rest)):=zZ ⟨ds.drop (i * 3),by
     have:cellsZ (z.filter fun p=>decide (p.1.1∈L))=ds.take (i * 3):=by
      rw[t3,List.take_append_of_le_length (by rw[cellsZ_len,r2];exact zW _),List.take_of_length_le (by rw[cellsZ_len,r2];exact zW _)]
     rw[this,List.take_append_drop]
     exact p3⟩
    have Hr2:=zZ r2
    have Hg:=zZ (r4.trans g3)
    clear r1 r2 r3 r4 p3 q3 t3 g3 hr
    go_wp2
    go_ret
    obtain⟨rest,hfin⟩:=Hfin.out
    exact⟨i,rest,rfl,Hr2.out.symm,hfin,Hg.out⟩
end Go.Proofs.YtnljjnkindjeoaaGreatDoor
namespace Go.Proofs.YtnljjnkindjeoaaGreatDoor
open Go.RowKit
theorem swept_read {H b1 b2 m K c3 k M:Nat} {w4 W:World} {g:Gr} {A3:Option Addr} {z:List (Ob × Nat)} {L:List Int} {rest:List Value} (hG:OwnG H w4 g b1 b2 m (.slice A3 K c3)) (hK:g.2.2.length=K) (hs:w4.heap.size≤W.heap.size) (hk:∀ b,b1≤b→b<w4.heap.size→b≠b2→W.heap[b]?=w4.heap[b]?)
  (hI:InZ b2 m w4 z) (hz:z.map (·.1)=g.2.1) (hb:Blk W b2 53 (cellsZ (z.filter fun p=>decide (p.1.1∈L))++rest)) (hM:g.2.1.length=M) (hkl:k=(z.filter fun p=>decide (p.1.1∈L)).length):
  rGr (fun b=>b1≤b∧b<W.heap.size) W [.slice (some ⟨b1,0,none⟩) g.1.length g.1.length,.slice (some ⟨b2,0,none⟩) k M,.slice A3 K c3] (g.1,g.2.1.filter (fun o=>decide (o.1∈L)),g.2.2):=by
 have:=hG.low;have:=hG.one;have:=hG.two;have:=hG.top
 have hlen:=hG.len
 have hf:(z.filter fun p=>decide (p.1.1∈L)).map (·.1)=g.2.1.filter (fun o=>decide (o.1∈L)):=by
  rw[← hz,List.filter_map];rfl
 have hI':InZ b2 m W (z.filter fun p=>decide (p.1.1∈L)):=(hI.filter _).keep fun b h1 h2=>hk b (by omega) (by omega) (by omega)
 refine rGr_mk (rSch_stays.to (fun b hb=>⟨by show b1≤b∧b<_;omega,hk b hb.1 (by omega) (by omega)⟩) hG.sch) ?_ ?_
 ·refine pre_slice hb (Chunks.imp (by rw[← hf];exact hI'.ob.chunks) fun cs a hq=>rOb_stays.to (Keeps.mono fun b hb=>by show b1≤b∧b<_;omega) hq) (by show b1≤b2∧b2<_;omega) (by rw[← hf,List.length_map,hkl]) ?_ (by omega)
  rw[hkl,← hM,← hz,List.length_map]
  exact List.length_filter_le _ _
 ·exact rIds_stays.to (fun b hb=>⟨by show b1≤b∧b<_;omega,hk b (by omega) hb.2 (by omega)⟩) (ids_own (hK ▸ hG.ids) hK hG.wf)
theorem gsweep_in (A B C:Option Addr) (N c M d K e:Nat) (g:Gr) (w:World) (h:rGr (All w) w [.slice A N c,.slice B M d,.slice C K e] g):
  Calls Tryz.prog 55 #[.agg #[.slice A N c,.slice B M d,.slice C K e]] w fun e w'=>∃ A1 c1 B1 d1 C1 e1,e=.returned (.agg #[.slice A1 (sweepG g).1.length c1,.slice B1 (sweepG g).2.1.length d1,.slice C1 (sweepG g).2.2.length e1]) ∧
   rGr (fun b=>w.heap.size≤b∧b<w'.heap.size) w' [.slice A1 (sweepG g).1.length c1,.slice B1 (sweepG g).2.1.length d1,.slice C1 (sweepG g).2.2.length e1] (sweepG g)∧Below w.heap.size w w':=by
 obtain⟨hN,hNc,hcm⟩:=slice_len (rGr_open h).1
 obtain⟨hM,hMd,hdm⟩:=slice_len (rGr_open h).2.1
 obtain⟨hK,hKe,hem⟩:=slice_len (rGr_open h).2.2
 have hB0:Below w.heap.size w ((w.alloc (.cells #[.slice A N c,.slice B M d,.slice C K e] 28)).alloc (.cells #[.slice none 0 0,.slice none 0 0,.slice none 0 0] 28)):=((zA _ w).alloc (zW _) _).alloc (by simp) _
 obtain⟨p1,p2⟩:=blk_two w 28 28 [.slice A N c,.slice B M d,.slice C K e] [.slice none 0 0,.slice none 0 0,.slice none 0 0]
 have T1:=zZ (gmay_any A B C N c M d K e g _ (gr_below hB0 h))
 have HB0:=zZ hB0
 have s0:w.heap.size+2=((w.alloc (.cells #[.slice A N c,.slice B M d,.slice C K e] 28)).alloc (.cells #[.slice none 0 0,.slice none 0 0,.slice none 0 0] 28)).heap.size:=by simp
 clear hB0
 go_enter Tryz.func55,Tryz.ntmps55
 go_wp2_with fail
 refine T1.out.mono ?_
 rintro e w1 ⟨rfl,hB1⟩
 have H1:=zZ (HB0.out.trans (hB1.mono HB0.out.size))
 have s1:w.heap.size+2≤w1.heap.size:=by rw[s0];exact hB1.size
 replace p1:=p1.to hB1
 replace p2:=p2.to hB1
 clear hB1 HB0 T1 s0
 by_cases hm:mayG g=true
 ·rw[hm]
  have T2:=zZ (comeTo_any A B C N c M d K e g w1 (gr_below H1.out h) hm)
  have T3:=zZ (fun W (hW:Below w.heap.size w W)=>copyGraph_any A B C N c M d K e g W (gr_below hW h) (tame_may h hm))
  have h8:=(mayG_parts hm).2.1
  have Hsw:=zZ (fun L hL=>sweepG_set (g:=g) (L:=L) hm hL)
  clear h
  have c0:=p1.cell (j:=0) rfl
  have c1:=p1.cell (j:=1) rfl
  have c2:=p1.cell (j:=2) rfl
  go_wp2_with fail
  refine T2.out.mono ?_
  rintro e w2 ⟨Mb,L,rfl,hS,hL,hMb,hB2⟩
  have hMb2:Mb<w2.heap.size:=by obtain⟨D,h1,_⟩:=hS;exact h1.lt
  have hB3:Below w2.heap.size w2 (w2.alloc (.cells #[.map (some Mb)] 133)):=(zA _ w2).alloc (zW _) _
  have hBm:Below w1.heap.size w1 (w2.alloc (.cells #[.map (some Mb)] 133)):=hB2.trans (hB3.mono hB2.size)
  have H3:=zZ (H1.out.trans (hBm.mono H1.out.size))
  have pm:=Blk.new w2 133 [.map (some Mb)]
  have s3:(w2.alloc (.cells #[.map (some Mb)] 133)).heap.size=w2.heap.size+1:=by simp
  have s12:=hB2.size
  have hS3:=hS.below hB3
  replace p1:=p1.to hBm
  replace p2:=p2.to hBm
  clear c0 c1 c2 hB2 hB3 hBm hS H1
  have c0:=p1.cell (j:=0) rfl
  have c1:=p1.cell (j:=1) rfl
  have c2:=p1.cell (j:=2) rfl
  go_wp2_with fail
  refine (T3.out _ H3.out).mono ?_
  rintro e w4 ⟨b1,b2,m,A3,c3,rfl,hG,hB4⟩
  have a1:=hG.low
  have a2:=hG.one
  have a3:=hG.two
  have a4:=hG.top
  obtain⟨ds,hds,hin⟩:=hG.obs
  obtain⟨z,rfl,hzm,hIz⟩:=hin.z
  have hB5:Below w4.heap.size w4 (w4.alloc (.cells #[.slice (some ⟨b1,0,none⟩) N N,.slice (some ⟨b2,0,none⟩) M M,.slice A3 K c3] 28)):=(zA _ w4).alloc (zW _) _
  have hB45:=hB4.trans (hB5.mono hB4.size)
  have H5:=zZ (H3.out.trans (hB45.mono H3.out.size))
  have p5:=Blk.new w4 28 [.slice (some ⟨b1,0,none⟩) N N,.slice (some ⟨b2,0,none⟩) M M,.slice A3 K c3]
  have s5:(w4.alloc (.cells #[.slice (some ⟨b1,0,none⟩) N N,.slice (some ⟨b2,0,none⟩) M M,.slice A3 K c3] 28)).heap.size=w4.heap.size+1:=by simp
  have s34:=hB4.size
  replace p1:=p1.to hB45
  replace p2:=p2.to hB45
  have pm5:=pm.to hB45
  have T4:=zZ (deleteFunc_any b2 M z L b2 m Mb w2.heap.size _ (by rw[← hM,← hzm,List.length_map]) (by omega) (hds.to hB5) (hIz.keep fun b _ hb=>hB5.block b (by omega)) (by rw[s5];omega) (pm5.cell (j:=0) rfl) pm5.lt (hS3.below hB45) (by omega) (by omega))
  have HG:=zZ hG
  have HB5:=zZ hB5
  clear c0 c1 c2 hG hds hin pm hS3 hB4 hB45 H3 T3 hB5
  go_wp2_with fail
  refine T4.out.mono ?_
  rintro e w6 ⟨k,rest,rfl,hk,hb6,hg6⟩
  have Hk:=zZ hk
  clear hk
  have q1:Blk w6 (w.heap.size) 28 [.slice A N c,.slice B M d,.slice C K e]:=(hg6.block _ p1.lt (by simp;omega)).trans p1
  have q2:Blk w6 (w.heap.size+1) 28 [.slice none 0 0,.slice none 0 0,.slice none 0 0]:=(hg6.block _ p2.lt (by simp;omega)).trans p2
  have q5:Blk w6 w4.heap.size 28 [.slice (some ⟨b1,0,none⟩) N N,.slice (some ⟨b2,0,none⟩) M M,.slice A3 K c3]:=(hg6.block _ p5.lt (by simp;omega)).trans p5
  have f1:=q5.frozen 1
  have d1:=q5.cell (j:=1) rfl
  have r5:=q5.set 1 (.slice (some ⟨b2,0,none⟩) k M)
  have r2:=q2.other ⟨w4.heap.size,1,none⟩ (.slice (some ⟨b2,0,none⟩) k M) (by simp;omega)
  have x0:=r5.cell (j:=0) rfl
  have x1:=r5.cell (j:=1) rfl
  have x2:=r5.cell (j:=2) rfl
  have y0:=r2.cell (j:=0) rfl
  have y1:=r2.cell (j:=1) rfl
  have y2:=r2.cell (j:=2) rfl
  have g0:=r2.frozen 0
  have g1:=r2.frozen 1
  have g2:=r2.frozen 2
  go_wp2
  have P9:=((r2.set 0 (.slice (some ⟨b1,0,none⟩) N N)).set 1 (.slice (some ⟨b2,0,none⟩) k M)).set 2 (.slice A3 K c3)
  refine ret_cell0 (d:=.struct _) (cs:=[.slice (some ⟨b1,0,none⟩) N N,.slice (some ⟨b2,0,none⟩) k M,.slice A3 K c3]) rfl P9 rfl rfl rfl rfl rfl ?_
  have hkeep:∀ b,b≠w4.heap.size→b≠w.heap.size+1→((((w6.setCell ⟨w4.heap.size,1,none⟩ (.slice (some ⟨b2,0,none⟩) k M)).setCell ⟨w.heap.size+1,0,none⟩ (.slice (some ⟨b1,0,none⟩) N N)).setCell ⟨w.heap.size+1,1,none⟩ (.slice (some ⟨b2,0,none⟩) k M)).setCell ⟨w.heap.size+1,2,none⟩ (.slice A3 K c3)).heap[b]?=w6.heap[b]?:=fun b n1 n2=>by
   rw[Below.heap_setCell _ _ _ _ n2,Below.heap_setCell _ _ _ _ n2,Below.heap_setCell _ _ _ _ n2,Below.heap_setCell _ _ _ _ n1]
  have hrd:=swept_read (L:=L) HG.out hK (W:=(((w6.setCell ⟨w4.heap.size,1,none⟩ (.slice (some ⟨b2,0,none⟩) k M)).setCell ⟨w.heap.size+1,0,none⟩ (.slice (some ⟨b1,0,none⟩) N N)).setCell ⟨w.heap.size+1,1,none⟩ (.slice (some ⟨b2,0,none⟩) k M)).setCell ⟨w.heap.size+1,2,none⟩ (.slice A3 K c3))
   (by have:=hg6.size;simp;omega) (fun b n1 n2 n3=>by rw[hkeep b (by omega) (by omega),hg6.block b (by omega) (by simpa using n3),HB5.out.block b n2]) hIz hzm ((hkeep b2 (by omega) (by omega)).trans hb6) hM Hk.out
  rw[← Hsw.out L hL] at hrd
  have e1:=(slice_len (rGr_open hrd).1).1
  have e2:=(slice_len (rGr_open hrd).2.1).1
  have e3:=(slice_len (rGr_open hrd).2.2).1
  rw[hN] at hrd e1
  refine⟨some ⟨b1,0,none⟩,N,some ⟨b2,0,none⟩,M,A3,c3,?_,?_,?_⟩
  ·rw[e1,e2,e3]
  ·rw[e1,e2,e3];exact rGr_stays.to (Keeps.mono fun b hb=>⟨by omega,hb.2⟩) hrd
  ·have hz9:=H5.out.grown hg6 H5.out.size (fun k hk=>by cases hk;omega)
   exact (((hz9.setCell (p:=⟨w4.heap.size,1,none⟩) (by show w.heap.size≤w4.heap.size;omega) (.slice (some ⟨b2,0,none⟩) k M)).setCell (p:=⟨w.heap.size+1,0,none⟩) (by simp) (.slice (some ⟨b1,0,none⟩) N N)).setCell (p:=⟨w.heap.size+1,1,none⟩) (by simp) (.slice (some ⟨b2,0,none⟩) k M)).setCell (p:=⟨w.heap.size+1,2,none⟩) (by simp) (.slice A3 K c3)
 ·replace hm:mayG g=false:=by simpa using hm
  rw[hm]
  have y0:=p2.cell (j:=0) rfl
  have y1:=p2.cell (j:=1) rfl
  have y2:=p2.cell (j:=2) rfl
  have g0:=p2.frozen 0
  have g1:=p2.frozen 1
  have g2:=p2.frozen 2
  go_wp2
  have P9:=((p2.set 0 (.slice none 0 0)).set 1 (.slice none 0 0)).set 2 (.slice none 0 0)
  refine ret_cell0 (d:=.struct _) (cs:=[.slice none 0 0,.slice none 0 0,.slice none 0 0]) rfl P9 rfl rfl rfl rfl rfl ?_
  rw[sweepG_no hm]
  refine⟨none,0,none,0,none,0,rfl,rGr_mk ⟨none,0,[],rfl,zW _,Nat.zero_le _,.inl rfl,Chunks.nil⟩ ⟨none,0,[],rfl,zW _,Nat.zero_le _,.inl rfl,Chunks.nil⟩ ⟨none,0,[],rfl,zW _,Nat.zero_le _,.inl rfl,Chunks.nil⟩,?_⟩
  exact ((H1.out.setCell (p:=⟨w.heap.size+1,0,none⟩) (by simp) (.slice none 0 0)).setCell (p:=⟨w.heap.size+1,1,none⟩) (by simp) (.slice none 0 0)).setCell (p:=⟨w.heap.size+1,2,none⟩) (by simp) (.slice none 0 0)
end Go.Proofs.YtnljjnkindjeoaaGreatDoor
