/- The texts ScPlainAll, GrActsAll, GrLeapPlainAll, CaQAll in one (as far as the seat has what they speak of); what each proves, and its conditions, stands before it. -/
import Derived.Laws.RangeAny
import Derived.WalkKit
import Derived.Test.YtnljjnkindjeoaaGreatDoorAl
namespace Go.Proofs.YtnljjnkindjeoaaGreatDoor
def byt (s:ByteArray):List Nat:=s.data.toList.map UInt8.toNat
@[simp] theorem byt_length (s:ByteArray):(byt s).length=s.size:=by
 rw[byt,List.length_map,Array.length_toList];rfl
theorem byt_lt (s:ByteArray):∀ x∈byt s,x<256:=by
 intro x hx
 obtain⟨u,_,rfl⟩:=List.mem_map.1 hx
 exact u.toNat_lt
theorem byt_getD (s:ByteArray) (i:Nat):(byt s).getD i 0=(s.get! i).toNat:=by
 have h:s.get! i=s.data.toList.getD i 0:=by
  show s.data[i]! = _
  rw[List.getD_eq_getElem?_getD,Array.getElem?_toList,getElem!_def]
  cases s.data[i]? <;> rfl
 rw[h,byt,List.getD_eq_getElem?_getD,List.getD_eq_getElem?_getD,List.getElem?_map]
 cases s.data.toList[i]? <;> rfl
theorem byt_inj {s t:ByteArray} (h:byt s=byt t):s=t:=by
 obtain⟨⟨s⟩⟩:=s
 obtain⟨⟨t⟩⟩:=t
 have:s=t:=by
  simp only[byt] at h
  exact List.map_inj_right (fun a b e=>UInt8.toNat_inj.1 e) |>.1 h
 rw[this]
def mid (x:Nat):Bool:=decide (128≤x∧x<192)
def v3 (a b c:Nat):Nat:=(a - 224) * 4096+(b - 128) * 64+(c - 128)
def v4 (a b c d:Nat):Nat:=(a - 240) * 262144+(b - 128) * 4096+(c - 128) * 64+(d - 128)
def sigOf (a b c d:Nat):Nat × Nat:=
 if a<128 then (a,1)
 else if 194≤a∧a<224∧mid b then ((a - 192) * 64+(b - 128),2)
 else if 224≤a∧a<240∧mid b∧mid c∧2048≤v3 a b c∧¬ (55296≤v3 a b c∧v3 a b c<57344) then (v3 a b c,3)
 else if 240≤a∧a<248∧mid b∧mid c∧mid d∧65536≤v4 a b c d∧v4 a b c d<1114112 then (v4 a b c d,4)
 else (65533,1)
def sig (l:List Nat):Nat × Nat:=sigOf (l.getD 0 0) (l.getD 1 0) (l.getD 2 0) (l.getD 3 0)
theorem mid_of {x:Nat} (h:mid x=true):128≤x∧x<192:=of_decide_eq_true h
section
variable {a b c d : Nat}
theorem sig_1 (h:a<128):sigOf a b c d=(a,1):=by rw[sigOf,if_pos h]
theorem sig_2 (h:194≤a) (h':a<224) (hb:mid b=true):sigOf a b c d=((a - 192) * 64+(b - 128),2):=by
 rw[sigOf,if_neg (by omega),if_pos ⟨h,h',hb⟩]
theorem sig_3 (h:224≤a) (h':a<240) (hb:mid b=true) (hc:mid c=true) (hv:2048≤v3 a b c) (hs:¬ (55296≤v3 a b c∧v3 a b c<57344)):sigOf a b c d=(v3 a b c,3):=by
 rw[sigOf,if_neg (by omega),if_neg (by omega),if_pos ⟨h,h',hb,hc,hv,hs⟩]
theorem sig_4 (h:240≤a) (h':a<248) (hb:mid b=true) (hc:mid c=true) (hd:mid d=true) (hv:65536≤v4 a b c d) (hs:v4 a b c d<1114112):sigOf a b c d=(v4 a b c d,4):=by
 rw[sigOf,if_neg (by omega),if_neg (by omega),if_neg (by omega),if_pos ⟨h,h',hb,hc,hd,hv,hs⟩]
theorem sig_x (h:¬ a<128) (h2:¬ (194≤a∧a<224∧mid b=true)) (h3:¬ (224≤a∧a<240∧mid b=true∧mid c=true∧2048≤v3 a b c∧¬ (55296≤v3 a b c∧v3 a b c<57344)))
  (h4:¬ (240≤a∧a<248∧mid b=true∧mid c=true∧mid d=true∧65536≤v4 a b c d∧v4 a b c d<1114112)):sigOf a b c d=(65533,1):=by
 rw[sigOf,if_neg h,if_neg h2,if_neg h3,if_neg h4]
end
theorem valid_nat (v:Nat):Utf8.valid (v:Int)=true↔v<55296∨(57344≤v∧v<1114112):=by
 rw[Utf8.valid,Bool.or_eq_true,Bool.and_eq_true,Bool.and_eq_true,decide_eq_true_iff,decide_eq_true_iff,decide_eq_true_iff,decide_eq_true_iff]
 omega
theorem dec_sig (s:ByteArray) (i:Nat):Utf8.decode s i=sig ((byt s).drop i):=by
 have hg:∀ k,(s.get! (i+k)).toNat=((byt s).drop i).getD k 0:=fun k=>by
  rw[← byt_getD,List.getD_eq_getElem?_getD,List.getD_eq_getElem?_getD,List.getElem?_drop]
 have hc:∀ k,(decide (i+k<s.size) && ((byt s).drop i).getD k 0 / 64 == 2)=mid (((byt s).drop i).getD k 0):=fun k=>by
  by_cases h:i+k<s.size
  ·rw[zJ h,Bool.true_and,mid]
   generalize ((byt s).drop i).getD k 0=x
   by_cases hm:128≤x∧x<192
   ·rw[zJ hm];exact beq_iff_eq.2 (by omega)
   ·rw[zK hm];exact beq_eq_false_iff_ne.2 (by omega)
  ·have h0:((byt s).drop i).getD k 0=0:=by
    rw[List.getD_eq_getElem?_getD,List.getElem?_eq_none (by rw[List.length_drop,byt_length];omega)];rfl
   rw[h0,zK h];rfl
 have hl:∀ k,((byt s).drop i).getD k 0<256:=fun k=>by rw[← hg];exact UInt8.toNat_lt _
 have l0:=hl 0;have l1:=hl 1;have l2:=hl 2;have l3:=hl 3
 simp only[Utf8.decode,hg,hc,sig]
 generalize ((byt s).drop i).getD 0 0=a at *
 generalize ((byt s).drop i).getD 1 0=b at *
 generalize ((byt s).drop i).getD 2 0=c at *
 generalize ((byt s).drop i).getD 3 0=d at *
 clear hg hc hl
 have hre:Utf8.runeError=65533:=rfl
 rw[hre]
 by_cases ha:a<128
 ·rw[if_pos ha,sig_1 ha]
 rw[if_neg ha]
 by_cases h2:(a / 32 == 6 && mid b)=true
 ·rw[if_pos h2]
  rw[Bool.and_eq_true,beq_iff_eq] at h2
  obtain⟨h2,hb⟩:=h2
  have hb':=mid_of hb
  by_cases h4:194≤a
  ·have e:a % 32 * 64+b % 64=(a - 192) * 64+(b - 128):=by omega
   rw[if_pos (by omega),sig_2 h4 (by omega) hb,e]
  ·rw[if_neg (by omega),sig_x ha (by omega) (by omega) (by omega)]
 rw[if_neg h2]
 have g2:¬ (194≤a∧a<224∧mid b=true):=fun h=>h2 (by rw[Bool.and_eq_true,beq_iff_eq];exact⟨by omega,h.2.2⟩)
 by_cases h3:(a / 16 == 14 && mid b && mid c)=true
 ·rw[if_pos h3]
  rw[Bool.and_eq_true,Bool.and_eq_true,beq_iff_eq] at h3
  obtain⟨⟨h3,hb⟩,hcc⟩:=h3
  have hb':=mid_of hb
  have hc':=mid_of hcc
  have hv:a % 16 * 4096+b % 64 * 64+c % 64=v3 a b c:=by unfold v3;omega
  have hlt:v3 a b c<65536:=by unfold v3;omega
  rw[hv]
  by_cases hq:2048≤v3 a b c∧¬ (55296≤v3 a b c∧v3 a b c<57344)
  ·rw[if_pos (by rw[Bool.and_eq_true,decide_eq_true_iff,valid_nat];omega),sig_3 (by omega) (by omega) hb hcc hq.1 hq.2]
  ·rw[if_neg (by rw[Bool.and_eq_true,decide_eq_true_iff,valid_nat];omega),sig_x ha g2 (fun h=>hq h.2.2.2.2) (by omega)]
 rw[if_neg h3]
 have g3:¬ (224≤a∧a<240∧mid b=true∧mid c=true∧2048≤v3 a b c∧¬ (55296≤v3 a b c∧v3 a b c<57344)):=fun h=>h3 (by rw[Bool.and_eq_true,Bool.and_eq_true,beq_iff_eq];exact⟨⟨by omega,h.2.2.1⟩,h.2.2.2.1⟩)
 by_cases h4:(a / 8 == 30 && mid b && mid c && mid d)=true
 ·rw[if_pos h4]
  rw[Bool.and_eq_true,Bool.and_eq_true,Bool.and_eq_true,beq_iff_eq] at h4
  obtain⟨⟨⟨h4,hb⟩,hcc⟩,hd⟩:=h4
  have hb':=mid_of hb
  have hc':=mid_of hcc
  have hd':=mid_of hd
  have hv:a % 8 * 262144+b % 64 * 4096+c % 64 * 64+d % 64=v4 a b c d:=by unfold v4;omega
  rw[hv]
  by_cases hq:65536≤v4 a b c d∧v4 a b c d<1114112
  ·rw[if_pos (by rw[Bool.and_eq_true,decide_eq_true_iff,valid_nat];omega),sig_4 (by omega) (by omega) hb hcc hd hq.1 hq.2]
  ·rw[if_neg (by rw[Bool.and_eq_true,decide_eq_true_iff,valid_nat];omega),sig_x ha g2 g3 (fun h=>hq h.2.2.2.2.2)]
 rw[if_neg h4,sig_x ha g2 g3 (fun h=>h4 (by rw[Bool.and_eq_true,Bool.and_eq_true,Bool.and_eq_true,beq_iff_eq];exact⟨⟨⟨by omega,h.2.2.1⟩,h.2.2.2.1⟩,h.2.2.2.2.1⟩))]
theorem sigOf_cases (a b c d:Nat):(a<128∧sigOf a b c d=(a,1))∨(194≤a∧a<224∧mid b=true∧sigOf a b c d=((a - 192) * 64+(b - 128),2)) ∨
  (224≤a∧mid b=true∧mid c=true∧2048≤v3 a b c∧sigOf a b c d=(v3 a b c,3))∨(240≤a∧mid b=true∧mid c=true∧mid d=true∧65536≤v4 a b c d∧sigOf a b c d=(v4 a b c d,4))∨(128≤a∧sigOf a b c d=(65533,1)):=by
 by_cases ha:a<128
 ·exact .inl ⟨ha,sig_1 ha⟩
 by_cases h2:194≤a∧a<224∧mid b=true
 ·exact .inr (.inl ⟨h2.1,h2.2.1,h2.2.2,sig_2 h2.1 h2.2.1 h2.2.2⟩)
 by_cases h3:224≤a∧a<240∧mid b=true∧mid c=true∧2048≤v3 a b c∧¬ (55296≤v3 a b c∧v3 a b c<57344)
 ·exact .inr (.inr (.inl ⟨h3.1,h3.2.2.1,h3.2.2.2.1,h3.2.2.2.2.1,sig_3 h3.1 h3.2.1 h3.2.2.1 h3.2.2.2.1 h3.2.2.2.2.1 h3.2.2.2.2.2⟩))
 by_cases h4:240≤a∧a<248∧mid b=true∧mid c=true∧mid d=true∧65536≤v4 a b c d∧v4 a b c d<1114112
 ·exact .inr (.inr (.inr (.inl ⟨h4.1,h4.2.2.1,h4.2.2.2.1,h4.2.2.2.2.1,h4.2.2.2.2.2.1,sig_4 h4.1 h4.2.1 h4.2.2.1 h4.2.2.2.1 h4.2.2.2.2.1 h4.2.2.2.2.2.1 h4.2.2.2.2.2.2⟩)))
 ·exact .inr (.inr (.inr (.inr ⟨by omega,sig_x ha h2 h3 h4⟩)))
theorem mid_in {l:List Nat} {k:Nat} (h:mid (l.getD k 0)=true):k<l.length:=by
 rcases Nat.lt_or_ge k l.length with h1 | h1
 ·exact h1
 ·rw[List.getD_eq_getElem?_getD,List.getElem?_eq_none h1] at h
  cases h
theorem sig_wide (l:List Nat):1≤(sig l).2∧(l≠[]→(sig l).2≤l.length)∧∀ k,1≤k→k<(sig l).2→mid (l.getD k 0)=true:=by
 have hne:l≠[]→1≤l.length:=fun h=>List.length_pos_iff.2 h
 rw[sig]
 rcases sigOf_cases (l.getD 0 0) (l.getD 1 0) (l.getD 2 0) (l.getD 3 0) with⟨_,e⟩ | ⟨_,_,h1,e⟩ | ⟨_,h1,h2,_,e⟩ | ⟨_,h1,h2,h3,_,e⟩ | ⟨_,e⟩
 all_goals rw[e]
 ·exact⟨zW _,hne,fun k hk hk'=>absurd hk' (by simp only;omega)⟩
 ·have:=mid_in h1
  refine⟨by simp,fun _=>by simp only;omega,fun k hk hk'=>?_⟩
  simp only at hk'
  obtain rfl:k=1:=by omega
  exact h1
 ·have:=mid_in h2
  refine⟨by simp,fun _=>by simp only;omega,fun k hk hk'=>?_⟩
  simp only at hk'
  obtain rfl | rfl:k=1∨k=2:=by omega
  ·exact h1
  ·exact h2
 ·have:=mid_in h3
  refine⟨by simp,fun _=>by simp only;omega,fun k hk hk'=>?_⟩
  simp only at hk'
  obtain rfl | rfl | rfl:k=1∨k=2∨k=3:=by omega
  ·exact h1
  ·exact h2
  ·exact h3
 ·exact⟨zW _,hne,fun k hk hk'=>absurd hk' (by simp only;omega)⟩
def sigs:Nat→List Nat→List Nat
 | 0,_=>[]
 | n+1,l=>if l=[] then [] else (sig l).1 :: sigs n (l.drop (sig l).2)
def sgn (l:List Nat):List Nat:=sigs l.length l
theorem sigs_enough:∀ (n m:Nat) (l:List Nat),l.length≤n→l.length≤m→sigs n l=sigs m l:=by
 intro n
 induction n with
 | zero=>
  intro m l h1 _
  obtain rfl:l=[]:=List.eq_nil_of_length_eq_zero (by omega)
  cases m <;> simp[sigs]
 | succ n ih=>
  intro m l h1 h2
  by_cases hl:l=[]
  ·subst hl
   cases m <;> simp[sigs]
  ·cases m with
   | zero=>exact absurd (List.eq_nil_of_length_eq_zero (by omega)) hl
   | succ m=>
    have hw:=(sig_wide l).1
    have hlen:(l.drop (sig l).2).length≤l.length - 1:=by rw[List.length_drop];omega
    rw[sigs,sigs,if_neg hl,if_neg hl,ih m _ (by omega) (by omega)]
theorem sgn_nil:sgn []=[]:=rfl
theorem sgn_cons {l:List Nat} (h:l≠[]):sgn l=(sig l).1 :: sgn (l.drop (sig l).2):=by
 have hp:0<l.length:=List.length_pos_iff.2 h
 have hw:=(sig_wide l).1
 obtain⟨n,hn⟩:∃ n,l.length=n+1:=⟨l.length - 1,by omega⟩
 rw[sgn,hn,sigs,if_neg h,sgn]
 rw[sigs_enough n _ _ (by rw[List.length_drop];omega) (zW _)]
theorem sgn_length_le (l:List Nat):(sgn l).length≤l.length:=by
 suffices h:∀ (n:Nat) (l:List Nat),l.length≤n→(sgn l).length≤l.length from h _ l (zW _)
 intro n
 induction n with
 | zero=>
  intro l hl
  obtain rfl:l=[]:=List.eq_nil_of_length_eq_zero (by omega)
  simp[sgn_nil]
 | succ n ih=>
  intro l hl
  by_cases h:l=[]
  ·subst h;simp[sgn_nil]
  ·have hp:0<l.length:=List.length_pos_iff.2 h
   have hw:=(sig_wide l).1
   have:=ih (l.drop (sig l).2) (by rw[List.length_drop];omega)
   rw[sgn_cons h,List.length_cons]
   rw[List.length_drop] at this
   omega
def encS (c:Nat):List Nat:=if c<128 then [c] else [192+c / 64,128+c % 64]
def encL:List Nat→List Nat
 | []=>[]
 | c :: cs=>encS c++encL cs
theorem two_more {l:List Nat} (h:2≤l.length):∃ a b t,l=a :: b :: t:=by
 rcases l with _ | ⟨a,_ | ⟨b,t⟩⟩
 ·simp at h
 ·simp at h
 ·exact⟨a,b,t,rfl⟩
theorem sig_back {l:List Nat} (hl:l≠[]) (h:(sig l).1<2048):l=encS (sig l).1++l.drop (sig l).2:=by
 have hw:=(sig_wide l).2.1 hl
 rw[sig] at h hw ⊢
 rcases sigOf_cases (l.getD 0 0) (l.getD 1 0) (l.getD 2 0) (l.getD 3 0) with⟨h0,e⟩ | ⟨h0,h0',h1,e⟩ | ⟨_,_,_,h1,e⟩ | ⟨_,_,_,_,h1,e⟩ | ⟨_,e⟩
 all_goals rw[e] at h hw ⊢
 all_goals simp only at h hw ⊢
 ·cases l with
  | nil=>exact absurd rfl hl
  | cons a t=>
   simp only[List.getD_cons_zero] at h0 ⊢
   rw[encS,if_pos h0];rfl
 ·clear e h
  obtain⟨a,b,t,rfl⟩:=two_more hw
  simp only[List.getD_cons_zero,List.getD_cons_succ] at h0 h0' h1 ⊢
  have hb:=mid_of h1
  have e1:192+((a - 192) * 64+(b - 128)) / 64=a:=by omega
  have e2:128+((a - 192) * 64+(b - 128)) % 64=b:=by omega
  rw[encS,if_neg (by omega),e1,e2];rfl
 ·omega
 ·omega
 ·omega
theorem enc_sgn (l:List Nat) (h:∀ c∈sgn l,c<2048):encL (sgn l)=l:=by
 suffices H:∀ (n:Nat) (l:List Nat),l.length≤n→(∀ c∈sgn l,c<2048)→encL (sgn l)=l from H _ l (zW _) h
 intro n
 induction n with
 | zero=>
  intro l hl _
  obtain rfl:l=[]:=List.eq_nil_of_length_eq_zero (by omega)
  rfl
 | succ n ih=>
  intro l hl hc
  by_cases h0:l=[]
  ·subst h0;rfl
  ·have hw:=(sig_wide l).1
   have hp:0<l.length:=List.length_pos_iff.2 h0
   rw[sgn_cons h0] at hc ⊢
   have hb:=sig_back h0 (hc _ (by simp))
   rw[encL,ih _ (by rw[List.length_drop];omega) (fun c h=>hc c (by simp[h]))]
   exact hb.symm
theorem low_mem {l:List Nat} {c:Nat} (hm:c∈l) (hc:c<128):c∈sgn l:=by
 suffices H:∀ (n:Nat) (l:List Nat),l.length≤n→c∈l→c∈sgn l from H _ l (zW _) hm
 intro n
 induction n with
 | zero=>
  intro l hl h
  obtain rfl:l=[]:=List.eq_nil_of_length_eq_zero (by omega)
  simp at h
 | succ n ih=>
  intro l hl h
  have h0:l≠[]:=List.ne_nil_of_mem h
  have hp:0<l.length:=List.length_pos_iff.2 h0
  obtain⟨hw1,hw2,hw3⟩:=sig_wide l
  rw[sgn_cons h0]
  obtain⟨k,hk,rfl⟩:=List.getElem_of_mem h
  have hg:l.getD k 0=l[k]:=by rw[List.getD_eq_getElem?_getD,zV hk];rfl
  by_cases hk2:(sig l).2≤k
  ·refine List.mem_cons_of_mem _ (ih _ (by rw[List.length_drop];omega) ?_)
   rw[List.mem_iff_getElem?]
   exact⟨k - (sig l).2,by rw[List.getElem?_drop,show (sig l).2+(k - (sig l).2)=k by omega,zV hk]⟩
  ·by_cases hk0:k=0
   ·subst hk0
    have:sig l=(l[0],1):=by rw[sig,hg];exact sig_1 hc
    rw[this];simp
   ·have:=mid_of (hw3 k (by omega) (by omega))
    rw[hg] at this
    omega
theorem byt_append (s t:ByteArray):byt (s++t)=byt s++byt t:=by
 rw[byt,byt,byt,← List.map_append]
 rw[ByteArray.data_append,Array.toList_append]
theorem byt_extract (s:ByteArray) (a b:Nat):byt (s.extract a b)=((byt s).take b).drop a:=by
 rw[byt,byt,ByteArray.data_extract,Array.toList_extract,List.extract_eq_take_drop,← List.map_take,← List.map_drop]
 congr 1
 rw[List.drop_take]
def letS (c:Nat):Bool:=decide (97≤c∧c≤122) || (decide (223≤c∧c≤255) && decide (c≠247))
def digS (c:Nat):Bool:=decide (48≤c∧c≤57)
def okS (c:Nat):Bool:=letS c || digS c
theorem okS_lt {c:Nat} (h:okS c=true):48≤c∧c<256:=by
 simp[okS,letS,digS] at h;omega
def nameS:List Nat→Bool
 | []=>false
 | c :: t=>letS c && t.all okS && decide (t.length<8)
def mayN (l:List Nat):Bool:=nameS (sgn l)
def lenN (l:List Nat):Nat:=if mayN l=true then (sgn l).length else 0
theorem nameS_ok {cs:List Nat} (h:nameS cs=true):cs≠[]∧cs.length≤8∧∀ c∈cs,okS c=true:=by
 cases cs with
 | nil=>cases h
 | cons c t=>
  rw[nameS,Bool.and_eq_true,Bool.and_eq_true,decide_eq_true_iff,List.all_eq_true] at h
  refine⟨by simp,by rw[List.length_cons];omega,fun x hx=>?_⟩
  rcases List.mem_cons.1 hx with rfl | hx
  ·rw[okS,h.1.1];rfl
  ·exact h.1.2 x hx
section
variable {a b : List Nat}
theorem may_lt (h:mayN a=true):∀ c∈sgn a,c<2048:=fun c hc=>by
 have:=okS_lt ((nameS_ok h).2.2 c hc);omega
theorem may_enc (h:mayN a=true):encL (sgn a)=a:=enc_sgn a (may_lt h)
theorem may_ne (h:mayN a=true):a≠[]:=by rintro rfl;cases h
theorem lenN_pos:lenN a=0↔mayN a=false:=by
 rw[lenN]
 cases h:mayN a with
 | true=>
  rw[if_pos rfl]
  have:=List.length_pos_iff.2 (nameS_ok h).1
  constructor
  ·intro e;omega
  ·intro e;cases e
 | false=>simp
theorem may_low (ha:mayN a=true) {c:Nat} (hc:c∈a) (hl:c<128):okS c=true:=(nameS_ok ha).2.2 c (low_mem hc hl)
end
def lexN:List Nat→List Nat→Bool
 | _,[]=>false
 | [],_ :: _=>true
 | a :: x,b :: y=>if a=b then lexN x y else decide (a<b)
theorem lex_self:∀ x:List Nat,lexN x x=false
 | []=>rfl
 | a :: x=>by rw[lexN,if_pos rfl];exact lex_self x
theorem encL_len:∀ cs:List Nat,(encL cs).length≤2 * cs.length
 | []=>by simp[encL]
 | c :: cs=>by
  have:=encL_len cs
  rw[encL,List.length_append,List.length_cons]
  have:(encS c).length≤2:=by unfold encS;split <;> simp
  omega
theorem may_size {s:ByteArray} (h:mayN (byt s)=true):s.size≤16:=by
 have h1:=encL_len (sgn (byt s))
 rw[may_enc h,byt_length] at h1
 have:=(nameS_ok h).2.1
 omega
theorem byt_toList (s:ByteArray):byt s=s.toList.map UInt8.toNat:=by rw[byt,ByteArray.toList_eq]
theorem str_beq (s t:ByteArray):(s.toList == t.toList)=decide (byt s=byt t):=by
 by_cases h:byt s=byt t
 ·rw[byt_inj h];simp
 ·rw[zK h,beq_eq_false_iff_ne]
  intro e
  exact h (by rw[byt_toList,byt_toList,e])
theorem str_empty (t:ByteArray):t.toList.isEmpty=(byt t).isEmpty:=by
 rw[byt_toList];cases t.toList <;> rfl
abbrev Fld:=List Nat × Int × List Nat
abbrev Typ:=List Nat × List Fld
abbrev Sch:=List Typ
def idxP {α:Type} (p:α→Bool):List α→Int
 | []=>-1
 | a :: l=>if p a=true then 0 else if idxP p l<0 then -1 else idxP p l+1
theorem idxP_low {α:Type} (p:α→Bool):∀ l:List α,-1≤idxP p l
 | []=>by simp[idxP]
 | a :: l=>by
  have:=idxP_low p l
  rw[idxP]
  split
  ·omega
  ·split <;> omega
theorem idxP_iff {α:Type} (p:α→Bool):∀ (l:List α) (i:Nat),idxP p l=(i:Int)↔(∃ a,l[i]?=some a∧p a=true)∧∀ j b,j<i→l[j]?=some b→p b=false
 | [],i=>by simp[idxP]
 | a :: l,i=>by
  rw[idxP]
  have hlow:=idxP_low p l
  by_cases h:p a=true
  ·rw[if_pos h]
   constructor
   ·intro e
    obtain rfl:i=0:=by omega
    exact⟨⟨a,rfl,h⟩,fun j b hj=>by omega⟩
   ·rintro⟨_,h2⟩
    by_cases hi:i=0
    ·subst hi;rfl
    ·have:=h2 0 a (by omega) rfl
     rw[this] at h;cases h
  ·rw[if_neg h]
   have hf:p a=false:=by simpa using h
   have ih:=idxP_iff p l
   by_cases hn:idxP p l<0
   ·rw[if_pos hn]
    constructor
    ·intro e;omega
    ·rintro⟨⟨b,hb,hpb⟩,h2⟩
     cases i with
     | zero=>simp at hb;subst hb;rw[hpb] at hf;cases hf
     | succ i=>
      have:=(ih i).2 ⟨⟨b,by simpa using hb,hpb⟩,fun j c hj hc=>h2 (j+1) c (by omega) (by simpa using hc)⟩
      omega
   ·rw[if_neg hn]
    cases i with
    | zero=>
     constructor
     ·intro e;omega
     ·rintro⟨⟨b,hb,hpb⟩,_⟩
      simp at hb;subst hb;rw[hpb] at hf;cases hf
    | succ i=>
     have:=ih i
     constructor
     ·intro e
      obtain⟨⟨b,hb,hpb⟩,h2⟩:=this.1 (by omega)
      refine⟨⟨b,by simpa using hb,hpb⟩,fun j c hj hc=>?_⟩
      cases j with
      | zero=>simp at hc;subst hc;exact hf
      | succ j=>exact h2 j c (by omega) (by simpa using hc)
     ·rintro⟨⟨b,hb,hpb⟩,h2⟩
      have:=this.2 ⟨⟨b,by simpa using hb,hpb⟩,fun j c hj hc=>h2 (j+1) c (by omega) (by simpa using hc)⟩
      omega
theorem idxP_none {α:Type} (p:α→Bool):∀ (l:List α),idxP p l = -1↔∀ a∈l,p a=false
 | []=>by simp[idxP]
 | a :: l=>by
  have hlow:=idxP_low p l
  have ih:=idxP_none p l
  rw[idxP]
  by_cases h:p a=true
  ·rw[if_pos h]
   constructor
   ·intro e;omega
   ·intro h2;have:=h2 a (by simp);rw[this] at h;cases h
  ·rw[if_neg h]
   by_cases hn:idxP p l<0
   ·rw[if_pos hn]
    have:=ih.1 (by omega)
    simp only[true_iff,List.mem_cons]
    rintro b (rfl | hb)
    ·simpa using h
    ·exact this b hb
   ·rw[if_neg hn]
    constructor
    ·intro e;omega
    ·intro h2
     have:=ih.2 fun b hb=>h2 b (by simp[hb])
     omega
theorem idxP_ge {α:Type} (p:α→Bool) (l:List α):0≤idxP p l↔∃ a∈l,p a=true:=by
 have h:=idxP_none p l
 have hl:=idxP_low p l
 constructor
 ·intro h0
  apply Classical.byContradiction
  intro hn
  have:=h.2 fun a ha=>by
   cases hp:p a
   ·rfl
   ·exact absurd ⟨a,ha,hp⟩ hn
  omega
 ·rintro⟨a,ha,hp⟩
  apply Classical.byContradiction
  intro hn
  have:=h.1 (by omega) a ha
  rw[this] at hp;cases hp
theorem idxP_lt {α:Type} (p:α→Bool) (l:List α):idxP p l<(l.length:Int):=by
 by_cases h:0≤idxP p l
 ·obtain⟨i,hi⟩:=Int.eq_ofNat_of_zero_le h
  obtain⟨⟨a,ha,_⟩,_⟩:=(idxP_iff p l i).1 hi
  have:=(List.getElem?_eq_some_iff.1 ha).1
  omega
 ·omega
def findS (s:Sch) (n:List Nat):Int:=idxP (fun t=>decide (t.1=n)) s
def fieldS (f:List Fld) (n:List Nat):Int:=idxP (fun x=>decide (x.1=n)) f
def leadS (s:Sch) (f:Fld):Bool:=if f.2.1=5 then decide (0≤findS s f.2.2) else decide (0≤f.2.1) && decide (f.2.1<6) && decide (f.2.2=[])
def mayF (s:Sch) (fs:List Fld) (i:Nat) (f:Fld):Bool:=mayN f.1 && decide (fieldS fs f.1=(i:Int)) && leadS s f
def allI {α:Type} (p:Nat→α→Bool):Nat→List α→Bool
 | _,[]=>true
 | i,a :: l=>p i a && allI p (i+1) l
theorem allI_iff {α:Type} (p:Nat→α→Bool):∀ (l:List α) (i:Nat),allI p i l=true↔∀ j a,l[j]?=some a→p (i+j) a=true
 | [],i=>by simp[allI]
 | a :: l,i=>by
  rw[allI,Bool.and_eq_true,allI_iff p l]
  constructor
  ·rintro⟨h1,h2⟩ j b hb
   cases j with
   | zero=>simp at hb;subst hb;exact h1
   | succ j=>have:=h2 j b (by simpa using hb);rwa [show i+(j+1)=i+1+j by omega]
  ·intro h
   refine⟨h 0 a rfl,fun j b hb=>?_⟩
   have:=h (j+1) b (by simpa using hb)
   rwa [show i+1+j=i+(j+1) by omega]
def mayFs (s:Sch) (fs:List Fld):Bool:=decide (fs.length≤5) && allI (mayF s fs) 0 fs
def mayT (s:Sch) (i:Nat) (t:Typ):Bool:=mayN t.1 && decide (findS s t.1=(i:Int)) && mayFs s t.2
def mayS (s:Sch):Bool:=decide (1≤s.length) && decide (s.length≤4) && allI (mayT s) 0 s
def kindT (k:Int):List Nat:=if k=0 then [105,56] else if k=1 then [105,49,54] else if k=2 then [105,51,50] else if k=3 then [105,54,52] else if k=4 then [116] else [42]
def fText (f:Fld):List Nat:=f.1++58 :: (kindT f.2.1++f.2.2)
def fsText:List Fld→List Nat
 | []=>[]
 | f :: r=>match r with
  | []=>fText f
  | _ :: _=>fText f++44 :: fsText r
def tText (t:Typ):List Nat:=t.1++123 :: (fsText t.2++[125])
def sText:Sch→List Nat
 | []=>[]
 | t :: s=>tText t++sText s
def textS (s:Sch):List Nat:=if mayS s=true then sText s else []
theorem sText_append (a b:Sch):sText (a++b)=sText a++sText b:=by
 induction a with
 | nil=>rfl
 | cons t a ih=>rw[List.cons_append,sText,ih,sText,List.append_assoc]
theorem fsText_two (f g:Fld) (r:List Fld):fsText (f :: g :: r)=fText f++44 :: fsText (g :: r):=rfl
theorem fsText_snoc:∀ (l:List Fld) (f:Fld),l≠[]→fsText (l++[f])=fsText l++44 :: fText f
 | [],_,h=>absurd rfl h
 | [g],f,_=>rfl
 | g :: g' :: r,f,_=>by
  have ih:=fsText_snoc (g' :: r) f (by simp)
  rw[List.cons_append] at ih
  rw[List.cons_append,List.cons_append,fsText_two,ih,fsText_two,List.append_assoc]
  rfl
def okB (n:List Nat):Prop:=n≠[]∧∀ c∈n,c≠44∧c≠58∧c≠123∧c≠125
def goodF (f:Fld):Prop:=okB f.1∧(0≤f.2.1∧f.2.1<6)∧(f.2.1=5→okB f.2.2)∧(f.2.1≠5→f.2.2=[])
def goodT (t:Typ):Prop:=okB t.1∧∀ f∈t.2,goodF f
def goodS (s:Sch):Prop:=∀ t∈s,goodT t
theorem may_okB {n:List Nat} (h:mayN n=true):okB n:=by
 refine⟨may_ne h,fun c hc=>?_⟩
 by_cases hl:c<128
 ·have:=may_low h hc hl
  simp only[okS,letS,digS,Bool.or_eq_true,Bool.and_eq_true,decide_eq_true_eq] at this
  omega
 ·omega
theorem mayS_iff (s:Sch):mayS s=true↔(1≤s.length∧s.length≤4)∧∀ i t,s[i]?=some t→mayT s i t=true:=by
 rw[mayS,Bool.and_eq_true,Bool.and_eq_true,decide_eq_true_iff,decide_eq_true_iff,allI_iff]
 simp only[Nat.zero_add]
theorem mayT_iff (s:Sch) (i:Nat) (t:Typ):mayT s i t=true↔mayN t.1=true∧findS s t.1=(i:Int)∧t.2.length≤5∧∀ j f,t.2[j]?=some f→mayF s t.2 j f=true:=by
 rw[mayT,Bool.and_eq_true,Bool.and_eq_true,decide_eq_true_iff,mayFs,Bool.and_eq_true,decide_eq_true_iff,allI_iff]
 simp only[Nat.zero_add,and_assoc]
theorem mayF_iff (s:Sch) (fs:List Fld) (i:Nat) (f:Fld):mayF s fs i f=true↔mayN f.1=true∧fieldS fs f.1=(i:Int)∧leadS s f=true:=by
 rw[mayF,Bool.and_eq_true,Bool.and_eq_true,decide_eq_true_iff,and_assoc]
theorem findS_some {s:Sch} {n:List Nat} (h:0≤findS s n):∃ t∈s,t.1=n:=by
 obtain⟨t,ht,hp⟩:=(idxP_ge _ s).1 h
 exact⟨t,ht,by simpa using hp⟩
theorem mayS_good {s:Sch} (h:mayS s=true):goodS s:=by
 obtain⟨_,h2⟩:=(mayS_iff s).1 h
 have hn:∀ t∈s,mayN t.1=true:=fun t ht=>by
  obtain⟨i,hi⟩:=List.getElem?_of_mem ht
  exact ((mayT_iff s i t).1 (h2 i t hi)).1
 intro t ht
 obtain⟨i,hi⟩:=List.getElem?_of_mem ht
 obtain⟨h3,_,_,h4⟩:=(mayT_iff s i t).1 (h2 i t hi)
 refine⟨may_okB h3,fun f hf=>?_⟩
 obtain⟨j,hj⟩:=List.getElem?_of_mem hf
 obtain⟨h5,_,h6⟩:=(mayF_iff s t.2 j f).1 (h4 j f hj)
 rw[leadS] at h6
 by_cases hk:f.2.1=5
 ·rw[if_pos hk,decide_eq_true_iff] at h6
  obtain⟨t',ht',hn'⟩:=findS_some h6
  exact⟨may_okB h5,by omega,fun _=>by rw[← hn'];exact may_okB (hn t' ht'),fun h=>absurd hk h⟩
 ·rw[if_neg hk,Bool.and_eq_true,Bool.and_eq_true,decide_eq_true_iff,decide_eq_true_iff,decide_eq_true_iff] at h6
  exact⟨may_okB h5,h6.1,fun h=>absurd h hk,fun _=>h6.2⟩
theorem textS_may {s:Sch} (h:mayS s=true):textS s=sText s:=by rw[textS,if_pos h]
theorem textS_not {s:Sch} (h:mayS s=false):textS s=[]:=by rw[textS,if_neg (by simp[h])]
abbrev Vl:=Int × List Nat × Int
abbrev vz:Vl:=(0,[],0)
def fitsV (k:Int) (v:Vl):Bool:=
 if k=0 then decide (-128≤v.1∧v.1≤127∧v.2.1=[]∧v.2.2=0)
 else if k=1 then decide (-32768≤v.1∧v.1≤32767∧v.2.1=[]∧v.2.2=0)
 else if k=2 then decide (-2147483648≤v.1∧v.1≤2147483647∧v.2.1=[]∧v.2.2=0)
 else if k=3 then decide (v.2.1=[]∧v.2.2=0)
 else if k=4 then decide (v.2.1.length≤12∧v.1=0∧v.2.2=0)
 else if k=5 then decide (-1≤v.2.2∧v.2.2≤1073741824∧v.1=0∧v.2.1=[])
 else false
def OkV (v:Vl):Prop:=(-9223372036854775808≤v.1∧v.1≤9223372036854775807)∧∀ x∈v.2.1,x<256
theorem vl_fits_0 {v:Vl}:fitsV 0 v=decide (-128≤v.1∧v.1≤127∧v.2.1=[]∧v.2.2=0):=rfl
theorem vl_fits_1 {v:Vl}:fitsV 1 v=decide (-32768≤v.1∧v.1≤32767∧v.2.1=[]∧v.2.2=0):=rfl
theorem vl_fits_2 {v:Vl}:fitsV 2 v=decide (-2147483648≤v.1∧v.1≤2147483647∧v.2.1=[]∧v.2.2=0):=rfl
theorem vl_fits_3 {v:Vl}:fitsV 3 v=decide (v.2.1=[]∧v.2.2=0):=rfl
theorem vl_fits_4 {v:Vl}:fitsV 4 v=decide (v.2.1.length≤12∧v.1=0∧v.2.2=0):=rfl
theorem vl_fits_5 {v:Vl}:fitsV 5 v=decide (-1≤v.2.2∧v.2.2≤1073741824∧v.1=0∧v.2.1=[]):=rfl
theorem vl_fits_x {k:Int} {v:Vl} (h:¬ (0≤k∧k≤5)):fitsV k v=false:=by
 rw[fitsV,if_neg (by omega),if_neg (by omega),if_neg (by omega),if_neg (by omega),if_neg (by omega),if_neg (by omega)]
theorem vl_kinds (k:Int):k=0∨k=1∨k=2∨k=3∨k=4∨k=5∨¬ (0≤k∧k≤5):=by omega
abbrev Ob:=Int × Int × List Vl
abbrev Gr:=Sch × List Ob × List Int
instance decVl:DecidableEq Vl:=inferInstance
instance decVls:DecidableEq (List Vl):=inferInstance
instance decObT:DecidableEq (Int × List Vl):=inferInstance
instance decOb:DecidableEq Ob:=inferInstance
instance decObs:DecidableEq (List Ob):=inferInstance
instance decGrT:DecidableEq (List Ob × List Int):=inferInstance
instance decGr:DecidableEq Gr:=fun a b=>if h:a.1=b.1 then (if k:a.2=b.2 then isTrue (Prod.ext h k) else isFalse fun e=>k (by rw[e])) else isFalse fun e=>h (by rw[e])
def findG (os:List Ob) (id:Int):Int:=idxP (fun o=>decide (o.1=id)) os
def typG (os:List Ob) (id:Int):Int:=(os.getD (findG os id).toNat (0,0,[])).2.1
def haveG (g:Gr) (f:Fld) (v:Vl):Bool:=
 fitsV f.2.1 v && (decide (f.2.1≠5) || decide (v.2.2 = -1) || (decide (findG g.2.1 v.2.2≠-1) && decide (typG g.2.1 v.2.2=findS g.1 f.2.2)))
def all2 {α β:Type} (p:α→β→Bool):List α→List β→Bool
 | [],[]=>true
 | a :: l,b :: m=>p a b && all2 p l m
 | _,_=>false
def fldsG (s:Sch) (t:Int):List Fld:=(s.getD t.toNat ([],[])).2
def mayO (g:Gr) (o:Ob):Bool:=(decide (0≤o.2.1) && decide (o.2.1<(g.1.length:Int))) && all2 (haveG g) (fldsG g.1 o.2.1) o.2.2
def riseG (g:Gr):Int→List Ob→Bool
 | _,[]=>true
 | last,o :: r=>(decide (last<o.1) && decide (o.1≤1073741824) && mayO g o) && riseG g o.1 r
def mayOs (g:Gr):Bool:=decide (g.2.1.length≤8) && riseG g (-1) g.2.1
def rootG (os:List Ob) (id:Int):Bool:=decide (id = -1) || decide (findG os id≠-1)
def mayRs (g:Gr):Bool:=decide (g.2.2.length≤3) && g.2.2.all (rootG g.2.1)
def mayG (g:Gr):Bool:=mayS g.1 && mayOs g && mayRs g
theorem all2_iff {α β:Type} {p:α→β→Bool}:∀ {l:List α} {m:List β},all2 p l m=true↔l.length=m.length∧∀ (i:Nat) a b,l[i]?=some a→m[i]?=some b→p a b=true
 | [],[]=>by simp[all2]
 | [],b :: m=>by simp[all2]
 | a :: l,[]=>by simp[all2]
 | a :: l,b :: m=>by
  rw[all2,Bool.and_eq_true,all2_iff]
  constructor
  ·rintro⟨h1,h2,h3⟩
   refine⟨by simp[h2],fun i x y hx hy=>?_⟩
   cases i with
   | zero=>simp at hx hy;subst hx hy;exact h1
   | succ i=>simp at hx hy;exact h3 i x y hx hy
  ·rintro⟨h1,h2⟩
   exact⟨h2 0 a b rfl rfl,by simpa using h1,fun i x y hx hy=>h2 (i+1) x y (by simpa using hx) (by simpa using hy)⟩
theorem all2_at {α β:Type} {p:α→β→Bool} {l:List α} {m:List β} {i:Nat} {a:α} {b:β} (hl:l[i]?=some a) (hm:m[i]?=some b):all2 p (l.drop i) (m.drop i)=(p a b && all2 p (l.drop (i+1)) (m.drop (i+1))):=by
 obtain⟨h1,e1⟩:=List.getElem?_eq_some_iff.1 hl
 obtain⟨h2,e2⟩:=List.getElem?_eq_some_iff.1 hm
 rw[List.drop_eq_getElem_cons h1,List.drop_eq_getElem_cons h2,all2,e1,e2]
theorem all2_end {α β:Type} {p:α→β→Bool} {l:List α} {m:List β} {i:Nat} (hl:l.length≤i) (hm:m.length≤i):all2 p (l.drop i) (m.drop i)=true:=by
 rw[List.drop_of_length_le hl,List.drop_of_length_le hm];rfl
theorem all2_ne {α β:Type} {p:α→β→Bool} {l:List α} {m:List β} (h:l.length≠m.length):all2 p l m=false:=by
 cases e:all2 p l m
 ·rfl
 ·exact absurd (all2_iff.1 e).1 h
theorem riseG_at {g:Gr} {last:Int} {l:List Ob} {i:Nat} {o:Ob} (hl:l[i]?=some o):riseG g last (l.drop i)=((decide (last<o.1) && decide (o.1≤1073741824) && mayO g o) && riseG g o.1 (l.drop (i+1))):=by
 obtain⟨h1,e1⟩:=List.getElem?_eq_some_iff.1 hl
 rw[List.drop_eq_getElem_cons h1,riseG,e1]
theorem riseG_end {g:Gr} {last:Int} {l:List Ob} {i:Nat} (hl:l.length≤i):riseG g last (l.drop i)=true:=by
 rw[List.drop_of_length_le hl];rfl
theorem all_at {α:Type} {p:α→Bool} {l:List α} {i:Nat} {a:α} (hl:l[i]?=some a):(l.drop i).all p=(p a && (l.drop (i+1)).all p):=by
 obtain⟨h1,e1⟩:=List.getElem?_eq_some_iff.1 hl
 rw[List.drop_eq_getElem_cons h1,List.all_cons,e1]
theorem all_end {α:Type} {p:α→Bool} {l:List α} {i:Nat} (hl:l.length≤i):(l.drop i).all p=true:=by
 rw[List.drop_of_length_le hl];rfl
theorem findG_at {os:List Ob} {id:Int} (h:findG os id≠-1):∃ i o,findG os id=((i:Nat):Int)∧os[i]?=some o∧o.1=id∧typG os id=o.2.1:=by
 have h0:=idxP_low (fun o:Ob=>decide (o.1=id)) os
 obtain⟨i,hi⟩:∃ i:Nat,findG os id=(i:Int):=⟨(findG os id).toNat,by unfold findG at *;omega⟩
 obtain⟨⟨o,ho,hp⟩,_⟩:=(idxP_iff _ os i).1 hi
 refine⟨i,o,hi,ho,of_decide_eq_true hp,?_⟩
 rw[typG,hi,Int.toNat_natCast,List.getD_eq_getElem?_getD,ho]
 rfl
theorem findG_low (os:List Ob) (id:Int):-1≤findG os id:=idxP_low _ _
theorem findG_mem {os:List Ob} {id:Int}:findG os id≠-1↔∃ o∈os,o.1=id:=by
 rw[Ne,findG,idxP_none]
 constructor
 ·intro h
  rcases Classical.em (∃ o∈os,o.1=id) with h1 | h1
  ·exact h1
  ·exact absurd (fun a ha=>zK fun e=>h1 ⟨a,ha,e⟩) h
 ·rintro⟨o,ho,e⟩ h
  have:=h o ho
  simp[e] at this
theorem fldsG_at {s:Sch} {t:Int} {i:Nat} {x:Typ} (ht:t=(i:Int)) (hx:s[i]?=some x):fldsG s t=x.2:=by
 rw[fldsG,ht,Int.toNat_natCast,List.getD_eq_getElem?_getD,hx];rfl
def refsG (s:Sch) (o:Ob):List Int:=((fldsG s o.2.1).zip o.2.2).filterMap fun p=>if p.1.2.1=5∧p.2.2.2≠-1 then some p.2.2.2 else none
theorem refsG_mem {s:Sch} {o:Ob} {r:Int}:r∈refsG s o↔∃ (k:Nat) (f:Fld) (v:Vl),(fldsG s o.2.1)[k]?=some f∧o.2.2[k]?=some v∧f.2.1=5∧v.2.2≠-1∧v.2.2=r:=by
 rw[refsG,List.mem_filterMap]
 constructor
 ·rintro⟨⟨f,v⟩,hp,hr⟩
  obtain⟨k,hk⟩:=List.getElem?_of_mem hp
  rw[List.getElem?_zip_eq_some] at hk
  simp only at hr
  split at hr
  ·rename_i hc
   injection hr with hr
   exact⟨k,f,v,hk.1,hk.2,hc.1,hc.2,hr⟩
  ·cases hr
 ·rintro⟨k,f,v,h1,h2,h3,h4,h5⟩
  refine⟨(f,v),List.mem_of_getElem? (List.getElem?_zip_eq_some.2 ⟨h1,h2⟩),?_⟩
  simp only[h3,h5,true_and]
  rw[if_pos (by rw[← h5];exact h4)]
inductive From (g:Gr) (id:Int):Int→Prop
 | here:From g id id
 | step {o:Ob} {r:Int}:From g id o.1→o∈g.2.1→r∈refsG g.1 o→From g id r
def ComeG (g:Gr) (x:Int):Prop:=∃ id∈g.2.2,id≠-1∧From g id x
theorem From.trans {g:Gr} {a b x:Int} (h:From g a b) (k:From g b x):From g a x:=by
 induction k with
 | here=>exact h
 | step _ ho hr ih=>exact .step ih ho hr
structure Dfs (g:Gr) (M M':List Int) (id:Int):Prop where
 more:∀ x∈M,x∈M'
 this:id≠-1→id∈M'
 only:∀ x∈M',x ∉ M→id≠-1∧From g id x
 shut:∀ x∈M',x ∉ M→∀ o∈g.2.1,o.1=x→∀ r∈refsG g.1 o,r∈M'
theorem Dfs.skip {g:Gr} {M:List Int} {id:Int} (h:id = -1∨id∈M):Dfs g M M id:=
 ⟨fun _ h=>h,fun hn=>h.resolve_left hn,fun _ h h'=>absurd h h',fun _ h h'=>absurd h h'⟩
structure DfsI (g:Gr) (M Mi:List Int) (o:Ob) (i:Nat):Prop where
 more:∀ x∈M++[o.1],x∈Mi
 only:∀ x∈Mi,x ∉ M++[o.1]→From g o.1 x
 shut:∀ x∈Mi,x ∉ M++[o.1]→∀ p∈g.2.1,p.1=x→∀ r∈refsG g.1 p,r∈Mi
 refs:∀ (k:Nat) (f:Fld) (v:Vl),k<i→(fldsG g.1 o.2.1)[k]?=some f→o.2.2[k]?=some v→f.2.1=5→v.2.2≠-1→v.2.2∈Mi
theorem DfsI.start (g:Gr) (M:List Int) (o:Ob):DfsI g M (M++[o.1]) o 0:=
 ⟨fun _ h=>h,fun _ h h'=>absurd h h',fun _ h h'=>absurd h h',fun _ _ _ hk=>absurd hk (Nat.not_lt_zero _)⟩
theorem DfsI.pass {g:Gr} {M Mi:List Int} {o:Ob} {i:Nat} {f:Fld} (h:DfsI g M Mi o i) (hf:(fldsG g.1 o.2.1)[i]?=some f) (h5:f.2.1≠5):DfsI g M Mi o (i+1):=
 ⟨h.more,h.only,h.shut,fun k f' v hk hf' hv h5' hr=>by
  by_cases hki:k<i
  ·exact h.refs k f' v hki hf' hv h5' hr
  ·obtain rfl:k=i:=by omega
   rw[hf] at hf'
   injection hf' with e
   subst e
   exact absurd h5' h5⟩
theorem DfsI.step {g:Gr} {M Mi Mj:List Int} {o:Ob} {i:Nat} {f:Fld} {v:Vl} (h:DfsI g M Mi o i) (ho:o∈g.2.1) (hf:(fldsG g.1 o.2.1)[i]?=some f) (hv:o.2.2[i]?=some v) (h5:f.2.1=5) (hd:Dfs g Mi Mj v.2.2):DfsI g M Mj o (i+1):=by
 refine⟨fun x hx=>hd.more x (h.more x hx),fun x hx hn=>?_,fun x hx hn p hp hpx r hr=>?_,fun k f' v' hk hf' hv' h5' hr=>?_⟩
 ·by_cases hi:x∈Mi
  ·exact h.only x hi hn
  ·obtain⟨h1,h2⟩:=hd.only x hx hi
   exact (From.step .here ho (refsG_mem.2 ⟨i,f,v,hf,hv,h5,h1,rfl⟩)).trans h2
 ·by_cases hi:x∈Mi
  ·exact hd.more r (h.shut x hi hn p hp hpx r hr)
  ·exact hd.shut x hx hi p hp hpx r hr
 ·by_cases hki:k<i
  ·exact hd.more _ (h.refs k f' v' hki hf' hv' h5' hr)
  ·obtain rfl:k=i:=by omega
   rw[hv] at hv'
   injection hv' with e
   subst e
   exact hd.this hr
theorem DfsI.all {g:Gr} {M Mi:List Int} {o:Ob} {i:Nat} (h:DfsI g M Mi o i) (ho:o∈g.2.1) (hi:o.2.2.length≤i) (hn:o.1≠-1) (hu:∀ p∈g.2.1,p.1=o.1→p=o):Dfs g M Mi o.1:=by
 refine⟨fun x hx=>h.more x (List.mem_append_left _ hx),fun _=>h.more _ (by simp),fun x hx hm=>⟨hn,?_⟩,fun x hx hm p hp hpx r hr=>?_⟩
 ·by_cases he:x=o.1
  ·subst he;exact .here
  ·exact h.only x hx (by simp[hm,he])
 ·by_cases he:x=o.1
  ·subst he
   obtain rfl:=hu p hp hpx
   obtain⟨k,f,v,h1,h2,h3,h4,h5⟩:=refsG_mem.1 hr
   rw[← h5]
   exact h.refs k f v (Nat.lt_of_lt_of_le (List.getElem?_eq_some_iff.1 h2).1 hi) h1 h2 h3 h4
  ·exact h.shut x hx (by simp[hm,he]) p hp hpx r hr
def cntG (os:List Ob) (M:List Int):Nat:=(os.filter fun o=>decide (o.1 ∉ M)).length
theorem cntG_cons (p:Ob) (os:List Ob) (M:List Int):cntG (p :: os) M=(if p.1∈M then 0 else 1)+cntG os M:=by
 unfold cntG
 rw[List.filter_cons]
 by_cases h:p.1∈M
 ·simp[h]
 ·simp[h];omega
theorem cntG_le {os:List Ob} {M M':List Int} (h:∀ x∈M,x∈M'):cntG os M'≤cntG os M:=by
 induction os with
 | nil=>simp[cntG]
 | cons o os ih=>
  rw[cntG_cons,cntG_cons]
  by_cases h1:o.1∈M
  ·rw[if_pos h1,if_pos (h _ h1)];omega
  ·rw[if_neg h1];split <;> omega
theorem cntG_lt {os:List Ob} {M:List Int} {o:Ob} (ho:o∈os) (hn:o.1 ∉ M):cntG os (M++[o.1])+1≤cntG os M:=by
 induction os with
 | nil=>simp at ho
 | cons p os ih=>
  have hle:=cntG_le (os:=os) (M:=M) (M':=M++[o.1]) fun x hx=>List.mem_append_left _ hx
  rw[cntG_cons,cntG_cons]
  rcases List.mem_cons.1 ho with h | h
  ·subst h
   rw[if_pos (by simp),if_neg hn];omega
  ·have:=ih h
   by_cases h3:p.1∈M
   ·rw[if_pos (List.mem_append_left _ h3),if_pos h3];omega
   ·rw[if_neg h3];split <;> omega
structure DfsR (g:Gr) (M:List Int) (i:Nat):Prop where
 only:∀ x∈M,ComeG g x
 shut:∀ x∈M,∀ o∈g.2.1,o.1=x→∀ r∈refsG g.1 o,r∈M
 roots:∀ (k:Nat) (r:Int),k<i→g.2.2[k]?=some r→r≠-1→r∈M
theorem DfsR.start (g:Gr):DfsR g [] 0:=⟨fun _ h=>by simp at h,fun _ h=>by simp at h,fun _ _ h=>absurd h (Nat.not_lt_zero _)⟩
theorem DfsR.step {g:Gr} {M M':List Int} {i:Nat} {r:Int} (h:DfsR g M i) (hr:g.2.2[i]?=some r) (hd:Dfs g M M' r):DfsR g M' (i+1):=by
 refine⟨fun x hx=>?_,fun x hx o ho hox s hs=>?_,fun k s hk hs hn=>?_⟩
 ·by_cases hm:x∈M
  ·exact h.only x hm
  ·obtain⟨h1,h2⟩:=hd.only x hx hm
   exact⟨r,List.mem_of_getElem? hr,h1,h2⟩
 ·by_cases hm:x∈M
  ·exact hd.more s (h.shut x hm o ho hox s hs)
  ·exact hd.shut x hx hm o ho hox s hs
 ·by_cases hki:k<i
  ·exact hd.more s (h.roots k s hki hs hn)
  ·obtain rfl:k=i:=by omega
   rw[hr] at hs
   injection hs with e
   subst e
   exact hd.this hn
theorem DfsR.all {g:Gr} {M:List Int} {i:Nat} (h:DfsR g M i) (hi:g.2.2.length≤i) (x:Int):x∈M↔ComeG g x:=by
 refine⟨h.only x,?_⟩
 rintro⟨id,hid,hn,hf⟩
 induction hf with
 | here=>
  obtain⟨k,hk⟩:=List.getElem?_of_mem hid
  exact h.roots k _ (Nat.lt_of_lt_of_le (List.getElem?_eq_some_iff.1 hk).1 hi) hk hn
 | step _ ho hr ih=>exact h.shut _ ih _ ho rfl _ hr
theorem riseG_mem {g:Gr}:∀ {last:Int} {l:List Ob},riseG g last l=true→∀ o∈l,last<o.1∧o.1≤1073741824∧mayO g o=true
 | _,[],_,o,ho=>by simp at ho
 | last,p :: r,h,o,ho=>by
  rw[riseG,Bool.and_eq_true,Bool.and_eq_true,Bool.and_eq_true,decide_eq_true_eq,decide_eq_true_eq] at h
  obtain⟨⟨⟨h1,h2⟩,h3⟩,h4⟩:=h
  rcases List.mem_cons.1 ho with e | ho
  ·subst e;exact⟨h1,h2,h3⟩
  ·obtain⟨h5,h6,h7⟩:=riseG_mem h4 o ho
   exact⟨by omega,h6,h7⟩
theorem riseG_sorted {g:Gr}:∀ {last:Int} {l:List Ob},riseG g last l=true→l.Pairwise fun o p=>o.1<p.1
 | _,[],_=>List.Pairwise.nil
 | last,p :: r,h=>by
  rw[riseG,Bool.and_eq_true] at h
  exact List.Pairwise.cons (fun o ho=>(riseG_mem h.2 o ho).1) (riseG_sorted h.2)
theorem sorted_apart {l:List Ob} (h:l.Pairwise fun o p=>o.1<p.1) {o p:Ob} (ho:o∈l) (hp:p∈l) (e:o.1=p.1):o=p:=by
 induction l with
 | nil=>simp at ho
 | cons q l ih=>
  rw[List.pairwise_cons] at h
  rcases List.mem_cons.1 ho with e1 | ho1
  ·rcases List.mem_cons.1 hp with e2 | hp1
   ·rw[e1,e2]
   ·have:=h.1 p hp1;rw[e1] at e;omega
  ·rcases List.mem_cons.1 hp with e2 | hp1
   ·have:=h.1 o ho1;rw[e2] at e;omega
   ·exact ih h.2 ho1 hp1
structure MayObj (g:Gr) (o:Ob):Prop where
 id0:0≤o.1
 id1:o.1≤1073741824
 t0:0≤o.2.1
 t1:o.2.1<(g.1.length:Int)
 len:(fldsG g.1 o.2.1).length=o.2.2.length
 have':∀ (k:Nat) f v,(fldsG g.1 o.2.1)[k]?=some f→o.2.2[k]?=some v→haveG g f v=true
theorem mayG_parts {g:Gr} (h:mayG g=true):mayS g.1=true∧g.2.1.length≤8∧riseG g (-1) g.2.1=true∧g.2.2.length≤3∧∀ r∈g.2.2,rootG g.2.1 r=true:=by
 rw[mayG,mayOs,mayRs] at h
 simp only[Bool.and_eq_true,decide_eq_true_eq,List.all_eq_true] at h
 exact⟨h.1.1,h.1.2.1,h.1.2.2,h.2.1,h.2.2⟩
theorem mayO_iff {g:Gr} {o:Ob}:mayO g o=true↔(0≤o.2.1∧o.2.1<(g.1.length:Int))∧(fldsG g.1 o.2.1).length=o.2.2.length∧∀ (k:Nat) f v,(fldsG g.1 o.2.1)[k]?=some f→o.2.2[k]?=some v→haveG g f v=true:=by
 rw[mayO,Bool.and_eq_true,Bool.and_eq_true,decide_eq_true_eq,decide_eq_true_eq,all2_iff]
theorem mayG_obj {g:Gr} (h:mayG g=true) {o:Ob} (ho:o∈g.2.1):MayObj g o:=by
 obtain⟨h1,h2,h3⟩:=riseG_mem (mayG_parts h).2.2.1 o ho
 obtain⟨h4,h5,h6⟩:=mayO_iff.1 h3
 exact⟨by omega,h2,h4.1,h4.2,h5,h6⟩
theorem mayG_apart {g:Gr} (h:mayG g=true) {o p:Ob} (ho:o∈g.2.1) (hp:p∈g.2.1) (e:o.1=p.1):o=p:=sorted_apart (riseG_sorted (mayG_parts h).2.2.1) ho hp e
theorem haveG_ref {g:Gr} {f:Fld} {v:Vl} (h:haveG g f v=true) (h5:f.2.1=5) (hr:v.2.2≠-1):findG g.2.1 v.2.2≠-1∧typG g.2.1 v.2.2=findS g.1 f.2.2:=by
 rw[haveG] at h
 simp only[h5,ne_eq,not_true_eq_false,decide_false,Bool.false_or,hr,Bool.and_eq_true,decide_eq_true_eq] at h
 exact⟨by simpa using h.2.1,h.2.2⟩
end Go.Proofs.YtnljjnkindjeoaaGreatDoor
namespace Go.Proofs.YtnljjnkindjeoaaGreatDoor
open Go.RowKit
open Classical in
noncomputable def sweepG (g:Gr):Gr:=if mayG g=true then (g.1,g.2.1.filter (fun o=>decide (ComeG g o.1)),g.2.2) else ([],[],[])
theorem sweepG_no {g:Gr} (h:mayG g=false):sweepG g=([],[],[]):=if_neg (by rw[h];decide)
open Classical in
theorem sweepG_yes {g:Gr} (h:mayG g=true):sweepG g=(g.1,g.2.1.filter (fun o=>decide (ComeG g o.1)),g.2.2):=if_pos h
theorem sweepG_set {g:Gr} {L:List Int} (h:mayG g=true) (hL:∀ x,x∈L↔ComeG g x):sweepG g=(g.1,g.2.1.filter (fun o=>decide (o.1∈L)),g.2.2):=by
 rw[sweepG_yes h]
 congr 2
 exact List.filter_congr fun o _=>by simp[hL]
def objG (os:List Ob) (id:Int):Ob:=os.getD (findG os id).toNat (0,0,[])
def setE (g:Gr) (id k:Int) (v:Vl):Int:=
 if mayG g=true then if findG g.2.1 id≠-1∧(decide (0≤k) && decide (k<((objG g.2.1 id).2.2.length:Int)))=true then if haveG g ((fldsG g.1 (objG g.2.1 id).2.1).getD k.toNat ([],0,[])) v=true then 0 else 6 else 11 else 1
theorem objG_at {os:List Ob} {id:Int} {i:Nat} {o:Ob} (hi:findG os id=(i:Int)) (ho:os[i]?=some o):objG os id=o:=by
 rw[objG,hi,Int.toNat_natCast,List.getD_eq_getElem?_getD,ho];rfl
def setN (g:Gr) (id k:Int) (v:Vl):Gr:=if setE g id k v=0 then (g.1,g.2.1.set (findG g.2.1 id).toNat ((objG g.2.1 id).1,(objG g.2.1 id).2.1,(objG g.2.1 id).2.2.set k.toNat v),g.2.2) else g
theorem setE_0 {g:Gr} {id k:Int} {v:Vl} (h:setE g id k v=0):mayG g=true∧findG g.2.1 id≠-1∧0≤k∧k<((objG g.2.1 id).2.2.length:Int)∧haveG g ((fldsG g.1 (objG g.2.1 id).2.1).getD k.toNat ([],0,[])) v=true:=by
 rw[setE] at h
 split at h
 ·rename_i h1
  split at h
  ·rename_i h2
   split at h
   ·rename_i h3
    have h4:=h2.2
    simp at h4
    exact⟨h1,h2.1,h4.1,h4.2,h3⟩
   ·cases h
  ·cases h
 ·cases h
end Go.Proofs.YtnljjnkindjeoaaGreatDoor
namespace Go.Proofs.YtnljjnkindjeoaaGreatDoor
theorem riseG_roots (g:Gr) (l:List Int):∀ (last:Int) (os:List Ob),riseG (g.1,g.2.1,l) last os=riseG g last os
 | _,[]=>rfl
 | last,o :: os=>by rw[riseG,riseG,riseG_roots g l o.1 os];rfl
theorem riseG_iff {g:Gr}:∀ {last:Int} {l:List Ob},riseG g last l=true↔(∀ o∈l,last<o.1∧o.1≤1073741824∧mayO g o=true)∧l.Pairwise fun o p=>o.1<p.1
 | last,[]=>by simp[riseG]
 | last,o :: l=>by
  constructor
  ·exact fun h=>⟨riseG_mem h,riseG_sorted h⟩
  ·rintro⟨h1,h2⟩
   rw[List.pairwise_cons] at h2
   obtain⟨a1,a2,a3⟩:=h1 o (List.mem_cons_self ..)
   rw[riseG,Bool.and_eq_true,Bool.and_eq_true,Bool.and_eq_true,decide_eq_true_eq,decide_eq_true_eq]
   refine⟨⟨⟨a1,a2⟩,a3⟩,riseG_iff.2 ⟨fun p hp=>?_,h2.2⟩⟩
   obtain⟨b1,b2,b3⟩:=h1 p (List.mem_cons_of_mem _ hp)
   exact⟨h2.1 p hp,b2,b3⟩
theorem mayG_mk {g:Gr} (h1:mayS g.1=true) (h2:g.2.1.length≤8) (h3:g.2.2.length≤3) (h4:∀ r∈g.2.2,rootG g.2.1 r=true) (h5:∀ o∈g.2.1,MayObj g o) (h6:g.2.1.Pairwise fun o p=>o.1<p.1):mayG g=true:=by
 rw[mayG,mayOs,mayRs]
 simp only[Bool.and_eq_true,decide_eq_true_eq,List.all_eq_true]
 refine⟨⟨h1,h2,riseG_iff.2 ⟨fun o ho=>?_,h6⟩⟩,h3,h4⟩
 have m:=h5 o ho
 have:=m.id0
 exact⟨by omega,m.id1,mayO_iff.2 ⟨⟨m.t0,m.t1⟩,m.len,m.have'⟩⟩
theorem mayG_sorted {g:Gr} (h:mayG g=true):g.2.1.Pairwise fun o p=>o.1<p.1:=riseG_sorted (mayG_parts h).2.2.1
theorem haveG_mono {g h:Gr} {f:Fld} {v:Vl} (hs:h.1=g.1) (hh:haveG g f v=true) (hf:f.2.1=5→v.2.2≠-1→findG g.2.1 v.2.2≠-1→findG h.2.1 v.2.2≠-1∧typG h.2.1 v.2.2=typG g.2.1 v.2.2):haveG h f v=true:=by
 by_cases h5:f.2.1=5
 ·by_cases hr:v.2.2 = -1
  ·rw[haveG] at hh ⊢
   simp only[hr,decide_true,Bool.or_true,Bool.true_or,Bool.and_true] at hh ⊢
   exact hh
  ·obtain⟨a1,a2⟩:=haveG_ref hh h5 hr
   obtain⟨b1,b2⟩:=hf h5 hr a1
   rw[haveG] at hh ⊢
   rw[Bool.and_eq_true] at hh
   rw[hh.1,b2,a2,hs]
   simp[b1]
 ·rw[haveG] at hh ⊢
  simp only[ne_eq,h5,not_false_eq_true,decide_true,Bool.true_or,Bool.and_true] at hh ⊢
  exact hh
theorem typG_of {os:List Ob} {o:Ob} (hs:os.Pairwise fun o p=>o.1<p.1) (ho:o∈os):findG os o.1≠-1∧typG os o.1=o.2.1:=by
 have h:=findG_mem.2 ⟨o,ho,rfl⟩
 obtain⟨i,p,-,h2,h3,h4⟩:=findG_at h
 obtain rfl:=sorted_apart hs (List.mem_of_getElem? h2) ho h3
 exact⟨h,h4⟩
theorem find_of {os ps:List Ob} {r:Int} (hs:os.Pairwise fun o p=>o.1<p.1) (hp:ps.Pairwise fun o p=>o.1<p.1) (h:∀ o∈os,o.1=r→∃ p∈ps,p.1=o.1∧p.2.1=o.2.1) (hr:findG os r≠-1):findG ps r≠-1∧typG ps r=typG os r:=by
 obtain⟨o,ho,rfl⟩:=findG_mem.1 hr
 obtain⟨p,hpp,e1,e2⟩:=h o ho rfl
 have a:=typG_of hs ho
 have b:=typG_of hp hpp
 rw[e1] at b
 exact⟨b.1,by rw[b.2,a.2,e2]⟩
theorem come_ref {g:Gr} (hm:mayG g=true) {o:Ob} (ho:o∈g.2.1) (hc:ComeG g o.1) {k:Nat} {f:Fld} {v:Vl} (hf:(fldsG g.1 o.2.1)[k]?=some f) (hv:o.2.2[k]?=some v) (h5:f.2.1=5) (hr:v.2.2≠-1):ComeG g v.2.2∧∃ p∈g.2.1,p.1=v.2.2:=by
 obtain⟨id,h1,h2,h3⟩:=hc
 exact⟨⟨id,h1,h2,.step h3 ho (refsG_mem.2 ⟨k,f,v,hf,hv,h5,hr,rfl⟩)⟩,findG_mem.1 (haveG_ref ((mayG_obj hm ho).have' k f v hf hv) h5 hr).1⟩
theorem come_is {g:Gr} (hm:mayG g=true) {x:Int} (hc:ComeG g x):∃ p∈g.2.1,p.1=x:=by
 obtain⟨id,h1,h2,h3⟩:=hc
 cases h3 with
 | here=>
  have:=(mayG_parts hm).2.2.2.2 _ h1
  rw[rootG,Bool.or_eq_true,decide_eq_true_eq,decide_eq_true_eq] at this
  exact findG_mem.1 (this.resolve_left h2)
 | step hf ho hr=>
  obtain⟨k,f,v,a1,a2,a3,a4,rfl⟩:=refsG_mem.1 hr
  exact findG_mem.1 (haveG_ref ((mayG_obj hm ho).have' k f v a1 a2) a3 a4).1
theorem sweep_mem {g:Gr} (hm:mayG g=true) {o:Ob}:o∈(sweepG g).2.1↔o∈g.2.1∧ComeG g o.1:=by
 rw[sweepG_yes hm]
 simp[List.mem_filter]
theorem sweepG_may {g:Gr} (hm:mayG g=true):mayG (sweepG g)=true:=by
 obtain⟨m1,m2,m3,m4,m5⟩:=mayG_parts hm
 have hs:=mayG_sorted hm
 have e1:(sweepG g).1=g.1:=by rw[sweepG_yes hm]
 have e3:(sweepG g).2.2=g.2.2:=by rw[sweepG_yes hm]
 have hsub:((sweepG g).2.1).Sublist g.2.1:=by rw[sweepG_yes hm];exact List.filter_sublist
 have hsn:=hs.sublist hsub
 refine mayG_mk (by rw[e1];exact m1) (Nat.le_trans hsub.length_le m2) (by rw[e3];exact m4) (fun r hr=>?_) (fun o ho=>?_) hsn
 ·rw[e3] at hr
  have:=m5 r hr
  rw[rootG,Bool.or_eq_true,decide_eq_true_eq,decide_eq_true_eq] at this ⊢
  by_cases h1:r = -1
  ·exact .inl h1
  ·obtain⟨o,ho,e⟩:=findG_mem.1 (this.resolve_left h1)
   exact .inr (findG_mem.2 ⟨o,(sweep_mem hm).2 ⟨ho,⟨r,hr,h1,by rw[e];exact .here⟩⟩,e⟩)
 ·obtain⟨ho1,ho2⟩:=(sweep_mem hm).1 ho
  have m:=mayG_obj hm ho1
  refine⟨m.id0,m.id1,m.t0,by rw[e1];exact m.t1,by rw[e1];exact m.len,fun k f v hf hv=>?_⟩
  rw[e1] at hf
  refine haveG_mono (g:=g) e1 (m.have' k f v hf hv) fun h5 hr hfi=>?_
  obtain⟨hc,p,hp,e⟩:=come_ref hm ho1 ho2 hf hv h5 hr
  refine find_of hs hsn (fun q hq hqr=>⟨q,(sweep_mem hm).2 ⟨hq,by rw[hqr];exact hc⟩,rfl,rfl⟩) hfi
theorem lref_at {g:Gr} (hm:mayG g=true) {o:Ob} (ho:o∈g.2.1) {k:Nat} {f:Fld} {v:Vl} (hf:(fldsG g.1 o.2.1)[k]?=some f) (hv:o.2.2[k]?=some v) (h5:f.2.1=5) (h0:0≤v.2.2):∃ I:Nat,findG g.2.1 v.2.2=(I:Int)∧I<g.2.1.length:=by
 obtain⟨I,o,h1,h2,-,-⟩:=findG_at (haveG_ref ((mayG_obj hm ho).have' k f v hf hv) h5 (by omega)).1
 exact⟨I,h1,(List.getElem?_eq_some_iff.1 h2).1⟩
theorem lroot_at {g:Gr} (hm:mayG g=true) {r:Int} (hr:r∈g.2.2) (h0:0≤r):∃ I:Nat,findG g.2.1 r=(I:Int)∧I<g.2.1.length:=by
 have:=(mayG_parts hm).2.2.2.2 r hr
 rw[rootG,Bool.or_eq_true,decide_eq_true_eq,decide_eq_true_eq] at this
 obtain⟨I,o,h1,h2,-,-⟩:=findG_at (this.resolve_left (by omega))
 exact⟨I,h1,(List.getElem?_eq_some_iff.1 h2).1⟩
def metL (l:List Int) (id:Int):List Int:=if id<0∨id∈l then l else l++[id]
def refsL (s:Sch) (o:Ob):List Int:=((fldsG s o.2.1).zip o.2.2).filterMap fun p=>if p.1.2.1=5 then some p.2.2.2 else none
def ordN (g:Gr):Nat→List Int→Nat→List Int
 | 0,l,_=>l
 | n+1,l,i=>match l[i]? with
  | none=>l
  | some id=>ordN g n ((refsL g.1 (objG g.2.1 id)).foldl metL l) (i+1)
def ordG (g:Gr):List Int:=if mayG g=true then ordN g 8 (g.2.2.foldl metL []) 0 else []
def atL (l:List Int) (n:Int):Int:=idxP (fun x=>decide (x=n)) l
def leadV (f:Int→Int):List Fld→List Vl→List Vl
 | a :: fs,v :: vs=>(if a.2.1=5 then (v.1,v.2.1,f v.2.2) else v) :: leadV f fs vs
 | [],vs=>vs
 | _ :: _,[]=>[]
def canO (g:Gr) (l:List Int) (i:Nat) (id:Int):Ob:=((i:Int),(objG g.2.1 id).2.1,leadV (atL l) (fldsG g.1 (objG g.2.1 id).2.1) (objG g.2.1 id).2.2)
def canonG (g:Gr):Gr:=if mayG g=true then (g.1,(ordG g).mapIdx (canO g (ordG g)),g.2.2.map (atL (ordG g))) else ([],[],[])
theorem metL_mem {l:List Int} {id x:Int}:x∈metL l id↔x∈l∨(x=id∧0≤id):=by
 rw[metL]
 split
 ·rename_i h
  constructor
  ·exact .inl
  ·rintro (h1 | ⟨rfl,h2⟩)
   ·exact h1
   ·rcases h with h | h
    ·omega
    ·exact h
 ·rename_i h
  simp only[List.mem_append,List.mem_singleton]
  constructor
  ·rintro (h1 | rfl)
   ·exact .inl h1
   ·exact .inr ⟨rfl,by omega⟩
  ·rintro (h1 | ⟨rfl,h2⟩)
   ·exact .inl h1
   ·exact .inr rfl
theorem metL_nodup {l:List Int} {id:Int} (h:l.Nodup):(metL l id).Nodup:=by
 rw[metL]
 split
 ·exact h
 ·rename_i hn
  rw[List.nodup_append]
  refine⟨h,by simp,fun a ha b hb=>?_⟩
  simp at hb
  subst hb
  intro e
  subst e
  exact hn (.inr ha)
theorem mets_mem:∀ {rs l:List Int} {x:Int},x∈rs.foldl metL l↔x∈l∨(x∈rs∧0≤x)
 | [],l,x=>by simp
 | r :: rs,l,x=>by
  rw[List.foldl_cons,mets_mem,metL_mem]
  simp only[List.mem_cons]
  constructor
  ·rintro ((h | ⟨rfl,h⟩) | h)
   ·exact .inl h
   ·exact .inr ⟨.inl rfl,h⟩
   ·exact .inr ⟨.inr h.1,h.2⟩
  ·rintro (h | ⟨rfl | h,h2⟩)
   ·exact .inl (.inl h)
   ·exact .inl (.inr ⟨rfl,h2⟩)
   ·exact .inr ⟨h,h2⟩
theorem mets_nodup:∀ {rs l:List Int},l.Nodup→(rs.foldl metL l).Nodup
 | [],_,h=>h
 | _ :: rs,_,h=>mets_nodup (rs:=rs) (metL_nodup h)
theorem nodup_le:∀ {l m:List Int},l.Nodup→(∀ x∈l,x∈m)→l.length≤m.length
 | [],_,_,_=>Nat.zero_le _
 | a :: l,m,hn,hs=>by
  obtain⟨h1,h2⟩:=List.nodup_cons.1 hn
  have ha:=hs a (List.mem_cons_self ..)
  have ih:=nodup_le (l:=l) (m:=m.erase a) h2 fun x hx=>(List.mem_erase_of_ne (fun (e:x=a)=>h1 (by rw[← e];exact hx))).2 (hs x (List.mem_cons_of_mem _ hx))
  rw[List.length_erase_of_mem ha] at ih
  have:=List.length_pos_of_mem ha
  simp only[List.length_cons]
  omega
theorem metL_pre (l:List Int) (id:Int):∃ m,metL l id=l++m:=by
 rw[metL]
 split
 ·exact⟨[],by simp⟩
 ·exact⟨[id],rfl⟩
theorem mets_pre:∀ (rs l:List Int),∃ m,rs.foldl metL l=l++m
 | [],l=>⟨[],by simp⟩
 | r :: rs,l=>by
  obtain⟨m,hm⟩:=metL_pre l r
  obtain⟨m2,hm2⟩:=mets_pre rs (metL l r)
  exact⟨m++m2,by rw[List.foldl_cons,hm2,hm,List.append_assoc]⟩
theorem ordN_pre (g:Gr):∀ (n:Nat) (l:List Int) (i:Nat),∃ m,ordN g n l i=l++m
 | 0,l,i=>⟨[],by simp[ordN]⟩
 | n+1,l,i=>by
  rw[ordN]
  split
  ·exact⟨[],by simp⟩
  ·rename_i id _
   obtain⟨m,hm⟩:=mets_pre (refsL g.1 (objG g.2.1 id)) l
   obtain⟨m2,hm2⟩:=ordN_pre g n ((refsL g.1 (objG g.2.1 id)).foldl metL l) (i+1)
   exact⟨m++m2,by rw[hm2,hm,List.append_assoc]⟩
theorem ordN_nodup (g:Gr):∀ {n:Nat} {l:List Int} {i:Nat},l.Nodup→(ordN g n l i).Nodup
 | 0,l,i,h=>h
 | n+1,l,i,h=>by
  rw[ordN]
  split
  ·exact h
  ·exact ordN_nodup g (mets_nodup h)
theorem refsL_mem {s:Sch} {o:Ob} {r:Int}:r∈refsL s o↔∃ (k:Nat) (f:Fld) (v:Vl),(fldsG s o.2.1)[k]?=some f∧o.2.2[k]?=some v∧f.2.1=5∧v.2.2=r:=by
 rw[refsL,List.mem_filterMap]
 constructor
 ·rintro⟨⟨f,v⟩,hp,hr⟩
  obtain⟨k,hk⟩:=List.getElem?_of_mem hp
  rw[List.getElem?_zip_eq_some] at hk
  simp only at hr
  split at hr
  ·rename_i hc
   injection hr with hr
   exact⟨k,f,v,hk.1,hk.2,hc,hr⟩
  ·cases hr
 ·rintro⟨k,f,v,h1,h2,h3,h5⟩
  refine⟨(f,v),List.mem_of_getElem? (List.getElem?_zip_eq_some.2 ⟨h1,h2⟩),?_⟩
  simp only[h3,h5,if_true]
theorem ordN_all {g:Gr} {P:Int→Prop} (hstep:∀ id,P id→∀ r∈refsL g.1 (objG g.2.1 id),0≤r→P r):∀ {n:Nat} {l:List Int} {i:Nat},(∀ x∈l,P x)→∀ x∈ordN g n l i,P x
 | 0,l,i,h=>h
 | n+1,l,i,h=>by
  rw[ordN]
  split
  ·exact h
  ·rename_i id hid
   refine ordN_all hstep fun x hx=>?_
   rcases mets_mem.1 hx with h1 | ⟨h1,h2⟩
   ·exact h x h1
   ·exact hstep id (h id (List.mem_of_getElem? hid)) x h1 h2
theorem ordN_shut {g:Gr} {P:Int→Prop} {B:Nat} (hstep:∀ id,P id→∀ r∈refsL g.1 (objG g.2.1 id),0≤r→P r) (hB:∀ l:List Int,l.Nodup→(∀ x∈l,P x)→l.length≤B):
  ∀ {n:Nat} {l:List Int} {i:Nat},l.Nodup→(∀ x∈l,P x)→B≤i+n→(∀ (j:Nat) id,j<i→l[j]?=some id→∀ r∈refsL g.1 (objG g.2.1 id),0≤r→r∈l)→∀ id∈ordN g n l i,∀ r∈refsL g.1 (objG g.2.1 id),0≤r→r∈ordN g n l i
 | 0,l,i,hn,hP,hi,hc=>by
  intro id hid r hr h0
  obtain⟨j,hj⟩:=List.getElem?_of_mem hid
  have:=(List.getElem?_eq_some_iff.1 hj).1
  have:=hB l hn hP
  exact hc j id (by simp only[ordN] at *;omega) hj r hr h0
 | n+1,l,i,hn,hP,hi,hc=>by
  rw[ordN]
  split
  ·rename_i h1
   intro id hid r hr h0
   obtain⟨j,hj⟩:=List.getElem?_of_mem hid
   have h2:=(List.getElem?_eq_some_iff.1 hj).1
   have h3:=List.getElem?_eq_none_iff.1 h1
   exact hc j id (by omega) hj r hr h0
  ·rename_i id hid
   have hP':∀ x∈(refsL g.1 (objG g.2.1 id)).foldl metL l,P x:=fun x hx=>by
    rcases mets_mem.1 hx with h1 | ⟨h1,h2⟩
    ·exact hP x h1
    ·exact hstep id (hP id (List.mem_of_getElem? hid)) x h1 h2
   refine ordN_shut hstep hB (mets_nodup hn) hP' (by omega) fun j x hj hx r hr h0=>?_
   obtain⟨m,hm⟩:=mets_pre (refsL g.1 (objG g.2.1 id)) l
   have hil:=(List.getElem?_eq_some_iff.1 hid).1
   rw[hm,List.getElem?_append_left (by omega)] at hx
   by_cases hji:j<i
   ·exact mets_mem.2 (.inl (hc j x hji hx r hr h0))
   ·obtain rfl:j=i:=by omega
    rw[hid] at hx
    injection hx with hx
    subst hx
    exact mets_mem.2 (.inr ⟨hr,h0⟩)
def IdG (g:Gr) (x:Int):Prop:=∃ o∈g.2.1,o.1=x
theorem obj_of {g:Gr} (hm:mayG g=true) {o:Ob} (ho:o∈g.2.1):objG g.2.1 o.1=o:=by
 obtain⟨i,p,h1,h2,h3,-⟩:=findG_at (findG_mem.2 ⟨o,ho,rfl⟩)
 rw[objG_at h1 h2]
 exact mayG_apart hm (List.mem_of_getElem? h2) ho h3
theorem refs_step {g:Gr} (hm:mayG g=true) (id:Int) (h:IdG g id):∀ r∈refsL g.1 (objG g.2.1 id),0≤r→IdG g r:=by
 obtain⟨o,ho,rfl⟩:=h
 rw[obj_of hm ho]
 intro r hr h0
 obtain⟨k,f,v,h1,h2,h3,rfl⟩:=refsL_mem.1 hr
 exact findG_mem.1 (haveG_ref ((mayG_obj hm ho).have' k f v h1 h2) h3 (by omega)).1
theorem root_id {g:Gr} (hm:mayG g=true) {r:Int} (hr:r∈g.2.2) (h0:0≤r):IdG g r:=by
 have:=(mayG_parts hm).2.2.2.2 r hr
 rw[rootG,Bool.or_eq_true,decide_eq_true_eq,decide_eq_true_eq] at this
 exact findG_mem.1 (this.resolve_left (by omega))
theorem ids_few {g:Gr} (hm:mayG g=true) (l:List Int) (hn:l.Nodup) (h:∀ x∈l,IdG g x):l.length≤8:=by
 have h1:l.length≤(g.2.1.map (·.1)).length:=by
  refine nodup_le hn fun x hx=>?_
  obtain⟨o,ho,e⟩:=h x hx
  exact List.mem_map.2 ⟨o,ho,e⟩
 rw[List.length_map] at h1
 have:=(mayG_parts hm).2.1
 omega
theorem ordG_yes {g:Gr} (hm:mayG g=true):ordG g=ordN g 8 (g.2.2.foldl metL []) 0:=if_pos hm
theorem roots_ids {g:Gr} (hm:mayG g=true):∀ x∈g.2.2.foldl metL [],IdG g x:=fun x hx=>by
 rcases mets_mem.1 hx with h | ⟨h1,h2⟩
 ·simp at h
 ·exact root_id hm h1 h2
theorem ordG_nodup {g:Gr} (hm:mayG g=true):(ordG g).Nodup:=by rw[ordG_yes hm];exact ordN_nodup g (mets_nodup (by simp))
theorem ordG_ids {g:Gr} (hm:mayG g=true):∀ x∈ordG g,IdG g x:=by rw[ordG_yes hm];exact ordN_all (refs_step hm) (roots_ids hm)
theorem ordG_few {g:Gr} (hm:mayG g=true):(ordG g).length≤8:=ids_few hm _ (ordG_nodup hm) (ordG_ids hm)
theorem ordG_root {g:Gr} (hm:mayG g=true) {r:Int} (hr:r∈g.2.2) (h0:0≤r):r∈ordG g:=by
 rw[ordG_yes hm]
 obtain⟨m,e⟩:=ordN_pre g 8 (g.2.2.foldl metL []) 0
 rw[e]
 exact List.mem_append_left _ (mets_mem.2 (.inr ⟨hr,h0⟩))
theorem ordG_shut {g:Gr} (hm:mayG g=true):∀ id∈ordG g,∀ r∈refsL g.1 (objG g.2.1 id),0≤r→r∈ordG g:=by
 rw[ordG_yes hm]
 exact ordN_shut (refs_step hm) (ids_few hm) (mets_nodup (by simp)) (roots_ids hm) (by omega) fun j id hj=>by omega
theorem ordG_pos {g:Gr} (hm:mayG g=true) {x:Int} (hx:x∈ordG g):0≤x:=by
 obtain⟨o,ho,rfl⟩:=ordG_ids hm x hx
 exact (mayG_obj hm ho).id0
theorem come_pos {g:Gr} (hm:mayG g=true) {x:Int} (h:ComeG g x):0≤x:=by
 obtain⟨o,ho,rfl⟩:=come_is hm h
 exact (mayG_obj hm ho).id0
theorem ordG_mem {g:Gr} (hm:mayG g=true) {x:Int}:x∈ordG g↔ComeG g x:=by
 constructor
 ·rw[ordG_yes hm]
  refine ordN_all (P:=ComeG g) (fun id hc r hr h0=>?_) (fun x hx=>?_) x
  ·obtain⟨o,ho,rfl⟩:=come_is hm hc
   rw[obj_of hm ho] at hr
   obtain⟨k,f,v,h1,h2,h3,rfl⟩:=refsL_mem.1 hr
   exact (come_ref hm ho hc h1 h2 h3 (by omega)).1
  ·rcases mets_mem.1 hx with h | ⟨h1,h2⟩
   ·simp at h
   ·exact⟨x,h1,by omega,.here⟩
 ·rintro⟨id,h1,h2,h3⟩
  induction h3 with
  | here=>
   have:=come_pos hm ⟨id,h1,h2,.here⟩
   exact ordG_root hm h1 this
  | step hf ho hr ih=>
   rename_i o r
   obtain⟨k,f,v,a1,a2,a3,a4,rfl⟩:=refsG_mem.1 hr
   have hp:=come_pos hm (x:=v.2.2) ⟨id,h1,h2,.step hf ho hr⟩
   refine ordG_shut hm _ ih _ ?_ hp
   rw[obj_of hm ho]
   exact refsL_mem.2 ⟨k,f,v,a1,a2,a3,rfl⟩
def ren (ρ:Int→Int) (r:Int):Int:=if r<0 then r else ρ r
theorem ren_neg {ρ:Int→Int} {r:Int} (h:r<0):ren ρ r=r:=if_pos h
theorem ren_pos {ρ:Int→Int} {r:Int} (h:0≤r):ren ρ r=ρ r:=if_neg (by omega)
structure Ren (ρ:Int→Int) (S:Int→Prop) (g h:Gr):Prop where
 sch:h.1=g.1
 roots:h.2.2=g.2.2.map (ren ρ)
 root:∀ r∈g.2.2,0≤r→S r
 step:∀ x,S x→∀ r∈refsL g.1 (objG g.2.1 x),0≤r→S r
 inj:∀ x y,S x→S y→ρ x=ρ y→x=y
 pos:∀ x,S x→0≤ρ x
 obj:∀ x,S x→(objG h.2.1 (ρ x)).2=((objG g.2.1 x).2.1,leadV (ren ρ) (fldsG g.1 (objG g.2.1 x).2.1) (objG g.2.1 x).2.2)
theorem refs_lead (f:Int→Int):∀ (fs:List Fld) (vs:List Vl),(fs.zip (leadV f fs vs)).filterMap (fun p=>if p.1.2.1=5 then some p.2.2.2 else none)=((fs.zip vs).filterMap (fun p=>if p.1.2.1=5 then some p.2.2.2 else none)).map f
 | [],vs=>by simp[leadV]
 | a :: fs,[]=>by simp[leadV]
 | a :: fs,v :: vs=>by
  rw[leadV,List.zip_cons_cons,List.zip_cons_cons,List.filterMap_cons,List.filterMap_cons,refs_lead f fs vs]
  by_cases h:a.2.1=5
  ·simp[h]
  ·simp[h]
theorem leadV_len (f:Int→Int):∀ (fs:List Fld) (vs:List Vl),fs.length=vs.length→(leadV f fs vs).length=vs.length
 | [],vs,_=>rfl
 | a :: fs,[],h=>by simp at h
 | a :: fs,v :: vs,h=>by rw[leadV,List.length_cons,leadV_len f fs vs (by simpa using h),List.length_cons]
theorem leadV_at (f:Int→Int):∀ {fs:List Fld} {vs:List Vl} {k:Nat} {a:Fld} {v:Vl},fs[k]?=some a→vs[k]?=some v→(leadV f fs vs)[k]?=some (if a.2.1=5 then (v.1,v.2.1,f v.2.2) else v)
 | [],_,_,_,_,h,_=>by simp at h
 | _ :: _,[],_,_,_,_,h=>by simp at h
 | a :: fs,v :: vs,0,_,_,h1,h2=>by
  simp at h1 h2
  subst h1 h2
  rw[leadV]
  rfl
 | a :: fs,v :: vs,k+1,_,_,h1,h2=>by
  rw[leadV,List.getElem?_cons_succ]
  exact leadV_at f (by simpa using h1) (by simpa using h2)
theorem leadV_two (f h:Int→Int):∀ (fs:List Fld) (vs:List Vl),leadV f fs (leadV h fs vs)=leadV (fun r=>f (h r)) fs vs
 | [],vs=>rfl
 | a :: fs,[]=>rfl
 | a :: fs,v :: vs=>by
  rw[leadV,leadV,leadV,leadV_two f h fs vs]
  by_cases e:a.2.1=5 <;> simp[e]
theorem leadV_congr {f h:Int→Int}:∀ {fs:List Fld} {vs:List Vl},(∀ (k:Nat) a v,fs[k]?=some a→vs[k]?=some v→a.2.1=5→f v.2.2=h v.2.2)→leadV f fs vs=leadV h fs vs
 | [],vs,_=>rfl
 | a :: fs,[],_=>rfl
 | a :: fs,v :: vs,hh=>by
  rw[leadV,leadV,leadV_congr (fs:=fs) (vs:=vs) fun k a v h1 h2=>hh (k+1) a v (by simpa using h1) (by simpa using h2)]
  by_cases e:a.2.1=5
  ·rw[if_pos e,if_pos e,hh 0 a v rfl rfl e]
  ·rw[if_neg e,if_neg e]
theorem idxP_map {α β:Type} (p:β→Bool) (f:α→β):∀ l:List α,idxP p (l.map f)=idxP (fun a=>p (f a)) l
 | []=>rfl
 | a :: l=>by rw[List.map_cons,idxP,idxP,idxP_map p f l]
theorem idxP_congr {α:Type} {p q:α→Bool}:∀ {l:List α},(∀ a∈l,p a=q a)→idxP p l=idxP q l
 | [],_=>rfl
 | a :: l,h=>by rw[idxP,idxP,idxP_congr (l:=l) fun b hb=>h b (List.mem_cons_of_mem _ hb),h a (List.mem_cons_self ..)]
theorem atL_none {l:List Int} {r:Int}:atL l r = -1↔r ∉ l:=by
 rw[atL,idxP_none]
 constructor
 ·intro h hr
  have:=h r hr
  simp at this
 ·intro h a ha
  exact zK fun e=>h (by rw[← e];exact ha)
theorem atL_at {l:List Int} (hn:l.Nodup) {i:Nat} {x:Int} (h:l[i]?=some x):atL l x=(i:Int):=by
 refine (idxP_iff _ l i).2 ⟨⟨x,h,zJ rfl⟩,fun j y hj hy=>zK fun e=>?_⟩
 subst e
 have h1:=(List.getElem?_eq_some_iff.1 h).1
 have:=(List.getElem?_inj (by omega:j<l.length) hn).1 (hy.trans h.symm)
 omega
theorem atL_mem {l:List Int} {r:Int} (h:r∈l):∃ i:Nat,atL l r=(i:Int)∧l[i]?=some r:=by
 have h0:=idxP_low (fun x=>decide (x=r)) l
 have h1:atL l r≠-1:=fun e=>atL_none.1 e h
 obtain⟨i,hi⟩:∃ i:Nat,atL l r=(i:Int):=⟨(atL l r).toNat,by unfold atL at *;omega⟩
 obtain⟨⟨x,hx,hp⟩,-⟩:=(idxP_iff _ l i).1 hi
 exact⟨i,hi,by rw[hx,of_decide_eq_true hp]⟩
section
variable {ρ : Int → Int} {S : Int → Prop} {g h : Gr}
theorem Ren.met (R:Ren ρ S g h) {l:List Int} {r:Int} (hl:∀ x∈l,S x) (hr:0≤r→S r):metL (l.map ρ) (ren ρ r)=(metL l r).map ρ:=by
 by_cases h0:r<0
 ·rw[ren_neg h0,metL,metL,if_pos (.inl h0),if_pos (.inl h0)]
 ·rw[ren_pos (by omega)]
  have hp:=R.pos r (hr (by omega))
  by_cases hm:r∈l
  ·rw[metL,metL,if_pos (.inr (List.mem_map_of_mem hm)),if_pos (.inr hm)]
  ·rw[metL,metL,if_neg,if_neg (fun e=>e.elim h0 hm),List.map_append]
   ·rfl
   ·rintro (e | e)
    ·omega
    ·obtain⟨x,hx,e2⟩:=List.mem_map.1 e
     have:=R.inj x r (hl x hx) (hr (by omega)) e2
     subst this
     exact hm hx
theorem Ren.mets (R:Ren ρ S g h):∀ {rs l:List Int},(∀ x∈l,S x)→(∀ r∈rs,0≤r→S r)→(rs.map (ren ρ)).foldl metL (l.map ρ)=(rs.foldl metL l).map ρ
 | [],_,_,_=>rfl
 | r :: rs,l,hl,hr=>by
  rw[List.map_cons,List.foldl_cons,List.foldl_cons,R.met hl (hr r (List.mem_cons_self ..))]
  refine R.mets (fun x hx=>?_) fun x hx=>hr x (List.mem_cons_of_mem _ hx)
  rcases metL_mem.1 hx with h1 | ⟨rfl,h2⟩
  ·exact hl x h1
  ·exact hr x (List.mem_cons_self ..) h2
theorem Ren.refs (R:Ren ρ S g h) {x:Int} (hx:S x):refsL h.1 (objG h.2.1 (ρ x))=(refsL g.1 (objG g.2.1 x)).map (ren ρ):=by
 rw[refsL,refsL,R.obj x hx,R.sch]
 exact refs_lead _ _ _
theorem Ren.ordNs (R:Ren ρ S g h):∀ {n:Nat} {l:List Int} {i:Nat},(∀ x∈l,S x)→ordN h n (l.map ρ) i=(ordN g n l i).map ρ
 | 0,_,_,_=>rfl
 | n+1,l,i,hl=>by
  rw[ordN,ordN,List.getElem?_map]
  cases hi:l[i]? with
  | none=>rfl
  | some x=>
   have hx:=hl x (List.mem_of_getElem? hi)
   show ordN h n _ _=(ordN g n _ _).map ρ
   rw[R.refs hx,R.mets hl (fun r hr h0=>R.step x hx r hr h0)]
   refine R.ordNs fun y hy=>?_
   rcases mets_mem.1 hy with h1 | ⟨h1,h2⟩
   ·exact hl y h1
   ·exact R.step x hx y h1 h2
theorem Ren.order (R:Ren ρ S g h) (hg:mayG g=true) (hh:mayG h=true):ordG h=(ordG g).map ρ:=by
 rw[ordG_yes hg,ordG_yes hh,R.roots]
 have h0:(g.2.2.map (ren ρ)).foldl metL []=(g.2.2.foldl metL []).map ρ:=R.mets (l:=[]) (fun x hx=>by simp at hx) R.root
 rw[h0]
 refine R.ordNs fun x hx=>?_
 rcases mets_mem.1 hx with h1 | ⟨h1,h2⟩
 ·simp at h1
 ·exact R.root x h1 h2
theorem Ren.at (R:Ren ρ S g h) {l:List Int} (hl:∀ x∈l,S x) (hp:∀ x∈l,0≤x) {r:Int} (hr:0≤r→S r):atL (l.map ρ) (ren ρ r)=atL l r:=by
 by_cases h0:r<0
 ·have e1:atL l r = -1:=atL_none.2 fun e=>by have:=hp r e;omega
  have e2:atL (l.map ρ) r = -1:=atL_none.2 fun e=>by
   obtain⟨x,hx,rfl⟩:=List.mem_map.1 e
   have:=R.pos x (hl x hx)
   omega
  rw[ren_neg h0,e1,e2]
 ·rw[ren_pos (by omega),atL,atL,idxP_map]
  refine idxP_congr fun x hx=>?_
  by_cases e:x=r
  ·rw[zJ e,zJ (by rw[e])]
  ·rw[zK e,zK (fun e2=>e (R.inj x r (hl x hx) (hr (by omega)) e2))]
theorem Ren.canon (R:Ren ρ S g h) (hg:mayG g=true) (hh:mayG h=true) (hS:∀ x∈ordG g,S x):canonG h=canonG g:=by
 have ho:=R.order hg hh
 have hp:∀ x∈ordG g,0≤x:=fun x hx=>ordG_pos hg hx
 rw[canonG,canonG,if_pos hg,if_pos hh,R.sch,ho]
 refine Prod.ext rfl (Prod.ext ?_ ?_)
 ·refine List.ext_getElem? fun i=>?_
  show ((List.map ρ (ordG g)).mapIdx _)[i]?=((ordG g).mapIdx _)[i]?
  rw[List.getElem?_mapIdx,List.getElem?_mapIdx,List.getElem?_map]
  cases hi:(ordG g)[i]? with
  | none=>rfl
  | some x=>
   have hm:=List.mem_of_getElem? hi
   have hx:=hS x hm
   show some (canO h _ i (ρ x))=some (canO g _ i x)
   rw[canO,canO,R.obj x hx,R.sch,leadV_two]
   refine congrArg some (Prod.ext rfl (Prod.ext rfl ?_))
   refine leadV_congr fun k a v h1 h2 h5=>?_
   exact R.at hS hp fun h0=>R.step x hx _ (refsL_mem.2 ⟨k,a,v,h1,h2,h5,rfl⟩) h0
 ·show h.2.2.map _=g.2.2.map _
  rw[R.roots,List.map_map]
  refine List.map_congr_left fun r hr=>?_
  exact R.at hS hp fun h0=>R.root r hr h0
end
theorem canon_at {g:Gr} (hm:mayG g=true) {i:Nat} {x:Int} (h:(ordG g)[i]?=some x):(canonG g).2.1[i]?=some (canO g (ordG g) i x):=by
 rw[canonG,if_pos hm]
 show ((ordG g).mapIdx _)[i]?=_
 rw[List.getElem?_mapIdx,h]
 rfl
theorem canon_len {g:Gr} (hm:mayG g=true):(canonG g).2.1.length=(ordG g).length:=by
 rw[canonG,if_pos hm]
 simp
theorem canon_find {g:Gr} (hm:mayG g=true) {i:Nat} (h:i<(ordG g).length):findG (canonG g).2.1 (i:Int)=(i:Int):=by
 refine (idxP_iff _ _ i).2 ⟨⟨_,canon_at hm (zV h),zJ rfl⟩,fun j b hj hb=>?_⟩
 rw[canon_at hm (zV (by omega:j<(ordG g).length))] at hb
 injection hb with hb
 subst hb
 exact zK (by show ¬ ((j:Int)=(i:Int));omega)
theorem canon_obj {g:Gr} (hm:mayG g=true) {x:Int} (hx:x∈ordG g):objG (canonG g).2.1 (atL (ordG g) x)=canO g (ordG g) (atL (ordG g) x).toNat x:=by
 obtain⟨i,h1,h2⟩:=atL_mem hx
 rw[h1,Int.toNat_natCast]
 exact objG_at (canon_find hm (List.getElem?_eq_some_iff.1 h2).1) (canon_at hm h2)
theorem may_neg {g:Gr} (hm:mayG g=true) {r:Int} (hr:r∈g.2.2) (h0:r<0):r = -1:=by
 have:=(mayG_parts hm).2.2.2.2 r hr
 rw[rootG,Bool.or_eq_true,decide_eq_true_eq,decide_eq_true_eq] at this
 rcases this with h | h
 ·exact h
 ·obtain⟨o,ho,rfl⟩:=findG_mem.1 h
  have:=(mayG_obj hm ho).id0
  omega
theorem ref_neg {g:Gr} (hm:mayG g=true) {o:Ob} (ho:o∈g.2.1) {k:Nat} {f:Fld} {v:Vl} (hf:(fldsG g.1 o.2.1)[k]?=some f) (hv:o.2.2[k]?=some v) (h5:f.2.1=5) (h0:v.2.2<0):v.2.2 = -1:=by
 rcases Classical.em (v.2.2 = -1) with h | h
 ·exact h
 ·obtain⟨p,hp,e⟩:=findG_mem.1 (haveG_ref ((mayG_obj hm ho).have' k f v hf hv) h5 h).1
  have:=(mayG_obj hm hp).id0
  omega
theorem ord_obj {g:Gr} (hm:mayG g=true) {x:Int} (hx:x∈ordG g):∃ o∈g.2.1,o.1=x∧objG g.2.1 x=o:=by
 obtain⟨o,ho,rfl⟩:=ordG_ids hm x hx
 exact⟨o,ho,rfl,obj_of hm ho⟩
theorem canon_may {g:Gr} (hm:mayG g=true):mayG (canonG g)=true:=by
 obtain⟨m1,m2,m3,m4,m5⟩:=mayG_parts hm
 have e1:(canonG g).1=g.1:=by rw[canonG,if_pos hm]
 have e3:(canonG g).2.2=g.2.2.map (atL (ordG g)):=by rw[canonG,if_pos hm]
 have hin:∀ r,r∈ordG g→findG (canonG g).2.1 (atL (ordG g) r)≠-1:=fun r hr=>by
  obtain⟨i,h1,h2⟩:=atL_mem hr
  rw[h1,canon_find hm (List.getElem?_eq_some_iff.1 h2).1]
  omega
 have hneg:atL (ordG g) (-1) = -1:=atL_none.2 fun e=>by have:=ordG_pos hm e;omega
 refine mayG_mk (by rw[e1];exact m1) (by rw[canon_len hm];exact ordG_few hm) (by rw[e3,List.length_map];exact m4) (fun r hr=>?_) (fun o ho=>?_) ?_
 ·rw[e3] at hr
  obtain⟨q,hq,rfl⟩:=List.mem_map.1 hr
  rw[rootG,Bool.or_eq_true,decide_eq_true_eq,decide_eq_true_eq]
  by_cases h0:q<0
  ·rw[may_neg hm hq h0]
   exact .inl hneg
  ·exact .inr (hin q (ordG_root hm hq (by omega)))
 ·obtain⟨i,hi⟩:=List.getElem?_of_mem ho
  have hl:=(List.getElem?_eq_some_iff.1 hi).1
  rw[canon_len hm] at hl
  obtain⟨x,hx⟩:∃ x,(ordG g)[i]?=some x:=⟨_,zV hl⟩
  rw[canon_at hm hx] at hi
  injection hi with hi
  subst hi
  have hxm:=List.mem_of_getElem? hx
  obtain⟨p,hp,hpx,hpo⟩:=ord_obj hm hxm
  have mo:=mayG_obj hm hp
  have h8:=ordG_few hm
  rw[canO,hpo]
  refine⟨by show (0:Int)≤(i:Int);omega,by show (i:Int)≤1073741824;omega,mo.t0,by rw[e1];exact mo.t1,?_,fun k f v hf hv=>?_⟩
  ·show (fldsG (canonG g).1 p.2.1).length=(leadV _ _ _).length
   rw[e1,leadV_len _ _ _ mo.len]
   exact mo.len
  ·have hf':(fldsG g.1 p.2.1)[k]?=some f:=by rw[← e1];exact hf
   have hv':(leadV (atL (ordG g)) (fldsG g.1 p.2.1) p.2.2)[k]?=some v:=hv
   have hkl:=(List.getElem?_eq_some_iff.1 hf').1
   obtain⟨u,hu⟩:∃ u,p.2.2[k]?=some u:=⟨_,zV (by have:=mo.len;omega)⟩
   rw[leadV_at _ hf' hu] at hv'
   injection hv' with hv'
   have hh:=mo.have' k f u hf' hu
   by_cases h5:f.2.1=5
   ·rw[if_pos h5] at hv'
    subst hv'
    have hfit:fitsV f.2.1 u=true:=by rw[haveG,Bool.and_eq_true] at hh;exact hh.1
    rw[h5,vl_fits_5,decide_eq_true_eq] at hfit
    by_cases h0:u.2.2<0
    ·have hm1:=ref_neg hm hp hf' hu h5 h0
     rw[haveG,h5,vl_fits_5,hm1,hneg]
     have a3:=hfit.2.2.1
     have a4:=hfit.2.2.2
     simp[a3,a4]
    ·have hur:u.2.2∈ordG g:=by
      refine ordG_shut hm x hxm _ ?_ (by omega)
      rw[hpo]
      exact refsL_mem.2 ⟨k,f,u,hf',hu,h5,rfl⟩
     obtain⟨j,hj1,hj2⟩:=atL_mem hur
     have hjl:=(List.getElem?_eq_some_iff.1 hj2).1
     obtain⟨r1,r2⟩:=haveG_ref hh h5 (by omega)
     have hty:typG (canonG g).2.1 (j:Int)=typG g.2.1 u.2.2:=by
      obtain⟨q,hq,hqx,hqo⟩:=ord_obj hm hur
      have t1:typG (canonG g).2.1 (j:Int)=(canO g (ordG g) j u.2.2).2.1:=by
       have ho2:=objG_at (canon_find hm hjl) (canon_at hm hj2)
       show (objG (canonG g).2.1 (j:Int)).2.1=_
       rw[ho2]
      rw[t1,canO]
      rfl
     rw[haveG,h5,vl_fits_5,hj1,canon_find hm hjl,hty,r2,e1]
     have a3:=hfit.2.2.1
     have a4:=hfit.2.2.2
     have b1:(-1:Int)≤(j:Int):=by omega
     have b2:(j:Int)≤1073741824:=by omega
     have b3:¬ ((j:Int) = -1):=by omega
     simp[a3,a4,b1,b2,b3]
   ·rw[if_neg h5] at hv'
    subst hv'
    exact haveG_mono (g:=g) e1 hh fun e=>absurd e h5
 ·rw[List.pairwise_iff_getElem]
  intro i j hi hj hij
  rw[canon_len hm] at hi hj
  have h1:=canon_at hm (zV hi)
  have h2:=canon_at hm (zV hj)
  rw[(List.getElem?_eq_some_iff.1 h1).2,(List.getElem?_eq_some_iff.1 h2).2]
  show (i:Int)<(j:Int)
  omega
theorem canon_ren {g:Gr} (hm:mayG g=true):Ren (atL (ordG g)) (·∈ordG g) g (canonG g):=by
 have hneg:atL (ordG g) (-1) = -1:=atL_none.2 fun e=>by have:=ordG_pos hm e;omega
 have hren:∀ r:Int,(r<0→r = -1)→atL (ordG g) r=ren (atL (ordG g)) r:=fun r hr=>by
  by_cases h0:r<0
  ·rw[ren_neg h0,hr h0,hneg]
  ·rw[ren_pos (by omega)]
 refine⟨by rw[canonG,if_pos hm],?_,fun r hr h0=>ordG_root hm hr h0,fun x hx r hr h0=>ordG_shut hm x hx r hr h0,fun x y hx hy e=>?_,fun x hx=>?_,fun x hx=>?_⟩
 ·rw[canonG,if_pos hm]
  exact List.map_congr_left fun r hr=>hren r fun h0=>may_neg hm hr h0
 ·obtain⟨i,h1,h2⟩:=atL_mem hx
  obtain⟨j,h3,h4⟩:=atL_mem hy
  rw[h1,h3] at e
  obtain rfl:i=j:=by omega
  rw[h2] at h4
  injection h4
 ·obtain⟨i,h1,-⟩:=atL_mem hx
  rw[h1]
  omega
 ·obtain⟨o,ho,hox,hoo⟩:=ord_obj hm hx
  rw[canon_obj hm hx,canO]
  refine Prod.ext rfl ?_
  rw[hoo]
  exact leadV_congr fun k a v h1 h2 h5=>hren _ fun h0=>ref_neg hm ho h1 h2 h5 h0
theorem canon_twice {g:Gr} (hm:mayG g=true):canonG (canonG g)=canonG g:=(canon_ren hm).canon hm (canon_may hm) fun _ h=>h
def preR (g:Gr) (i:Nat):List Int:=(g.2.2.take i).foldl metL []
theorem preR_next {g:Gr} {i:Nat} {r:Int} (h:g.2.2[i]?=some r):preR g (i+1)=metL (preR g i) r:=by
 have hl:=(List.getElem?_eq_some_iff.1 h).1
 rw[preR,preR,List.take_add_one,h,List.foldl_append]
 rfl
theorem preR_nodup (g:Gr) (i:Nat):(preR g i).Nodup:=mets_nodup (by simp)
theorem q_drop {x:Int} {q l:List Int} (h:x<0∨x∈l):(x :: q).foldl metL l=q.foldl metL l:=by
 rw[List.foldl_cons,metL,if_pos h]
theorem q_end (g:Gr) (n:Nat) (l:List Int):ordN g n l l.length=l:=by
 cases n with
 | zero=>rfl
 | succ n=>rw[ordN,List.getElem?_eq_none (zW _)]
theorem q_take {g:Gr} {x:Int} {q l:List Int} (n:Nat) (h:¬ (x<0∨x∈l)):
  ordN g (n+1) ((x :: q).foldl metL l) l.length=ordN g n ((q++refsL g.1 (objG g.2.1 x)).foldl metL (l++[x])) (l++[x]).length:=by
 have e1:(x :: q).foldl metL l=q.foldl metL (l++[x]):=by rw[List.foldl_cons,metL,if_neg h]
 rw[e1,List.foldl_append]
 obtain⟨m,hm⟩:=mets_pre q (l++[x])
 have e2:(q.foldl metL (l++[x]))[l.length]?=some x:=by
  rw[hm,List.append_assoc,List.getElem?_append_right (zW _),Nat.sub_self]
  rfl
 rw[ordN,e2,List.length_append,List.length_singleton]
structure Meets (g:Gr) (l q:List Int):Prop where
 nd:l.Nodup
 ids:∀ x∈l,IdG g x
 led:∀ x∈q,x = -1∨IdG g x
 ord:∃ n,l.length+n=8∧ordG g=ordN g n (q.foldl metL l) l.length
theorem id_pos {g:Gr} (hm:mayG g=true) {x:Int} (h:IdG g x):0≤x:=by
 obtain⟨o,ho,rfl⟩:=h
 exact (mayG_obj hm ho).id0
theorem refs_led {g:Gr} (hm:mayG g=true) {o:Ob} (ho:o∈g.2.1):∀ r∈refsL g.1 o,r = -1∨IdG g r:=by
 intro r hr
 by_cases h0:0≤r
 ·right
  have:=refs_step hm o.1 ⟨o,ho,rfl⟩ r
  rw[obj_of hm ho] at this
  exact this hr h0
 ·left
  obtain⟨k,f,v,h1,h2,h3,rfl⟩:=refsL_mem.1 hr
  exact ref_neg hm ho h1 h2 h3 (by omega)
theorem roots_led {g:Gr} (hm:mayG g=true):∀ r∈g.2.2,r = -1∨IdG g r:=by
 intro r hr
 by_cases h0:0≤r
 ·exact .inr (root_id hm hr h0)
 ·exact .inl (may_neg hm hr (by omega))
theorem Meets.start {g:Gr} (hm:mayG g=true):Meets g [] g.2.2:=⟨by simp,by simp,roots_led hm,8,rfl,ordG_yes hm⟩
theorem Meets.few {g:Gr} {l q:List Int} (hm:mayG g=true) (h:Meets g l q):l.length≤8:=ids_few hm l h.nd h.ids
theorem Meets.skip {g:Gr} {l q:List Int} {x:Int} (h:Meets g l (x :: q)) (hx:x = -1∨x∈l):Meets g l q:=by
 obtain⟨n,h1,h2⟩:=h.ord
 rw[q_drop (by rcases hx with rfl | hx;exact .inl (by omega);exact .inr hx)] at h2
 exact⟨h.nd,h.ids,fun y hy=>h.led y (List.mem_cons_of_mem _ hy),n,h1,h2⟩
theorem Meets.met {g:Gr} {l q:List Int} {x:Int} (hm:mayG g=true) (h:Meets g l (x :: q)) (hx:¬ (x = -1∨x∈l)):IdG g x∧l.length<8∧Meets g (l++[x]) (q++refsL g.1 (objG g.2.1 x)):=by
 obtain⟨n,h1,h2⟩:=h.ord
 have hid:IdG g x:=(h.led x (by simp)).resolve_left fun e=>hx (.inl e)
 have h0:=id_pos hm hid
 have hn:¬ (x<0∨x∈l):=by rintro (e | e);omega;exact hx (.inr e)
 have nd:(l++[x]).Nodup:=by
  rw[List.nodup_append]
  refine⟨h.nd,by simp,fun a ha b hb e=>?_⟩
  simp at hb
  subst hb
  subst e
  exact hx (.inr ha)
 have ids:∀ y∈l++[x],IdG g y:=fun y hy=>by
  rcases List.mem_append.1 hy with e | e
  ·exact h.ids y e
  ·simp at e;subst e;exact hid
 have h8:=ids_few hm _ nd ids
 rw[List.length_append,List.length_singleton] at h8
 obtain⟨o,ho,rfl⟩:=hid
 obtain⟨k,rfl⟩:∃ k,n=k+1:=⟨n - 1,by omega⟩
 rw[q_take k hn] at h2
 refine⟨⟨o,ho,rfl⟩,by omega,nd,ids,fun y hy=>?_,k,by simp;omega,h2⟩
 rcases List.mem_append.1 hy with e | e
 ·exact h.led y (List.mem_cons_of_mem _ e)
 ·rw[obj_of hm ho] at e
  exact refs_led hm ho y e
theorem Meets.done {g:Gr} {l:List Int} (h:Meets g l []):ordG g=l:=by
 obtain⟨n,_,h2⟩:=h.ord
 rw[h2]
 exact q_end g n l
theorem atL_more {l:List Int} {x y:Int} (h:y∈l∨y≠x):atL (l++[x]) y=atL l y:=by
 by_cases hy:y∈l
 ·obtain⟨i,h1,h2⟩:=atL_mem hy
  obtain⟨_,h4⟩:=(idxP_iff _ l i).1 h1
  rw[h1]
  refine (idxP_iff _ _ i).2 ⟨⟨y,?_,by simp⟩,fun j b hj hb=>h4 j b hj ?_⟩
  ·rw[List.getElem?_append_left (List.getElem?_eq_some_iff.1 h2).1];exact h2
  ·have:=(List.getElem?_eq_some_iff.1 h2).1
   rw[List.getElem?_append_left (by omega)] at hb
   exact hb
 ·have hne:=h.resolve_left hy
  rw[atL_none.2 hy,atL_none.2 (by simp[hy,hne])]
theorem atL_last {l:List Int} {x:Int} (h:x ∉ l):atL (l++[x]) x=(l.length:Int):=by
 refine (idxP_iff _ _ _).2 ⟨⟨x,by simp,by simp⟩,fun j b hj hb=>?_⟩
 rw[List.getElem?_append_left hj] at hb
 refine zK fun e=>h ?_
 rw[← e]
 exact List.mem_of_getElem? hb
end Go.Proofs.YtnljjnkindjeoaaGreatDoor
