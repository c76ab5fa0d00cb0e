/- The texts VaPlain, VaZigPlain, VlPlain, ScParse, CrPlain, FrPlain, FrCatPlain, FlPlain, FlCutPlain, CoPlain, CoMore, CoActs, CoProg in one (as far as the seat has what they speak of); what each proves, and its conditions, stands before it. -/
import Derived.Test.YtnljjnkindjeoaaGreatDoorGPlain
import Derived.Test.YtnljjnkindjeoaaGreatDoorGGen
import Derived.Test.YtnljjnkindjeoaaGreatDoorAl
namespace Go.Proofs.YtnljjnkindjeoaaGreatDoor
def vputL (n:Nat):List Nat:=if n<128 then [n] else (n % 128+128) :: vputL (n / 128)
termination_by n
decreasing_by omega
theorem putL_small {n:Nat} (h:n<128):vputL n=[n]:=by rw[vputL,if_pos h]
theorem putL_big {n:Nat} (h:¬ n<128):vputL n=(n % 128+128) :: vputL (n / 128):=by rw[vputL,if_neg h]
theorem putL_pos (n:Nat):0<(vputL n).length:=by
 by_cases h:n<128
 ·rw[putL_small h];simp
 ·rw[putL_big h];simp
theorem vputL_byte (n:Nat):∀ x∈vputL n,x<256:=by
 induction n using Nat.strongRecOn with
 | _ n ih=>
  by_cases h:n<128
  ·rw[putL_small h];simp;omega
  ·rw[putL_big h];simp only[List.mem_cons];rintro x (rfl | hx)
   ·omega
   ·exact ih _ (by omega) x hx
theorem putL_len (k:Nat):∀ n:Nat,n<128 ^ (k+1)→(vputL n).length≤k+1:=by
 induction k with
 | zero=>intro n h;rw[putL_small (by simpa using h)];simp
 | succ k ih=>
  intro n h
  by_cases hs:n<128
  ·rw[putL_small hs];simp
  ·rw[putL_big hs];simp only[List.length_cons]
   have:n / 128<128 ^ (k+1):=by
    rw[Nat.div_lt_iff_lt_mul (by omega)];rw[Nat.pow_succ] at h;exact h
   have:=ih _ this
   omega
theorem putL_len10 (n:Nat) (h:n<18446744073709551616):(vputL n).length≤10:=putL_len 9 n (by omega)
def getGo (i acc:Nat):List Nat→Nat × Nat
 | []=>(0,0)
 | d :: r=>
  if i=9∧1<d then (0,0)
  else if 128≤d then getGo (i+1) (acc+d % 128 * 128 ^ i) r
  else if d=0∧0<i then (0,0)
  else (acc+d % 128 * 128 ^ i,i+1)
def zigV (n:Int):Int:=if 0≤n then 2 * n else 2 * -(n+1)+1
theorem zig_range (n:Int) (h0:-9223372036854775808≤n) (h1:n≤9223372036854775807):0≤zigV n∧zigV n≤18446744073709551615:=by
 unfold zigV;split <;> omega
def putV (k:Int) (v:Vl):List Nat:=
 if k=4 then vputL v.2.1.length++v.2.1 else if k=5 then vputL (v.2.2+1).toNat else vputL (zigV v.1).toNat
def putVF (k:Int) (v:Vl):List Nat:=if fitsV k v=true then putV k v else []
theorem vl_put_4 (v:Vl):putV 4 v=vputL v.2.1.length++v.2.1:=rfl
theorem vl_put_5 (v:Vl):putV 5 v=vputL (v.2.2+1).toNat:=rfl
theorem vl_put_num {k:Int} {v:Vl} (h4:k≠4) (h5:k≠5):putV k v=vputL (zigV v.1).toNat:=by rw[putV,if_neg h4,if_neg h5]
theorem putVF_yes {k:Int} {v:Vl} (h:fitsV k v=true):putVF k v=putV k v:=if_pos h
theorem putVF_no {k:Int} {v:Vl} (h:fitsV k v=false):putVF k v=[]:=if_neg (by rw[h];decide)
theorem vl_zig_nat {n:Int} (h0:-9223372036854775808≤n) (h1:n≤9223372036854775807):∃ u:Nat,zigV n=(u:Int)∧u<18446744073709551616:=by
 have:=zig_range n h0 h1
 exact⟨(zigV n).toNat,by omega,by omega⟩
theorem putV_len {k:Int} {v:Vl} (hv:OkV v) (h:fitsV k v=true):(putV k v).length≤13:=by
 by_cases h4:k=4
 ·subst h4
  rw[vl_fits_4] at h
  have h:=(of_decide_eq_true h).1
  rw[vl_put_4,putL_small (by omega)];simp only[List.length_append,List.length_cons,List.length_nil];omega
 ·by_cases h5:k=5
  ·subst h5
   rw[vl_fits_5] at h
   have h:=of_decide_eq_true h
   have:=putL_len10 (v.2.2+1).toNat (by omega)
   rw[vl_put_5];omega
  ·obtain⟨u,hu,hlt⟩:=vl_zig_nat hv.1.1 hv.1.2
   rw[vl_put_num h4 h5,hu]
   have:=putL_len10 u hlt
   rw[Int.toNat_natCast];omega
theorem putVF_len {k:Int} {v:Vl} (hv:OkV v):(putVF k v).length≤13:=by
 cases h:fitsV k v
 ·rw[putVF_no h];simp
 ·rw[putVF_yes h];exact putV_len hv h
theorem putV_byte {k:Int} {v:Vl} (hv:OkV v):∀ x∈putV k v,x<256:=by
 intro x hx
 by_cases h4:k=4
 ·subst h4
  rw[vl_put_4,List.mem_append] at hx
  exact hx.elim (vputL_byte _ x) (hv.2 x)
 ·by_cases h5:k=5
  ·subst h5;exact vputL_byte _ x hx
  ·rw[vl_put_num h4 h5] at hx;exact vputL_byte _ x hx
theorem putVF_byte {k:Int} {v:Vl} (hv:OkV v):∀ x∈putVF k v,x<256:=by
 intro x hx
 cases h:fitsV k v
 ·rw[putVF_no h] at hx;cases hx
 ·rw[putVF_yes h] at hx;exact putV_byte hv x hx
def hv (n:Nat):Nat:=if n % 2=0 then n / 2 else n / 2 ^^^ 3988292384
def hvN:Nat→Nat→Nat
 | 0,n=>n
 | k+1,n=>hvN k (hv n)
def stp (n d:Nat):Nat:=hvN 8 (n ^^^ d)
def fol (n:Nat) (bs:List Nat):Nat:=bs.foldl stp n
def flip32 (n:Nat):Nat:=n ^^^ 4294967295
def withL (s:Nat) (bs:List Nat):Nat:=flip32 (fol (flip32 s) bs)
def sumL (bs:List Nat):Nat:=withL 0 bs
def le4 (n:Nat):List Nat:=[n % 256,n / 256 % 256,n / 65536 % 256,n / 16777216 % 256]
def sealL (bs:List Nat):List Nat:=bs++le4 (sumL bs)
def val:List Nat→Nat
 | []=>0
 | d :: r=>d+256 * val r
theorem xor4 (a b c d:Nat):a ^^^ b ^^^ (c ^^^ d)=a ^^^ c ^^^ (b ^^^ d):=by
 rw[Nat.xor_assoc,Nat.xor_assoc,← Nat.xor_assoc b,← Nat.xor_assoc c,Nat.xor_comm b c]
theorem xor_lt32 {a b:Nat} (ha:a<4294967296) (hb:b<4294967296):a ^^^ b<4294967296:=
 Nat.xor_lt_two_pow (n:=32) ha hb
theorem xor_lt8 {a b:Nat} (ha:a<256) (hb:b<256):a ^^^ b<256:=
 Nat.xor_lt_two_pow (n:=8) ha hb
theorem add_eq_xor {a b k:Nat} (ha:a<2 ^ k):a+2 ^ k * b=a ^^^ 2 ^ k * b:=by
 apply Nat.eq_of_testBit_eq
 intro i
 rw[Nat.testBit_xor,Nat.add_comm,Nat.testBit_two_pow_mul_add _ ha,Nat.testBit_two_pow_mul]
 by_cases h:i<k
 ·simp[h,Nat.not_le.2 h]
 ·have:a.testBit i=false:=Nat.testBit_lt_two_pow (Nat.lt_of_lt_of_le ha (Nat.pow_le_pow_right (by omega) (by omega)))
  simp[h,this,Nat.not_lt.1 h]
theorem xor_mod2 (a b:Nat):(a ^^^ b) % 2=(a+b) % 2:=by
 have h:=Nat.xor_mod_two_pow (a:=a) (b:=b) (n:=1)
 rw[show (2:Nat) ^ 1=2 from rfl] at h
 rw[h]
 rcases Nat.mod_two_eq_zero_or_one a with ha | ha <;> rcases Nat.mod_two_eq_zero_or_one b with hb | hb <;> rw[ha,hb] <;> simp <;> omega
theorem hv_xor (a b:Nat):hv (a ^^^ b)=hv a ^^^ hv b:=by
 have h1:(a ^^^ b) / 2=a / 2 ^^^ b / 2:=Nat.xor_div_two
 have h2:(a ^^^ b) % 2=(a+b) % 2:=xor_mod2 _ _
 unfold hv
 rw[h1,h2]
 by_cases ha:a % 2=0 <;> by_cases hb:b % 2=0
 ·rw[if_pos (by omega),if_pos ha,if_pos hb]
 ·rw[if_neg (by omega),if_pos ha,if_neg hb,Nat.xor_assoc]
 ·rw[if_neg (by omega),if_neg ha,if_pos hb,Nat.xor_assoc,Nat.xor_assoc,Nat.xor_comm (b / 2)]
 ·rw[if_pos (by omega),if_neg ha,if_neg hb,xor4,Nat.xor_self,Nat.xor_zero]
theorem hv_even (m:Nat):hv (2 * m)=m:=by
 unfold hv;rw[if_pos (by omega)];omega
theorem hv_lt {n:Nat} (h:n<4294967296):hv n<4294967296:=by
 unfold hv;split
 ·omega
 ·exact xor_lt32 (by omega) (by omega)
theorem hvN_xor:∀ (k a b:Nat),hvN k (a ^^^ b)=hvN k a ^^^ hvN k b
 | 0,_,_=>rfl
 | k+1,a,b=>by rw[hvN,hvN,hvN,hv_xor,hvN_xor k]
theorem hvN_lt:∀ (k:Nat) {n:Nat},n<4294967296→hvN k n<4294967296
 | 0,_,h=>h
 | k+1,_,h=>hvN_lt k (hv_lt h)
theorem hvN_pow:∀ (k m:Nat),hvN k (2 ^ k * m)=m
 | 0,m=>by simp[hvN]
 | k+1,m=>by rw[hvN,Nat.pow_succ,Nat.mul_comm (2 ^ k) 2,Nat.mul_assoc,hv_even,hvN_pow k]
theorem hvN_add:∀ (j k n:Nat),hvN (j+k) n=hvN k (hvN j n)
 | 0,k,n=>by rw[Nat.zero_add];rfl
 | j+1,k,n=>by rw[Nat.add_right_comm,hvN,hvN,hvN_add j k]
theorem stp_table (n d:Nat):stp n d=n / 256 ^^^ hvN 8 (n % 256 ^^^ d):=by
 have e:n=n % 256 ^^^ 256 * (n / 256):=by
  have h:=add_eq_xor (a:=n % 256) (b:=n / 256) (k:=8) (Nat.mod_lt _ (by decide))
  rw[show (2:Nat) ^ 8=256 from rfl] at h
  rw[← h];omega
 unfold stp
 conv=>lhs;rw[e]
 rw[Nat.xor_comm (n % 256),Nat.xor_assoc,hvN_xor,show (256:Nat)=2 ^ 8 from rfl,hvN_pow]
theorem stp_lt {n d:Nat} (hn:n<4294967296) (hd:d<256):stp n d<4294967296:=hvN_lt 8 (xor_lt32 hn (by omega))
theorem fol_lt:∀ (bs:List Nat) {n:Nat},n<4294967296→(∀ x∈bs,x<256)→fol n bs<4294967296
 | [],_,h,_=>h
 | d :: r,_,h,hb=>fol_lt r (stp_lt h (hb d (by simp))) (fun x hx=>hb x (by simp[hx]))
theorem flip_lt {n:Nat} (h:n<4294967296):flip32 n<4294967296:=xor_lt32 h (by omega)
theorem flip_flip (n:Nat):flip32 (flip32 n)=n:=by unfold flip32;rw[Nat.xor_assoc,Nat.xor_self,Nat.xor_zero]
theorem withL_lt {s:Nat} {bs:List Nat} (h:s<4294967296) (hb:∀ x∈bs,x<256):withL s bs<4294967296:=flip_lt (fol_lt bs (flip_lt h) hb)
theorem sumL_lt {bs:List Nat} (hb:∀ x∈bs,x<256):sumL bs<4294967296:=withL_lt (by omega) hb
theorem withL_nil (s:Nat):withL s []=s:=flip_flip s
def xor3:List Nat→List Nat→List Nat→List Nat
 | a :: p,b :: q,c :: r=>(a ^^^ b ^^^ c) :: xor3 p q r
 | _,_,_=>[]
theorem le4_byte (n:Nat):∀ x∈le4 n,x<256:=by
 intro x hx
 simp only[le4,List.mem_cons,List.not_mem_nil,or_false] at hx
 omega
theorem le4_length (n:Nat):(le4 n).length=4:=rfl
theorem sealL_length (bs:List Nat):(sealL bs).length=bs.length+4:=by simp[sealL,le4_length]
theorem turn_hv (n b:Nat) (hb:b<2):(if n % 2≠b then n / 2 ^^^ 3988292384 else n / 2)=hv (n ^^^ b):=by
 have h1:(n ^^^ b) / 2=n / 2 ^^^ b / 2:=Nat.xor_div_two
 have h2:(n ^^^ b) % 2=(n+b) % 2:=xor_mod2 _ _
 unfold hv
 rw[h1,h2,show b / 2=0 by omega,Nat.xor_zero]
 by_cases h:n % 2=b
 ·rw[if_neg (by omega),if_pos (by omega)]
 ·rw[if_pos h,if_neg (by omega)]
theorem turn_next (n c k:Nat):hvN (k+1) (n ^^^ c)=hvN k (hv (n ^^^ c % 2) ^^^ c / 2):=by
 have e:c=c % 2 ^^^ 2 * (c / 2):=by
  have h:=add_eq_xor (a:=c % 2) (b:=c / 2) (k:=1) (Nat.mod_lt _ (by decide))
  rw[show (2:Nat) ^ 1=2 from rfl] at h
  rw[← h];omega
 rw[hvN]
 congr 1
 conv=>lhs;rw[e]
 rw[← Nat.xor_assoc,hv_xor,hv_even]
theorem tab_add (k low:Nat) (h:low % 2 ^ (k+1)=0):hvN 8 (low+2 ^ k)=hvN 8 low ^^^ hvN 8 (2 ^ k):=by
 obtain⟨m,rfl⟩:∃ m,low=2 ^ (k+1) * m:=⟨low / 2 ^ (k+1),by have:=Nat.div_add_mod low (2 ^ (k+1));omega⟩
 rw[Nat.add_comm,add_eq_xor (Nat.pow_lt_pow_right (by omega) (by omega)),Nat.xor_comm,hvN_xor]
abbrev Fra:=Int × List Nat
def putL (k:Nat) (b:List Nat):List Nat:=sealL [k,b.length]++sealL b
theorem putL_length (k:Nat) (b:List Nat):(putL k b).length=b.length+10:=by simp only[putL,List.length_append,sealL_length,List.length_cons,List.length_nil];omega
theorem head_length (k n:Nat):(sealL [k,n]).length=6:=by rw[sealL_length];rfl
def catL:List Fra→List Nat
 | []=>[]
 | f :: l=>putL f.1.toNat f.2++catL l
def Fit (f:Fra):Prop:=0≤f.1∧f.1≤255∧f.2.length≤255∧∀ x∈f.2,x<256
theorem catL_append:∀ (a b:List Fra),catL (a++b)=catL a++catL b
 | [],_=>rfl
 | f :: a,b=>by simp only[List.cons_append,catL];rw[catL_append a b,List.append_assoc]
theorem catL_len:∀ (l:List Fra),(∀ f∈l,Fit f)→(catL l).length≤265 * l.length
 | [],_=>by simp[catL]
 | f :: l,h=>by
  have h1:=(h f (by simp)).2.2.1
  have h2:=catL_len l fun g hg=>h g (by simp[hg])
  simp only[catL,List.length_append,putL_length,List.length_cons]
  omega
abbrev Flo:=Int × List (List Nat)
def mayB (f:Flo):Bool:=decide (f.2.length≤40) && f.2.all fun p=>decide (p.length≤200)
def headL (base n:Nat):List Nat:=vputL 1++vputL base++vputL n
def partsF:Nat→List (List Nat)→List Fra
 | _,[]=>[]
 | k,p :: r=>(2,vputL k++p) :: partsF (k+1) r
def framesF (f:Flo):List Fra:=(1,headL f.1.toNat f.2.length) :: (partsF 0 f.2++[(3,vputL f.2.length)])
def flowB (f:Flo):List Nat:=catL (framesF f)
structure OkF (f:Flo):Prop where
 low:0≤f.1
 high:f.1≤4294967295
 may:mayB f=true
 byte:∀ p∈f.2,∀ x∈p,x<256
theorem OkF.few {f:Flo} (h:OkF f):f.2.length≤40:=by have:=h.may;simp[mayB] at this;exact this.1
theorem OkF.short {f:Flo} (h:OkF f):∀ p∈f.2,p.length≤200:=by have:=h.may;simp[mayB] at this;exact this.2
theorem OkF.base {f:Flo} (h:OkF f):f.1.toNat<4294967296∧((f.1.toNat:Nat):Int)=f.1:=by have:=h.low;have:=h.high;omega
def catV:List Nat→List Nat
 | []=>[]
 | n :: l=>vputL n++catV l
theorem vputL_len5 {n:Nat} (h:n<4294967296):(vputL n).length≤5:=putL_len 4 n (by omega)
theorem headL_byte (base n:Nat):∀ x∈headL base n,x<256:=by
 intro x hx
 rcases List.mem_append.1 hx with h | h
 ·rcases List.mem_append.1 h with h | h
  ·exact vputL_byte _ x h
  ·exact vputL_byte _ x h
 ·exact vputL_byte _ x h
theorem headL_len {base n:Nat} (hb:base<4294967296) (hn:n≤40):(headL base n).length≤7:=by
 have h1:=vputL_len5 hb
 rw[headL,List.length_append,List.length_append,putL_small (show 1<128 by omega),putL_small (show n<128 by omega)]
 simp
 omega
theorem partsF_length:∀ (k:Nat) (ps:List (List Nat)),(partsF k ps).length=ps.length
 | _,[]=>rfl
 | k,p :: r=>by simp[partsF,partsF_length (k+1) r]
theorem partsF_append:∀ (k:Nat) (ps qs:List (List Nat)),partsF k (ps++qs)=partsF k ps++partsF (k+ps.length) qs
 | k,[],qs=>by simp[partsF]
 | k,p :: r,qs=>by
  simp only[List.cons_append,partsF,List.length_cons]
  rw[partsF_append (k+1) r qs,show k+1+r.length=k+(r.length+1) by omega]
theorem partsF_get:∀ (k:Nat) (ps:List (List Nat)) (j:Nat),(partsF k ps)[j]?=ps[j]?.map fun p=>((2:Int),vputL (k+j)++p)
 | _,[],j=>by simp[partsF]
 | k,p :: r,0=>by simp[partsF]
 | k,p :: r,j+1=>by
  simp only[partsF,List.getElem?_cons_succ]
  rw[partsF_get (k+1) r j,show k+1+j=k+(j+1) by omega]
theorem framesF_length (f:Flo):(framesF f).length=f.2.length+2:=by simp[framesF,partsF_length]
theorem framesF_fit {f:Flo} (h:OkF f):∀ x∈framesF f,Fit x:=by
 have hfew:=h.few
 intro x hx
 rcases List.mem_cons.1 hx with rfl | hx
 ·refine⟨by simp,by simp,?_,headL_byte _ _⟩
  have:=headL_len (base:=f.1.toNat) (n:=f.2.length) h.base.1 hfew
  simp only;omega
 ·rcases List.mem_append.1 hx with hx | hx
  ·obtain⟨j,hj⟩:=List.getElem?_of_mem hx
   rw[partsF_get] at hj
   cases hp:f.2[j]? with
   | none=>rw[hp] at hj;cases hj
   | some p=>
    rw[hp] at hj
    simp at hj
    subst hj
    obtain⟨hlt,hpe⟩:=List.getElem?_eq_some_iff.1 hp
    have hm:p∈f.2:=by rw[← hpe];exact List.getElem_mem hlt
    have h1:=h.short p hm
    have h2:=vputL_len5 (n:=j) (by omega)
    refine⟨by simp,by simp,by simp only[List.length_append];omega,fun y hy=>?_⟩
    rcases List.mem_append.1 hy with hy | hy
    ·exact vputL_byte _ y hy
    ·exact h.byte p hm y hy
  ·simp at hx
   subst hx
   have h2:=vputL_len5 (n:=f.2.length) (by omega)
   exact⟨by simp,by simp,by simp only;omega,vputL_byte _⟩
structure RSt where
 base:Nat
 parts:List (List Nat)
 count:Nat
 due:Int
theorem flowB_len {f:Flo} (h:OkF f):(flowB f).length≤11130:=by
 have h1:=catL_len _ (framesF_fit h)
 have h2:=h.few
 rw[framesF_length] at h1
 rw[flowB]
 omega
def rootsB (l:List Int):List Nat:=catV (l.map fun r=>(r+1).toNat)
def valsB:List Fld→List Vl→List Nat
 | f :: fs,v :: vs=>putVF f.2.1 v++valsB fs vs
 | _,_=>[]
def objB (s:Sch) (o:Ob):List Nat:=vputL o.2.1.toNat++valsB (fldsG s o.2.1) o.2.2
def partsG (c:Gr):List (List Nat):=sText c.1 :: rootsB c.2.2 :: c.2.1.map (objB c.1)
def codeF (g:Gr):Flo:=(0,partsG (canonG g))
def codeE (g:Gr):Int:=if mayG g=true then (if mayB (codeF g)=true then 0 else 5) else 1
def codeB (g:Gr):List Nat:=if codeE g=0 then flowB (codeF g) else []
def OkG (g:Gr):Prop:=∀ o∈g.2.1,∀ v∈o.2.2,OkV v
theorem vals_byte:∀ {fs:List Fld} {vs:List Vl},(∀ v∈vs,OkV v)→∀ x∈valsB fs vs,x<256
 | [],_,_=>by simp[valsB]
 | _ :: _,[],_=>by simp[valsB]
 | f :: fs,v :: vs,h=>fun x hx=>by
  rw[valsB,List.mem_append] at hx
  rcases hx with hx | hx
  ·exact putVF_byte (h v (by simp)) x hx
  ·exact vals_byte (fun v hv=>h v (by simp[hv])) x hx
theorem catV_byte:∀ (l:List Nat),∀ x∈catV l,x<256
 | []=>by simp[catV]
 | n :: l=>fun x hx=>by
  rw[catV,List.mem_append] at hx
  rcases hx with hx | hx
  ·exact vputL_byte n x hx
  ·exact catV_byte l x hx
theorem root_range {g:Gr} (hm:mayG g=true):∀ r∈g.2.2,-1≤r∧r≤1073741824:=fun r hr=>by
 rcases roots_led hm r hr with rfl | ⟨o,ho,rfl⟩
 ·omega
 ·have:=mayG_obj hm ho
  have:=this.id0
  have:=(mayG_obj hm ho).id1
  omega
theorem lead_ok {f:Int→Int}:∀ {fs:List Fld} {vs:List Vl},(∀ v∈vs,OkV v)→∀ v∈leadV f fs vs,OkV v
 | _ :: fs,v :: vs,h=>fun u hu=>by
  rw[leadV,List.mem_cons] at hu
  rcases hu with rfl | hu
  ·have:=h v (by simp)
   split
   ·exact this
   ·exact this
  ·exact lead_ok (fun v hv=>h v (by simp[hv])) u hu
 | [],vs,h=>by rw[leadV];exact h
 | _ :: _,[],_=>by simp[leadV]
theorem canon_ok {g:Gr} (hok:OkG g):OkG (canonG g):=by
 by_cases hm:mayG g=true
 ·intro o ho
  obtain⟨j,hj⟩:=List.getElem?_of_mem ho
  have hl:j<(ordG g).length:=by rw[← canon_len hm];exact (List.getElem?_eq_some_iff.1 hj).1
  obtain⟨x,hx⟩:∃ x,(ordG g)[j]?=some x:=⟨_,zV hl⟩
  rw[canon_at hm hx] at hj
  injection hj with hj
  subst hj
  obtain⟨p,hp,-,he⟩:=ord_obj hm (List.mem_of_getElem? hx)
  rw[canO,he]
  exact lead_ok (hok p hp)
 ·rw[canonG,if_neg hm]
  intro o ho
  cases ho
theorem encS_byte {c:Nat} (h:c<2048):∀ x∈encS c,x<256:=fun x hx=>by
 rw[encS] at hx
 split at hx
 ·simp at hx;omega
 ·simp at hx;omega
theorem encL_byte:∀ {l:List Nat},(∀ c∈l,c<2048)→∀ x∈encL l,x<256
 | [],_=>by simp[encL]
 | c :: l,h=>fun x hx=>by
  rw[encL,List.mem_append] at hx
  rcases hx with hx | hx
  ·exact encS_byte (h c (by simp)) x hx
  ·exact encL_byte (fun c hc=>h c (by simp[hc])) x hx
theorem name_byte {a:List Nat} (h:mayN a=true):∀ x∈a,x<256:=by
 rw[← may_enc h]
 exact encL_byte (may_lt h)
theorem kindT_byte (k:Int):∀ x∈kindT k,x<256:=fun x hx=>by
 rw[kindT] at hx
 repeat' split at hx
 all_goals (simp at hx;omega)
theorem fsText_byte:∀ {fs:List Fld},(∀ f∈fs,(∀ x∈f.1,x<256)∧∀ x∈f.2.2,x<256)→∀ x∈fsText fs,x<256
 | [],_=>by simp[fsText]
 | [f],h=>fun x hx=>by
  obtain⟨h1,h2⟩:=h f (by simp)
  simp only[fsText,fText,List.mem_append,List.mem_cons] at hx
  rcases hx with hx | rfl | hx | hx
  ·exact h1 x hx
  ·omega
  ·exact kindT_byte _ x hx
  ·exact h2 x hx
 | f :: f' :: fs,h=>fun x hx=>by
  obtain⟨h1,h2⟩:=h f (by simp)
  rw[fsText] at hx
  simp only[fText,List.mem_append,List.mem_cons] at hx
  rcases hx with (hx | rfl | hx | hx) | rfl | hx
  ·exact h1 x hx
  ·omega
  ·exact kindT_byte _ x hx
  ·exact h2 x hx
  ·omega
  ·exact fsText_byte (fun f hf=>h f (by simp[hf])) x hx
theorem sText_byteL:∀ {s:Sch},(∀ t∈s,(∀ x∈t.1,x<256)∧∀ f∈t.2,(∀ x∈f.1,x<256)∧∀ x∈f.2.2,x<256)→∀ x∈sText s,x<256
 | [],_=>by simp[sText]
 | t :: s,h=>fun x hx=>by
  obtain⟨h1,h2⟩:=h t (by simp)
  simp only[sText,tText,List.mem_append,List.mem_cons,List.not_mem_nil,or_false] at hx
  rcases hx with (hx | rfl | hx | rfl) | hx
  ·exact h1 x hx
  ·omega
  ·exact fsText_byte h2 x hx
  ·omega
  ·exact sText_byteL (fun t ht=>h t (by simp[ht])) x hx
theorem sText_byte {s:Sch} (hm:mayS s=true):∀ x∈sText s,x<256:=by
 obtain⟨_,h2⟩:=(mayS_iff s).1 hm
 have hn:∀ t∈s,mayN t.1=true:=fun t ht=>by
  obtain⟨i,hi⟩:=List.getElem?_of_mem ht
  exact ((mayT_iff s i t).1 (h2 i t hi)).1
 refine sText_byteL fun t ht=>⟨name_byte (hn t ht),fun f hf=>?_⟩
 obtain⟨i,hi⟩:=List.getElem?_of_mem ht
 obtain⟨_,_,_,h4⟩:=(mayT_iff s i t).1 (h2 i t hi)
 obtain⟨j,hj⟩:=List.getElem?_of_mem hf
 obtain⟨h5,_,h6⟩:=(mayF_iff s t.2 j f).1 (h4 j f hj)
 refine⟨name_byte h5,?_⟩
 rw[leadS] at h6
 by_cases hk:f.2.1=5
 ·rw[if_pos hk,decide_eq_true_iff] at h6
  obtain⟨t',ht',hn'⟩:=findS_some h6
  rw[← hn']
  exact name_byte (hn t' ht')
 ·rw[((mayS_good hm) t ht).2 f hf |>.2.2.2 hk]
  simp
theorem parts_byte {c:Gr} (hm:mayG c=true) (hok:OkG c):∀ p∈partsG c,∀ x∈p,x<256:=fun p hp=>by
 rw[partsG,List.mem_cons,List.mem_cons] at hp
 rcases hp with rfl | rfl | hp
 ·exact sText_byte (mayG_parts hm).1
 ·exact catV_byte _
 ·obtain⟨o,ho,rfl⟩:=List.mem_map.1 hp
  intro x hx
  rw[objB,List.mem_append] at hx
  rcases hx with hx | hx
  ·exact vputL_byte _ x hx
  ·exact vals_byte (hok o ho) x hx
theorem vals_len:∀ {fs:List Fld} {vs:List Vl},(∀ v∈vs,OkV v)→(valsB fs vs).length≤13 * fs.length
 | [],_,_=>by simp[valsB]
 | _ :: _,[],_=>by simp[valsB]
 | f :: fs,v :: vs,h=>by
  have h1:=putVF_len (k:=f.2.1) (h v (by simp))
  have h2:=vals_len (fs:=fs) (vs:=vs) (fun v hv=>h v (by simp[hv]))
  rw[valsB,List.length_append,List.length_cons]
  omega
theorem catV_len5:∀ {l:List Nat},(∀ n∈l,n<4294967296)→(catV l).length≤5 * l.length
 | [],_=>by simp[catV]
 | n :: l,h=>by
  have h1:=vputL_len5 (h n (by simp))
  have h2:=catV_len5 (l:=l) (fun n hn=>h n (by simp[hn]))
  rw[catV,List.length_append,List.length_cons]
  omega
theorem fldsG_few {s:Sch} (hm:mayS s=true) (t:Int):(fldsG s t).length≤5:=by
 rw[fldsG,List.getD_eq_getElem?_getD]
 cases h:s[t.toNat]? with
 | none=>simp
 | some x=>exact ((mayT_iff _ _ _).1 (((mayS_iff _).1 hm).2 _ x h)).2.2.1
theorem obj_len {g:Gr} (hm:mayG g=true) (hok:OkG g) {o:Ob} (ho:o∈g.2.1):(objB g.1 o).length≤66:=by
 have hmo:=mayG_obj hm ho
 have hS:=((mayS_iff g.1).1 (mayG_parts hm).1).1
 have h1:=vals_len (fs:=fldsG g.1 o.2.1) (hok o ho)
 have h2:=fldsG_few (mayG_parts hm).1 o.2.1
 rw[objB,List.length_append,putL_small (by have:=hmo.t1;omega),List.length_singleton]
 omega
theorem roots_len {g:Gr} (hm:mayG g=true):(rootsB g.2.2).length≤15:=by
 have h3:=(mayG_parts hm).2.2.2.1
 have:=catV_len5 (l:=g.2.2.map fun r=>(r+1).toNat) (fun n hn=>by
  obtain⟨r,hr,rfl⟩:=List.mem_map.1 hn
  have:=root_range hm r hr
  omega)
 rw[List.length_map] at this
 rw[rootsB]
 omega
theorem canon_sch {g:Gr} (hm:mayG g=true):(canonG g).1=g.1:=by rw[canonG,if_pos hm]
theorem code_lim {g:Gr} (hm:mayG g=true) (hok:OkG g):mayB (codeF g)=decide ((sText g.1).length≤200):=by
 have hc:=canon_may hm
 have hco:=canon_ok hok
 have e1:(codeF g).2=partsG (canonG g):=rfl
 have h8:=(mayG_parts hc).2.1
 rw[mayB,e1,partsG,canon_sch hm]
 simp only[List.length_cons,List.length_map,List.all_cons]
 have h40:decide ((canonG g).2.1.length+1+1≤40)=true:=zJ (by omega)
 have hr:decide ((rootsB (canonG g).2.2).length≤200)=true:=zJ (by have:=roots_len hc;omega)
 have ho:(((canonG g).2.1.map (objB g.1)).all fun p=>decide (p.length≤200))=true:=by
  rw[List.all_eq_true]
  intro p hp
  obtain⟨o,ho,rfl⟩:=List.mem_map.1 hp
  have:=obj_len hc hco ho
  rw[canon_sch hm] at this
  exact zJ (by omega)
 rw[h40,hr,ho]
 simp
theorem codeE_lim {g:Gr} (hm:mayG g=true) (hok:OkG g):codeE g=if (sText g.1).length≤200 then 0 else 5:=by
 rw[codeE,if_pos hm,code_lim hm hok]
 by_cases h:(sText g.1).length≤200
 ·rw[if_pos h,zJ h,if_pos rfl]
 ·rw[if_neg h,zK h,if_neg (by decide)]
theorem codeE_may {g:Gr} (h:codeE g=0):mayG g=true:=by
 rw[codeE] at h
 split at h
 ·assumption
 ·cases h
theorem codeE_arg {g:Gr}:codeE g=1↔mayG g=false:=by
 rw[codeE]
 split
 ·rename_i h
  rw[h]
  split <;> simp
 ·rename_i h
  simp at h
  simp[h]
theorem code_okF {g:Gr} (hok:OkG g) (h:codeE g=0):OkF (codeF g):=by
 have hm:=codeE_may h
 rw[codeE,if_pos hm] at h
 refine⟨Int.le_refl _,by show (0:Int)≤_;omega,?_,parts_byte (canon_may hm) (canon_ok hok)⟩
 split at h
 ·assumption
 ·cases h
end Go.Proofs.YtnljjnkindjeoaaGreatDoor
namespace Go.Proofs.YtnljjnkindjeoaaGreatDoor
open Go.RowKit
end Go.Proofs.YtnljjnkindjeoaaGreatDoor
