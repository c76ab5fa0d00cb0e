/- The texts ScMemAll, RetsAll, ForkLAll, IntsAll, Cut in one (as far as the seat has what they speak of); what each proves, and its conditions, stands before it. -/
import Derived.Test.YtnljjnkindjeoaaGreatDoorRows
import Derived.WalkKit
import Derived.WalkSpells
import Derived.WalkLawsBesides
import Derived.IntWalk
import Derived.Below
import Derived.Lib.Hide
import Derived.Laws.OwnMore
import Derived.Deep.AppendLies
import Derived.Deep.Draws
import Derived.OpenShut
import Derived.ChangeArms
import Derived.ChangeOld
import Derived.Deep.WholeRow
import Derived.Test.YtnljjnkindjeoaaGreatDoorGPlain
import Derived.Laws.ResultCell
import Derived.OrdersHeld
import Derived.Deep.RegionHeld
import Derived.Maps.AppendAt
import Derived.Laws.BytesArg
import Derived.RegionTactic
import Derived.Test.YtnljjnkindjeoaaGreatDoorAl
namespace Go.Proofs.YtnljjnkindjeoaaGreatDoor
open Go.RowKit
def Rd (w:World) (A:Option Addr) (xs:List Value):Prop:=
 xs=[]∨∃ b off,A=some ⟨b,off,none⟩∧b<w.heap.size∧∀ j u,xs[j]?=some u→w.cell? ⟨b,off+j,none⟩=some u
theorem Rd.at {w:World} {A:Option Addr} {xs:List Value} {k:Nat} (h:Rd w A xs) (hk:k<xs.length):
  ∃ b off,A=some ⟨b,off,none⟩∧b<w.heap.size∧∀ j u,xs[j]?=some u→w.cell? ⟨b,off+j,none⟩=some u:=by
 rcases h with rfl | h
 ·simp at hk
 ·exact h
theorem Rd.below {w w':World} {A:Option Addr} {xs:List Value} (h:Rd w A xs) (hb:Below w.heap.size w w'):Rd w' A xs:=by
 rcases h with rfl | ⟨b,off,rfl,hlt,hc⟩
 ·exact .inl rfl
 ·exact .inr ⟨b,off,rfl,Nat.lt_of_lt_of_le hlt hb.size,fun j u hu=>(hb.cell (p:=⟨b,off+j,none⟩) hlt).trans (hc j u hu)⟩
theorem addr_add (b o j:Nat):(⟨b,o,none⟩:Addr).add j=⟨b,o+j,none⟩:=by
 unfold Addr.add
 split <;> simp_all
theorem Rd.own {w:World} {base e n:Nat} {A:Option Addr} {c:Nat} {xs:List Value} (h:w.ownsRow base e 1 (.slice A n c) n xs):Rd w A xs:=by
 rcases Nat.eq_zero_or_pos n with h0 | h0
 ·subst h0
  exact .inl (List.eq_nil_of_length_eq_zero (by simpa using h.1))
 ·obtain⟨g,cap,hv,_,hlt⟩:=h.form h0
  have hA:A=some ⟨g,0,none⟩:=by injection hv
  subst hA
  exact .inr ⟨g,0,rfl,hlt,fun j u hu=>by
   have:=h.cells (g:=g) rfl j u hu
   rw[addr_add] at this
   exact this⟩
def u8s (bs:List Nat):List Value:=bs.map fun x:Nat=>Value.int .u8 (x:Int)
def u64s (ns:List Nat):List Value:=ns.map fun x:Nat=>Value.int .u64 (x:Int)
@[simp] theorem u8s_length (bs:List Nat):(u8s bs).length=bs.length:=by simp[u8s]
@[simp] theorem u64s_length (bs:List Nat):(u64s bs).length=bs.length:=by simp[u64s]
theorem u8s_get {bs:List Nat} {k:Nat} (h:k<bs.length):(u8s bs)[k]?=some (.int .u8 (bs[k]:Int)):=by simp[u8s,h]
theorem u8s_append (a b:List Nat):u8s (a++b)=u8s a++u8s b:=by simp[u8s]
theorem getD_out {l:List Nat} {j:Nat} (h:l.length≤j):l.getD j 0=0:=by simp[List.getD,List.getElem?_eq_none h]
theorem info_u8:(Tryz.prog.info? 5).map (fun i=>(i.zero,i.size,i.bytes))=some (some (.int .u8 0),1,1):=by kernel_rfl
theorem ret_int {k:IntKind} {a b:Int} (h:a=b):Ending.returned (.int k a)=.returned (.int k b):=by rw[h]
theorem u8s_at {w:World} {A:Option Addr} {bs:List Nat} {k:Nat} (h:Rd w A (u8s bs)) (hk:k<bs.length):
  ∃ b off,A=some ⟨b,off,none⟩∧b<w.heap.size∧w.cell? ⟨b,off+k,none⟩=some (.int .u8 ((bs[k]:Nat):Int)):=by
 obtain⟨b,off,rfl,hlt,hc⟩:=h.at (k:=k) (by simpa using hk)
 exact⟨b,off,rfl,hlt,hc k _ (u8s_get hk)⟩
theorem own_open {w:World} {base e n:Nat} {v:Value} {xs:List Value} (h:w.ownsRow base e 1 v n xs) (hn:0<n):
  ∃ g cap,v=.slice (some ⟨g,0,none⟩) n cap∧base≤g∧g<w.heap.size∧n≤cap∧∀ j u,xs[j]?=some u→w.cell? ⟨g,j,none⟩=some u:=by
 obtain⟨g,cap,rfl,hg,hlt⟩:=h.form hn
 refine⟨g,cap,rfl,hg,hlt,?_,fun j u hu=>?_⟩
 ·rcases h.2 with⟨e1,_⟩ | ⟨g',cap',cur,e1,_,_,hnc,_⟩
  ·cases e1
  ·injection e1 with _ _ e3
   subst e3
   exact hnc
 ·have:=h.cells (g:=g) rfl j u hu
  rw[addr_add,Nat.zero_add] at this
  exact this
theorem lit_rd (w:World) (bs:List Nat):Rd (w.alloc (.cells (u8s bs).toArray 5)) (some ⟨w.heap.size,0,none⟩) (u8s bs):=
 .inr ⟨w.heap.size,0,rfl,by simp,fun j u hu=>by
  rw[World.cell?_alloc_at _ _ _ _ rfl,Nat.zero_add]
  simpa using hu⟩
theorem own_slice {w:World} {base e n:Nat} {v:Value} {xs:List Value} (h:w.ownsRow base e 1 v n xs):∃ A c,v=.slice A n c∧n≤c∧Rd w A xs∧(0<n→∃ g,A=some ⟨g,0,none⟩):=by
 rcases h.2 with⟨rfl,h0⟩ | ⟨g,cap,cur,rfl,_,_,hnc,_⟩
 ·subst h0
  exact⟨none,0,rfl,zW _,.inl (List.eq_nil_of_length_eq_zero (by simpa using h.1)),fun h=>by omega⟩
 ·exact⟨_,cap,rfl,hnc,Rd.own h,fun _=>⟨g,rfl⟩⟩
theorem own_mono {w:World} {b b' e s n:Nat} {v:Value} {xs:List Value} (h:w.ownsRow b e s v n xs) (hb:b'≤b):w.ownsRow b' e s v n xs:=
 ⟨h.1,h.2.imp id fun⟨g,cap,cur,e1,hg,r⟩=>⟨g,cap,cur,e1,Nat.le_trans hb hg,r⟩⟩
theorem own_below {w w':World} {base e size n:Nat} {v:Value} {xs:List Value} (h:w.ownsRow base e size v n xs) (hB:Below w.heap.size w w'):w'.ownsRow base e size v n xs:=by
 refine⟨h.1,?_⟩
 rcases h.2 with h | ⟨g,cap,cur,h1,h2,h3,h4⟩
 ·exact .inl h
 ·exact .inr ⟨g,cap,cur,h1,h2,(hB.block g (Array.getElem?_eq_some_iff.1 h3).1).trans h3,h4⟩
end Go.Proofs.YtnljjnkindjeoaaGreatDoor
namespace Go.Proofs.YtnljjnkindjeoaaGreatDoor
open Go.RowKit Go.ChangeShapes
def RdIn (S:Nat→Prop) (w:World) (A:Option Addr) (xs:List Value):Prop:=
 xs=[]∨∃ b off,A=some ⟨b,off,none⟩∧S b∧∀ j u,xs[j]?=some u→w.cell? ⟨b,off+j,none⟩=some u
abbrev Reader (α:Type):=(Nat→Prop)→World→List Value→α→Prop
abbrev All (w:World):Nat→Prop:=fun b=>b<w.heap.size
def Keeps (S S':Nat→Prop) (w w':World):Prop:=∀ b,S b→S' b∧w'.heap[b]?=w.heap[b]?
structure Stays {α:Type} (R:Reader α):Prop where
 to:∀ {S S':Nat→Prop} {w w':World} {cs:List Value} {a:α},Keeps S S' w w'→R S w cs a→R S' w' cs a
theorem Keeps.below {w w':World} (h:Below w.heap.size w w'):Keeps (All w) (All w') w w':=fun b hb=>⟨Nat.lt_of_lt_of_le hb h.size,h.block b hb⟩
theorem Keeps.mono {S S':Nat→Prop} {w:World} (h:∀ b,S b→S' b):Keeps S S' w w:=fun b hb=>⟨h b hb,rfl⟩
theorem RdIn.keeps {S S':Nat→Prop} {w w':World} {A:Option Addr} {xs:List Value} (hk:Keeps S S' w w') (h:RdIn S w A xs):RdIn S' w' A xs:=by
 rcases h with rfl | ⟨b,off,rfl,hb,hc⟩
 ·exact .inl rfl
 ·exact .inr ⟨b,off,rfl,(hk b hb).1,fun j u hu=>(World.cell?_of_block (w:=w) (a:=⟨b,off+j,none⟩) (hk b hb).2).trans (hc j u hu)⟩
theorem RdIn.rd {w:World} {A:Option Addr} {xs:List Value} (h:RdIn (All w) w A xs):Rd w A xs:=h
def rInt (k:IntKind):Reader Int:=fun _ _ cs n=>cs=[.int k n]∧(Lit.int k n).wf=true
def rStr:Reader ByteArray:=fun _ _ cs s=>cs=[.string s]∧s.size≤maxLen
def rBytes:Reader (List Nat):=fun S w cs b=>∃ A c,cs=[.slice A b.length c]∧b.length≤c∧c≤maxLen∧(∀ x∈b,x<256)∧RdIn S w A (u8s b)
def Chunks {α:Type} (size:Nat) (R:List Value→α→Prop) (xs:List Value) (l:List α):Prop:=
 xs.length=l.length * size∧∀ i a,l[i]?=some a→R ((xs.drop (i * size)).take size) a
def rSlice {α:Type} (size:Nat) (R:Reader α):Reader (List α):=fun S w cs l=>
 ∃ A c xs,cs=[.slice A l.length c]∧l.length≤c∧c≤maxLen∧RdIn S w A xs∧Chunks size (R S w) xs l
def rBoth {α β:Type} (size:Nat) (R:Reader α) (T:Reader β):Reader (α × β):=fun S w cs x=>(cs.take size).length=size∧R S w (cs.take size) x.1∧T S w (cs.drop size) x.2
theorem rInt_stays (k:IntKind):Stays (rInt k):=⟨fun _ h=>h⟩
theorem rBytes_stays:Stays rBytes:=⟨fun hk ⟨A,c,h1,h2,h3,h4,h5⟩=>⟨A,c,h1,h2,h3,h4,h5.keeps hk⟩⟩
section
variable {α : Type} {size : Nat} {R R' : List Value → α → Prop} {xs ys : List Value} {l m : List α}
theorem Chunks.imp (h:Chunks size R xs l) (hR:∀ cs a,R cs a→R' cs a):Chunks size R' xs l:=⟨h.1,fun i a ha=>hR _ _ (h.2 i a ha)⟩
theorem Chunks.nil:Chunks size R [] ([]:List α):=⟨by simp,fun i a h=>by simp at h⟩
theorem Chunks.append (h:Chunks size R xs l) (h':Chunks size R ys m):Chunks size R (xs++ys) (l++m):=by
 refine⟨by rw[List.length_append,List.length_append,h.1,h'.1,Nat.add_mul],fun i a ha=>?_⟩
 by_cases hi:i<l.length
 ·rw[List.getElem?_append_left hi] at ha
  have h1:=h.2 i a ha
  have hle:i * size+size≤xs.length:=by rw[h.1,← Nat.succ_mul];exact Nat.mul_le_mul_right _ hi
  rw[List.drop_append_of_le_length (by omega),List.take_append_of_le_length (by rw[List.length_drop];omega)]
  exact h1
 ·rw[List.getElem?_append_right (by omega)] at ha
  have h1:=h'.2 _ a ha
  have e:i * size=xs.length+(i - l.length) * size:=by rw[h.1,← Nat.add_mul];congr 1;omega
  rw[e,← List.drop_drop,List.drop_append_of_le_length (by omega),List.drop_of_length_le (zW _),List.nil_append]
  exact h1
theorem Chunks.one {cs:List Value} {a:α} (hl:cs.length=size) (h:R cs a):Chunks size R cs [a]:=by
 refine⟨by simp[hl],fun i b hb=>?_⟩
 cases i with
 | zero=>simp at hb;subst hb;simpa [← hl] using h
 | succ i=>simp at hb
theorem Chunks.drop (h:Chunks size R xs l) (k:Nat):Chunks size R (xs.drop (k * size)) (l.drop k):=by
 refine⟨by rw[List.length_drop,List.length_drop,h.1,Nat.sub_mul],fun i a ha=>?_⟩
 rw[List.getElem?_drop] at ha
 have:=h.2 _ a ha
 rwa [Nat.add_mul,← List.drop_drop] at this
end
theorem rSlice_stays {α:Type} {size:Nat} {R:Reader α} (hR:Stays R):Stays (rSlice size R):=
 ⟨fun hk ⟨A,c,xs,h1,h2,h3,h4,h5⟩=>⟨A,c,xs,h1,h2,h3,h4.keeps hk,h5.imp fun _ _ h=>hR.to hk h⟩⟩
theorem rBoth_stays {α β:Type} {size:Nat} {R:Reader α} {T:Reader β} (hR:Stays R) (hT:Stays T):Stays (rBoth size R T):=⟨fun hk h=>⟨h.1,hR.to hk h.2.1,hT.to hk h.2.2⟩⟩
structure Opens {α:Type} (P:Program) (t:TypeId) (size:Nat) (R:Reader α):Prop where
 cells:P.cellsOf t=size
 opens:∀ {H:Type} {enc:TypeId × Value→H} {w:World} {base:Nat} {spare:Nat→Bool} {held:Bool} {fuel:Nat} {cs:List Value} {x:DataW H × List MemPlace},
  DataW.trod enc P w base spare held fuel t cs=some x→∃ a,R (All w) w cs a
section
variable {P : Program} {t : TypeId}
theorem Opens.imp {α β:Type} {size:Nat} {R:Reader α} {R':Reader β} (h:Opens P t size R) (hi:∀ S w cs a,R S w cs a→∃ b,R' S w cs b):Opens P t size R':=
 ⟨h.cells,fun ht=>by obtain⟨a,ha⟩:=h.opens ht;exact hi _ _ _ a ha⟩
theorem opens_int {k:IntKind} (ht:P.underlying t=some (.int k)) (hc:P.cellsOf t=1):Opens P t 1 (rInt k):=
 ⟨hc,fun h=>by obtain⟨n,h1,_,h2⟩:=DataW.trod_int ht h;exact⟨n,h1,h2⟩⟩
theorem opens_str (ht:P.underlying t=some .string) (hc:P.cellsOf t=1):Opens P t 1 rStr:=
 ⟨hc,fun h=>by obtain⟨s,h1,_,h2⟩:=DataW.trod_string ht h;exact⟨s,h1,h2⟩⟩
theorem list_of {α:Type} {p:Nat→α→Prop}:∀ (n:Nat),(∀ i,i<n→∃ a,p i a)→∃ l:List α,l.length=n∧∀ i a,l[i]?=some a→p i a
 | 0,_=>⟨[],rfl,fun i a h=>by simp at h⟩
 | n+1,h=>by
  obtain⟨l,hl,hp⟩:=list_of n fun i hi=>h i (by omega)
  obtain⟨a,ha⟩:=h n (by omega)
  refine⟨l++[a],by simp[hl],fun i b hb=>?_⟩
  by_cases hi:i<l.length
  ·rw[List.getElem?_append_left hi] at hb
   exact hp i b hb
  ·have hlt:=(List.getElem?_eq_some_iff.1 hb).1
   have hin:i=n:=by simp at hlt;omega
   subst hin
   rw[List.getElem?_append_right (by omega),hl,Nat.sub_self] at hb
   simp at hb
   exact hb ▸ ha
theorem flat_of {w:World} {b off size:Nat} {α:Type} {R:List Value→α→Prop}:∀ (n:Nat),(∀ i,i<n→∃ a ds,ds.length=size∧(∀ j u,ds[j]?=some u→w.cell? ⟨b,off+i * size+j,none⟩=some u)∧R ds a) →
  ∃ xs l,l.length=n∧(∀ j u,xs[j]?=some u→w.cell? ⟨b,off+j,none⟩=some u)∧Chunks size R xs l
 | 0,_=>⟨[],[],rfl,fun j u h=>by simp at h,Chunks.nil⟩
 | n+1,h=>by
  obtain⟨xs,l,hl,hx,hc⟩:=flat_of n fun i hi=>h i (by omega)
  obtain⟨a,ds,hd,hdc,ha⟩:=h n (by omega)
  refine⟨xs++ds,l++[a],by simp[hl],fun j u hu=>?_,hc.append (Chunks.one hd ha)⟩
  have hxl:xs.length=n * size:=by rw[hc.1,hl]
  by_cases hj:j<xs.length
  ·rw[List.getElem?_append_left hj] at hu
   exact hx j u hu
  ·rw[List.getElem?_append_right (by omega)] at hu
   have:=hdc _ u hu
   rw[show off+n * size+(j - xs.length)=off+j by omega] at this
   exact this
theorem opens_slice {α:Type} {e:TypeId} {size:Nat} {R:Reader α} (ht:P.underlying t=some (.slice e)) (hc:P.cellsOf t=1) (h0:0<size) (hR:Opens P e size R):Opens P t 1 (rSlice size R):=by
 refine⟨hc,fun {H enc w base spare held fuel cs x} h=>?_⟩
 rcases DataW.trod_slice ht h with⟨rfl,_⟩ | ⟨ad,len,cap,elems,rest,n,_,rfl,_,_,hl,hm,hel,he,_⟩
 ·exact⟨[],none,0,[],rfl,zW _,Nat.zero_le _,.inl rfl,Chunks.nil⟩
 ·rw[hR.cells] at he
  have each:∀ i,i<len→∃ (a:α) (ds:List Value),w.cells? base (ad.add (i * size)) size=some ds∧R (All w) w ds a:=fun i hi=>by
   have h1:=he i hi
   rw[zV (by omega),Option.bind_eq_some_iff] at h1
   obtain⟨ds,h2,h3⟩:=h1
   obtain⟨a,ha⟩:=hR.opens h3
   exact⟨a,ds,h2,ha⟩
  by_cases hz:len=0
  ·subst hz
   exact⟨[],some ad,cap,[],rfl,hl,hm,.inl rfl,Chunks.nil⟩
  ·obtain⟨b,off,sp⟩:=ad
   have hsp:sp=none∧b<w.heap.size:=by
    obtain⟨_,ds,h2,_⟩:=each 0 (by omega)
    rw[Nat.zero_mul] at h2
    have h3:=World.cells?_block h2 h0
    obtain⟨_,h4,h5⟩:=World.cells?_some h2
    have h6:=h5 0 h0
    rw[zV (by omega)] at h6
    have h7:=World.cell?_spot h6
    exact⟨by simpa [Addr.add] using h7,by simpa [Addr.add] using h3⟩
   obtain⟨rfl,hb⟩:=hsp
   obtain⟨xs,l,hll,hx,hch⟩:=flat_of (R:=R (All w) w) (w:=w) (b:=b) (off:=off) len fun i hi=>by
    obtain⟨a,ds,h2,h3⟩:=each i hi
    obtain⟨_,h4,h5⟩:=World.cells?_some h2
    refine⟨a,ds,h4,fun j u hu=>?_,h3⟩
    have:=h5 j (by have:=(List.getElem?_eq_some_iff.1 hu).1;omega)
    rw[addr_add,addr_add,hu] at this
    exact this
   exact⟨l,some ⟨b,off,none⟩,cap,xs,by rw[hll],by omega,hm,.inr ⟨b,off,rfl,hb,hx⟩,hch⟩
theorem take_all {l:List Value} {n:Nat} (h:l.length=n):l.take n=l:=List.take_of_length_le (by omega)
theorem opens_struct2 {α β:Type} {f g:Field} {s1 s2:Nat} {R:Reader α} {S:Reader β} (ht:P.underlying t=some (.struct #[f,g])) (hc:P.cellsOf t=s1+s2) (hf:f.offset=0) (hg:g.offset=s1) (hR:Opens P f.type s1 R) (hS:Opens P g.type s2 S):
  Opens P t (s1+s2) (rBoth s1 R S):=by
 refine⟨hc,fun h=>?_⟩
 obtain⟨xs,n,_,_,hl,hx,he⟩:=DataW.trod_struct ht h
 have h1:=he 0 f rfl
 have h2:=he 1 g rfl
 simp only[List.size_toArray,List.length_cons,List.length_nil] at hx
 rw[zV (by omega),hf,hR.cells,List.drop_zero] at h1
 rw[zV (by omega),hg,hS.cells,take_all (by rw[List.length_drop];omega)] at h2
 obtain⟨a,ha⟩:=hR.opens h1
 obtain⟨b,hb⟩:=hS.opens h2
 exact⟨(a,b),by rw[List.length_take];omega,ha,hb⟩
theorem opens_struct3 {α β γ:Type} {f g i:Field} {s1 s2 s3:Nat} {R:Reader α} {S:Reader β} {T:Reader γ} (ht:P.underlying t=some (.struct #[f,g,i])) (hc:P.cellsOf t=s1+(s2+s3)) (hf:f.offset=0) (hg:g.offset=s1) (hi:i.offset=s1+s2)
  (hR:Opens P f.type s1 R) (hS:Opens P g.type s2 S) (hT:Opens P i.type s3 T):Opens P t (s1+(s2+s3)) (rBoth s1 R (rBoth s2 S T)):=by
 refine⟨hc,fun h=>?_⟩
 obtain⟨xs,n,_,_,hl,hx,he⟩:=DataW.trod_struct ht h
 have h1:=he 0 f rfl
 have h2:=he 1 g rfl
 have h3:=he 2 i rfl
 simp only[List.size_toArray,List.length_cons,List.length_nil] at hx
 rw[zV (by omega),hf,hR.cells,List.drop_zero] at h1
 rw[zV (by omega),hg,hS.cells] at h2
 rw[zV (by omega),hi,hT.cells,take_all (by rw[List.length_drop];omega),← List.drop_drop] at h3
 obtain⟨a,ha⟩:=hR.opens h1
 obtain⟨b,hb⟩:=hS.opens h2
 obtain⟨d,hd⟩:=hT.opens h3
 exact⟨(a,b,d),by rw[List.length_take];omega,ha,by rw[List.length_take,List.length_drop];omega,hb,hd⟩
end
theorem own_rd {w:World} {base e size n:Nat} {A:Option Addr} {c:Nat} {xs:List Value} (h:w.ownsRow base e size (.slice A n c) n xs):Rd w A xs:=by
 rcases Nat.eq_zero_or_pos n with h0 | h0
 ·subst h0
  exact .inl (List.eq_nil_of_length_eq_zero (by simpa using h.1))
 ·obtain⟨g,cap,hv,_,hlt⟩:=h.form h0
  have hA:A=some ⟨g,0,none⟩:=by injection hv
  subst hA
  exact .inr ⟨g,0,rfl,hlt,fun j u hu=>by
   have:=h.cells (g:=g) rfl j u hu
   rw[addr_add] at this
   exact this⟩
theorem own_in {w:World} {base e size n:Nat} {v:Value} {xs:List Value} (h:w.ownsRow base e size v n xs):∃ A c,v=.slice A n c∧n≤c∧c≤maxLen∧RdIn (fun b=>base≤b∧b<w.heap.size) w A xs:=by
 rcases h.2 with⟨rfl,h0⟩ | ⟨g,cap,cur,rfl,hgb,hgc,hnc,hm,_⟩
 ·subst h0
  exact⟨none,0,rfl,zW _,Nat.zero_le _,.inl (List.eq_nil_of_length_eq_zero (by rw[h.1,Nat.zero_mul]))⟩
 ·refine⟨some ⟨g,0,none⟩,cap,rfl,hnc,hm,?_⟩
  rcases own_rd h with h | ⟨b,off,e,hb,hc⟩
  ·exact .inl h
  ·injection e with e
   injection e with e1 e2
   subst e1 e2
   exact .inr ⟨g,0,rfl,⟨hgb,hb⟩,hc⟩
theorem own_rSlice {α:Type} {R:Reader α} (hR:Stays R) {w:World} {base e size n:Nat} {v:Value} {xs:List Value} {l:List α} (h:w.ownsRow base e size v n xs) (hn:l.length=n) (hc:Chunks size (R (fun b=>b<w.heap.size∧some b≠v.ownBlock) w) xs l):
  rSlice size R (All w) w [v] l:=by
 have hch:=hc.imp (R':=R (All w) w) fun cs a h=>hR.to (Keeps.mono fun b hb=>hb.1) h
 rcases h.2 with⟨rfl,h0⟩ | ⟨g,cap,cur,rfl,_,hg,hnc,hm,_⟩
 ·have:l=[]:=List.eq_nil_of_length_eq_zero (by omega)
  subst this
  exact⟨none,0,xs,rfl,zW _,Nat.zero_le _,.inl (List.eq_nil_of_length_eq_zero (by rw[h.1,h0,Nat.zero_mul])),hch⟩
 ·exact⟨some ⟨g,0,none⟩,cap,xs,by rw[hn],by omega,hm,own_rd h,hch⟩
end Go.Proofs.YtnljjnkindjeoaaGreatDoor
namespace Go.Proofs.YtnljjnkindjeoaaGreatDoor
open Go.RowKit
def Blk (w:World) (g:Nat) (t:TypeId) (cs:List Value):Prop:=w.heap[g]?=some (.cells cs.toArray t (0,0))
section
variable {w w' : World} {g g' : Nat} {t : TypeId} {cs : List Value}
theorem Blk.lt (h:Blk w g t cs):g<w.heap.size:=(Array.getElem?_eq_some_iff.1 h).1
theorem Blk.cell (h:Blk w g t cs) {j:Nat} {u:Value} (hu:cs[j]?=some u):w.cell? ⟨g,j,none⟩=some u:=by
 rw[cell_of_row w g j cs.toArray t (0,0) h];simpa using hu
theorem Blk.frozen (h:Blk w g t cs) (j:Nat):w.frozen? ⟨g,j,none⟩=false:=frozen_of_row w g j _ t h
theorem Blk.set (h:Blk w g t cs) (j:Nat) (u:Value):Blk (w.setCell ⟨g,j,none⟩ u) g t (cs.set j u):=by
 have:=heap_setCell_same w g j cs.toArray t u h
 unfold Blk
 rw[this]
 simp
theorem Blk.other (h:Blk w g t cs) (p:Addr) (u:Value) (hne:g≠p.block):Blk (w.setCell p u) g t cs:=(heap_setCell_other w p g u hne).trans h
theorem Blk.new (w:World) (t:TypeId) (cs:List Value):Blk (w.alloc (.cells cs.toArray t)) w.heap.size t cs:=heap_alloc_new w _
theorem Blk.alloc (h:Blk w g t cs) (o:Obj):Blk (w.alloc o) g t cs:=(Below.heap_alloc w o g h.lt).trans h
theorem Blk.below {n:Nat} (h:Blk w g t cs) (hg:g<n) (hb:Below n w w'):Blk w' g t cs:=(hb.block g hg).trans h
theorem Blk.rd (h:Blk w g t cs):Rd w (some ⟨g,0,none⟩) cs:=.inr ⟨g,0,rfl,h.lt,fun j u hu=>by rw[Nat.zero_add];exact h.cell hu⟩
theorem Blk.row (h:Blk w g t cs) (cs':List Value):Blk (w.setRow g cs'.toArray) g t cs':=setRow_heap w g cs.toArray _ t _ h
theorem below_setRow {B:Nat} {a:World} (h:Below B a w) (hg:B≤g) (cs':Array Value):Below B a (w.setRow g cs'):=
 h.trans ⟨rfl,rfl,rfl,by simp,fun k hk=>setRow_other w g k cs' (by omega)⟩
end
section
variable {P : Program} {w : World} {o : Oper} {a : Act} {K : Act → World → Prop} {Q : Exit → Act → World → Prop} {g : Nat} {t t' : TypeId} {cs cs' : List Value}
theorem wp_loadRow (p:Operand) (t:TypeId) (ho:o.op=.load t p) (d:TypeDesc) (hu:P.underlying t=some d) (hd:(match d with | .struct _ | .array _ _=>true | _=>false)=true) (hi:(P.info? t).map (·.size)=some cs.length)
  (hp:a.eval p=.pointer (some ⟨g,0,none⟩)) (hb:Blk w g t' cs) (h:K (a.put o.dst (.agg cs.toArray)) w):o.wp P a w K Q:=by
 have hl:=run_loadVar_row (P:=P) w g t' t cs.toArray (0,0) d hb hu hd (by simpa using hi)
 unfold Oper.wp execOp
 simp only[ho,hp,Instr.loadAt,Instr.sureAddr,Sem.run_bind,Sem.run_pure,Result.andThen,hl]
 exact h
theorem Blk.stores (hb:Blk w g t' cs) (hlen:cs.length=cs'.length) (h1:∀ u∈cs',u.oneCell'=true):(storeCells ⟨g,0,none⟩ cs').run P w=.ok () (w.setRow g cs'.toArray):=by
 have:=run_storeCells_from (P:=P) g t' cs' 0 cs.toArray w hb (by simpa using hlen.symm) h1
 simpa using this
end
def rNm:Reader (List Nat):=fun _ _ cs n=>∃ s:ByteArray,cs=[.string s]∧byt s=n∧s.size≤maxLen
theorem rNm_stays:Stays rNm:=⟨fun _ h=>h⟩
abbrev rFld:Reader Fld:=rBoth 1 rNm (rBoth 1 (rInt .i64) rNm)
abbrev rFlds:Reader (List Fld):=rSlice 3 rFld
abbrev rTyp:Reader Typ:=rBoth 1 rNm rFlds
abbrev rSch:Reader Sch:=rSlice 2 rTyp
theorem rFld_stays:Stays rFld:=rBoth_stays rNm_stays (rBoth_stays (rInt_stays _) rNm_stays)
theorem rFlds_stays:Stays rFlds:=rSlice_stays rFld_stays
theorem rTyp_stays:Stays rTyp:=rBoth_stays rNm_stays rFlds_stays
theorem rSch_stays:Stays rSch:=rSlice_stays rTyp_stays
theorem opens_nm {P:Program} {t:TypeId} (ht:P.underlying t=some .string) (hc:P.cellsOf t=1):Opens P t 1 rNm:=
 (opens_str ht hc).imp fun _ _ _ s h=>⟨byt s,s,h.1,rfl,h.2⟩
section
variable {S : Nat → Prop} {w : World} {cs : List Value}
theorem rFld_open {f:Fld} (h:rFld S w cs f):∃ s t:ByteArray,cs=[.string s,.int .i64 f.2.1,.string t]∧byt s=f.1∧byt t=f.2.2∧s.size≤maxLen∧t.size≤maxLen∧(Lit.int .i64 f.2.1).wf=true:=by
 obtain⟨_,⟨s,h1,h2,h3⟩,_,⟨h4,h5⟩,t,h6,h7,h8⟩:=h
 refine⟨s,t,?_,h2,h7,h3,h8,h5⟩
 rw[← List.take_append_drop 1 cs,h1,← List.take_append_drop 1 (cs.drop 1),h4,h6]
 rfl
theorem rFld_mk {f:Fld} {s t:ByteArray} (h1:byt s=f.1) (h2:byt t=f.2.2) (h3:s.size≤maxLen) (h4:t.size≤maxLen) (h5:(Lit.int .i64 f.2.1).wf=true):rFld S w [.string s,.int .i64 f.2.1,.string t] f:=
 ⟨rfl,⟨s,rfl,h1,h3⟩,rfl,⟨rfl,h5⟩,t,rfl,h2,h4⟩
theorem flds_len {A:Option Addr} {n c:Nat} {l:List Fld} (h:rFlds S w [.slice A n c] l):l.length=n∧n≤c∧c≤maxLen:=by
 obtain⟨A1,c1,xs,hv,hlc,hcm,_⟩:=h
 simp at hv
 omega
theorem rTyp_open {t:Typ} (h:rTyp S w cs t):∃ (s:ByteArray) (A:Option Addr) (c:Nat),cs=[.string s,.slice A t.2.length c]∧byt s=t.1∧s.size≤maxLen∧rFlds S w [.slice A t.2.length c] t.2:=by
 obtain⟨_,⟨s,h1,h2,h3⟩,A,c,xs,h4,h5⟩:=h
 refine⟨s,A,c,?_,h2,h3,A,c,xs,rfl,h5⟩
 rw[← List.take_append_drop 1 cs,h1,h4]
 rfl
theorem rTyp_mk {t:Typ} {s:ByteArray} {A:Option Addr} {n c:Nat} (h1:byt s=t.1) (h2:s.size≤maxLen) (h3:rFlds S w [.slice A n c] t.2):rTyp S w [.string s,.slice A n c] t:=
 ⟨rfl,⟨s,rfl,h1,h2⟩,h3⟩
theorem sch_len {A:Option Addr} {n c:Nat} {l:Sch} (h:rSch S w [.slice A n c] l):l.length=n∧n≤c∧c≤maxLen:=by
 obtain⟨A1,c1,xs,hv,hlc,hcm,_⟩:=h
 simp at hv
 omega
theorem slice_at {α:Type} {size:Nat} {R:Reader α} {A0:Option Addr} {n c:Nat} {l:List α} {i:Nat} {a:α} (h:rSlice size R S w [.slice A0 n c] l) (hi:l[i]?=some a) (hs:0<size):
  ∃ b off cs,A0=some ⟨b,off,none⟩∧S b∧R S w cs a∧cs.length=size∧∀ j u,cs[j]?=some u→w.cell? ⟨b,off+i * size+j,none⟩=some u:=by
 obtain⟨A1,c1,xs,hv,hlc,hcm,hr,hl,hch⟩:=h
 have hlt:=(List.getElem?_eq_some_iff.1 hi).1
 have hA:A0=A1:=by simp at hv;exact hv.1
 subst hA
 have hle:i * size+size≤xs.length:=by rw[hl,← Nat.succ_mul];exact Nat.mul_le_mul_right _ hlt
 rcases hr with h | ⟨b,off,rfl,hb,hc⟩
 ·rw[h,List.length_nil] at hle;omega
 ·refine⟨b,off,(xs.drop (i * size)).take size,rfl,hb,hch i a hi,by rw[List.length_take,List.length_drop];omega,fun j u hu=>?_⟩
  rw[List.getElem?_take] at hu
  split at hu
  ·rw[List.getElem?_drop] at hu
   rw[Nat.add_assoc]
   exact hc _ u hu
  ·cases hu
theorem fld_at {A0:Option Addr} {n c:Nat} {l:List Fld} {i:Nat} {f:Fld} (h:rFlds S w [.slice A0 n c] l) (hi:l[i]?=some f):
  ∃ b off s t,A0=some ⟨b,off,none⟩∧S b∧w.cell? ⟨b,off+i * 3,none⟩=some (.string s)∧w.cell? ⟨b,off+i * 3+1,none⟩=some (.int .i64 f.2.1)∧w.cell? ⟨b,off+i * 3+2,none⟩=some (.string t) ∧
   byt s=f.1∧byt t=f.2.2∧s.size≤maxLen∧t.size≤maxLen∧(-9223372036854775808≤f.2.1∧f.2.1≤9223372036854775807):=by
 obtain⟨b,off,cs,hA,hb,hR,hl,hc⟩:=slice_at h hi (by omega)
 obtain⟨s,t,rfl,h1,h2,h3,h4,h5⟩:=rFld_open hR
 exact⟨b,off,s,t,hA,hb,hc 0 _ rfl,hc 1 _ rfl,hc 2 _ rfl,h1,h2,h3,h4,bounds_i64 h5⟩
theorem typ_at {A0:Option Addr} {n c:Nat} {l:Sch} {i:Nat} {t:Typ} (h:rSch S w [.slice A0 n c] l) (hi:l[i]?=some t):
  ∃ b off s A c',A0=some ⟨b,off,none⟩∧S b∧w.cell? ⟨b,off+i * 2,none⟩=some (.string s)∧w.cell? ⟨b,off+i * 2+1,none⟩=some (.slice A t.2.length c')∧byt s=t.1∧s.size≤maxLen∧rFlds S w [.slice A t.2.length c'] t.2:=by
 obtain⟨b,off,cs,hA,hb,hR,hl,hc⟩:=slice_at h hi (by omega)
 obtain⟨s,A,c',rfl,h1,h2,h3⟩:=rTyp_open hR
 exact⟨b,off,s,A,c',hA,hb,hc 0 _ rfl,hc 1 _ rfl,h1,h2,h3⟩
end
theorem sch_below {w w':World} {cs:List Value} {s:Sch} (hB:Below w.heap.size w w') (h:rSch (All w) w cs s):rSch (All w') w' cs s:=rSch_stays.to (Keeps.below hB) h
theorem flds_below {w w':World} {cs:List Value} {s:List Fld} (hB:Below w.heap.size w w') (h:rFlds (All w) w cs s):rFlds (All w') w' cs s:=rFlds_stays.to (Keeps.below hB) h
theorem results_cell {fn:Func} {p:Tmp} {ty:TypeId} (h:fn.results=#[.cell p ty]) (tmps:Array Value) (P:Program) (w:World):
  (results fn tmps).run P w=((asAddr (tmps.getD p undef)).run P w).andThen fun a w₁=>(loadVar ty a).run P w₁:=by
 simp only[results,h]
 simp[Sem.run_bind,Result.andThen]
theorem ret_cell0 {P:Program} {fn:Func} {p:Tmp} {ty:TypeId} {a:Act} {w:World} {Q:Ending→World→Prop} {g:Nat} {t':TypeId} {cs:List Value} {d:TypeDesc} (h:fn.results=#[.cell p ty]) (hb:Blk w g t' cs)
  (hu:P.underlying ty=some d) (hd:(match d with | .struct _ | .array _ _=>true | _=>false)=true) (hi:(P.info? ty).map (·.size)=some cs.length) (hp:a.tmps.getD p undef=.pointer (some ⟨g,0,none⟩)) (hdef:a.defers=[])
  (hQ:Q (.returned (.agg cs.toArray)) w):bodyPost P fn Q .ret a w:=by
 refine bodyPost_ret (v:=.agg cs.toArray) ?_ hdef hQ
 have hl:=run_loadVar_row (P:=P) w g t' ty cs.toArray (0,0) d hb hu hd (by simpa using hi)
 rw[results_cell h,hp]
 simp only[asAddr,Sem.run_pure,Result.andThen,hl]
theorem ret_cell1 {P:Program} {fn:Func} {p q:Tmp} {ty:TypeId} {a:Act} {w:World} {Q:Ending→World→Prop} {g:Nat} {t':TypeId} {cs:List Value} {d:TypeDesc} (h:fn.results=#[.cell p ty,.tmp q]) (hb:Blk w g t' cs)
  (hu:P.underlying ty=some d) (hd:(match d with | .struct _ | .array _ _=>true | _=>false)=true) (hi:(P.info? ty).map (·.size)=some cs.length) (hp:a.tmps.getD p undef=.pointer (some ⟨g,0,none⟩)) (hdef:a.defers=[])
  (hQ:Q (.returned (.tuple #[.agg cs.toArray,a.tmps.getD q undef])) w):bodyPost P fn Q .ret a w:=by
 refine bodyPost_ret (v:=.tuple #[.agg cs.toArray,a.tmps.getD q undef]) ?_ hdef hQ
 have hl:=run_loadVar_row (P:=P) w g t' ty cs.toArray (0,0) d hb hu hd (by simpa using hi)
 rw[results_cell_tmp h,hp]
 simp only[asAddr,Sem.run_pure,Result.andThen,hl]
def schOk (L:List Oper):List (Nat × Bool)→Array Bool→Bool
 | [],listed=>(Region.ready .any L.toArray listed).isEmpty
 | (i,true) :: t,listed=>Region.noSelect L.toArray && Region.free .any L.toArray listed i && (Region.ready .any L.toArray listed).contains i && schOk L t (listed.setIfInBounds i true)
 | (i,false) :: t,listed=>(Region.ready .any L.toArray listed == [i]) && schOk L t (listed.setIfInBounds i true)
def wpSch (P:Program) (L:List Oper) (Q:Exit→Act→World→Prop) (S:World→Prop) (todo:List (Nat × Bool)) (listed:Array Bool) (a:Act) (w:World):Prop:=
 schOk L todo listed=true→(∀ (d:Tmp) (v:Value) c a w,Q (.panic c) (a.put (some d) v) w→Q (.panic c) a w)→wpAnyH P .any L.toArray Q S todo.length listed a w
section
variable {P : Program} {L : List Oper} {Q : Exit → Act → World → Prop} {S S' : World → Prop} {i : Nat} {o : Oper} {todo : List (Nat × Bool)} {listed : Array Bool} {a : Act} {w : World}
theorem sch_take {v:Value} (hi:L[i]?=some o) (hy:YieldsIf P L.toArray S o v a) (hS:S w) (h:wpSch P L Q S todo (listed.setIfInBounds i true) (a.put o.dst v) w):
  wpSch P L Q S ((i,true) :: todo) listed a w:=by
 intro hok hQ
 simp only[schOk,Bool.and_eq_true] at hok
 obtain⟨⟨⟨hs,hf⟩,hr⟩,hok⟩:=hok
 exact wpAnyH_take (i:=i) (oi:=o) (v:=v) (by simpa using hi) hs hf hr (fun c a w hq=>by
  cases hd:o.dst with
  | none=>rw[hd] at hq;exact hq
  | some d=>rw[hd] at hq;exact hQ d v c a w hq) hy hS (h hok hQ)
theorem sch_yes {v:Value} (hi:L[i]?=some o) (hw:Region.wanted o (yielded L.toArray a.tmps)=true) (hv:∀ W,S W→(execOp a.eval o).run P W=.ok (.value v) W) (hS:S w)
  (h:wpSch P L Q S todo (listed.setIfInBounds i true) (a.put o.dst v) w):wpSch P L Q S ((i,true) :: todo) listed a w:=
 sch_take hi (.inl ⟨hw,hv⟩) hS h
theorem sch_no (hi:L[i]?=some o) (hw:Region.wanted o (yielded L.toArray a.tmps)=false) (hS:S w)
  (h:wpSch P L Q S todo (listed.setIfInBounds i true) (a.put o.dst undef) w):wpSch P L Q S ((i,true) :: todo) listed a w:=
 sch_take hi (.inr ⟨hw,rfl⟩) hS h
theorem sch_call (hi:L[i]?=some o) (hw:Region.wanted o (yielded L.toArray a.tmps)=true)
  (h:∀ K:Act→World→Prop,Hid (∀ a' w',S w'→wpSch P L Q S todo (listed.setIfInBounds i true) a' w'→K a' w')→o.wp P a w K Q):wpSch P L Q S ((i,false) :: todo) listed a w:=by
 intro hok hQ
 simp only[schOk,Bool.and_eq_true,beq_iff_eq] at hok
 obtain⟨hr,hok⟩:=hok
 refine wpAnyH_all hr (by simp) fun j hj=>?_
 obtain rfl:j=i:=by simpa using hj
 unfold wpOp
 simp only[List.getElem?_toArray,hi,hw,if_true]
 exact .inl (h _ (fun a' w' hS h'=>⟨hS,h' hok hQ⟩))
theorem sch_call_no (hi:L[i]?=some o) (hw:Region.wanted o (yielded L.toArray a.tmps)=false) (hS:S w)
  (h:wpSch P L Q S todo (listed.setIfInBounds i true) (a.put o.dst undef) w):wpSch P L Q S ((i,false) :: todo) listed a w:=by
 intro hok hQ
 simp only[schOk,Bool.and_eq_true,beq_iff_eq] at hok
 obtain⟨hr,hok⟩:=hok
 refine wpAnyH_all hr (by simp) fun j hj=>?_
 obtain rfl:j=i:=by simpa using hj
 unfold wpOp
 simp only[List.getElem?_toArray,hi,hw]
 exact⟨hS,h hok hQ⟩
theorem sch_done (h:Q .normal a w):wpSch P L Q S [] listed a w:=by
 intro hok _
 have hr:Region.ready .any L.toArray listed=[]:=by simpa [schOk] using hok
 exact wpAnyH_done hr h _
theorem sch_start {id:Nat} (todo:List (Nat × Bool)) (S:World→Prop) (hm:P.follows .mixedOrders=true) (hl:todo.length=L.length) (hok:schOk L todo (Array.replicate L.length false)=true)
  (hQ:∀ (d:Tmp) (v:Value) c a w,Q (.panic c) (a.put (some d) v) w→Q (.panic c) a w) (hS:S w.drew)
  (h:S w.drew→wpSch P L Q S todo (Array.replicate L.length false) a w.drew):(Code.region id L.toArray true).wp P Q a w:=by
 refine wp_region_held_drew (S:=S) hm hS fun hS=>?_
 have:=h hS hok hQ
 rw[hl] at this
 simpa using this
end
def wpFr (P:Program) (L:List Oper) (Q:Exit→Act→World→Prop) (S:World→Prop) (n:Nat) (listed:Array Bool) (a:Act) (w:World):Prop:=
 (∀ (d:Tmp) (v:Value) c a w,Q (.panic c) (a.put (some d) v) w→Q (.panic c) a w)→wpAnyH P .any L.toArray Q S n listed a w
section
variable {P : Program} {L : List Oper} {Q : Exit → Act → World → Prop} {S : World → Prop} {o : Oper} {n : Nat} {listed : Array Bool} {a : Act} {w : World}
def frOk (L:List Oper) (listed:Array Bool) (i:Nat):Bool:=Region.noSelect L.toArray && Region.free .any L.toArray listed i && (Region.ready .any L.toArray listed).contains i
theorem fr_take (i:Nat) {v:Value} (hi:L[i]?=some o) (hok:frOk L listed i=true) (hy:YieldsIf P L.toArray S o v a) (hS:S w) (h:wpFr P L Q S n (listed.setIfInBounds i true) (a.put o.dst v) w):wpFr P L Q S (n+1) listed a w:=by
 intro hQ
 simp only[frOk,Bool.and_eq_true] at hok
 exact wpAnyH_take (i:=i) (oi:=o) (v:=v) (by simpa using hi) hok.1.1 hok.1.2 hok.2 (fun c a w hq=>by
  cases hd:o.dst with
  | none=>rw[hd] at hq;exact hq
  | some d=>rw[hd] at hq;exact hQ d v c a w hq) hy hS (h hQ)
theorem fr_yes (i:Nat) {v:Value} (hi:L[i]?=some o) (hok:frOk L listed i=true) (hw:Region.wanted o (yielded L.toArray a.tmps)=true) (hv:∀ W,S W→(execOp a.eval o).run P W=.ok (.value v) W) (hS:S w)
  (h:wpFr P L Q S n (listed.setIfInBounds i true) (a.put o.dst v) w):wpFr P L Q S (n+1) listed a w:=fr_take i hi hok (.inl ⟨hw,hv⟩) hS h
theorem fr_op (rs:List Nat) (hr:Region.ready .any L.toArray listed=rs) (hne:rs≠[])
  (h:∀ j∈rs,∃ o,L[j]?=some o∧Region.wanted o (yielded L.toArray a.tmps)=true∧∀ K:Act→World→Prop,Hid (∀ a' w',S w'→wpFr P L Q S n (listed.setIfInBounds j true) a' w'→K a' w')→o.wp P a w K Q):wpFr P L Q S (n+1) listed a w:=by
 intro hQ
 refine wpAnyH_all hr hne fun j hj=>?_
 obtain⟨o,ho,hw,hk⟩:=h j hj
 unfold wpOp
 simp only[List.getElem?_toArray,ho,hw,if_true]
 exact .inl (hk _ (fun a' w' hS h'=>⟨hS,h' hQ⟩))
theorem fr_done (hr:Region.ready .any L.toArray listed=[]) (h:Q .normal a w):wpFr P L Q S n listed a w:=fun _=>wpAnyH_done hr h _
theorem fr_start {id:Nat} (S:World→Prop) (k:Nat) (hm:P.follows .mixedOrders=true) (hl:L.length=k) (hQ:∀ (d:Tmp) (v:Value) c a w,Q (.panic c) (a.put (some d) v) w→Q (.panic c) a w) (hS:S w.drew)
  (h:S w.drew→wpFr P L Q S k (Array.replicate k false) a w.drew):(Code.region id L.toArray true).wp P Q a w:=by
 refine wp_region_held_drew (S:=S) hm hS fun hS=>?_
 have:=h hS hQ
 rw[← hl] at this
 simpa using this
end
section
variable {P : Program} {ops : Array Oper} {Q : Exit → Act → World → Prop} {md : Region.Mode} {S : World → Prop} {l : Nat}
def wpUpto (P:Program) (md:Region.Mode) (ops:Array Oper) (Q:Exit→Act→World→Prop) (S:World→Prop) (l:Nat):Nat→Array Bool→Act→World→Prop
 | 0,listed,a,w=>Region.ready md ops listed=[]∧Q .normal a w
 | n+1,listed,a,w=>(Region.ready md ops listed=[]→Q .normal a w) ∧
  ∀ j∈Region.ready md ops listed,wpOp P ops Q j (fun b u=>(j≠l→S u)∧wpUpto P md ops Q S l n (listed.setIfInBounds j true) b u) a w
theorem wpAny_of_upto:∀ (n:Nat) (listed:Array Bool) (a:Act) (w:World),wpUpto P md ops Q S l n listed a w→wpAny P md ops Q n listed a w
 | 0,_,_,_,h=>h
 | n+1,_,_,_,h=>⟨h.1,fun j hj=>wpOp_mono (fun b u hu=>wpAny_of_upto n _ b u hu.2) (h.2 j hj)⟩
inductive ToLast (md:Region.Mode) (ops:Array Oper) (l:Nat) (listed:Array Bool):Nat→Prop
 | last:listed.getD l true=false→ToLast md ops l listed l
 | step {i q:Nat} {o:Oper} {e:Edge}:listed.getD i true=false→ops[q]?=some o→e∈o.after→Region.binds md e=true→e.on=i→ToLast md ops l listed q→ToLast md ops l listed i
theorem not_listed {listed:Array Bool} {i:Nat} (h:listed.getD i true=false):¬ listed.getD i false=true:=by
 intro h'
 rcases Nat.lt_or_ge i listed.size with hi | hi
 ·simp[hi] at h h';rw[h] at h';cases h'
 ·simp[Array.getElem?_eq_none hi] at h'
theorem ToLast.waits {listed:Array Bool} {i:Nat} (h:ToLast md ops l listed i):i≠l→l ∉ Region.ready md ops listed:=by
 induction h with
 | last _=>intro hne;exact absurd rfl hne
 | step hi hq he hb hon hto ih=>
  rename_i i q o e
  intro _ hl
  by_cases hql:q=l
  ·subst hql
   obtain⟨_,o',ho',hall⟩:=mem_ready.1 hl
   obtain rfl:=Option.some.inj (hq.symm.trans ho')
   have:=hall e he hb
   rw[hon] at this
   exact not_listed hi this
  ·exact ih hql hl
theorem ToLast.set {listed:Array Bool} {i j:Nat} (h:ToLast md ops l listed i) (hj:j∈Region.ready md ops listed):j≠i→ToLast md ops l (listed.setIfInBounds j true) i:=by
 induction h with
 | last hl=>intro hne;exact .last (by rw[getD_set_ne true hne];exact hl)
 | step hi hq he hb hon hto ih=>
  rename_i i q o e
  intro hne
  refine .step (by rw[getD_set_ne true hne];exact hi) hq he hb hon (ih ?_)
  rintro rfl
  obtain⟨_,o',ho',hall⟩:=mem_ready.1 hj
  obtain rfl:=Option.some.inj (hq.symm.trans ho')
  have:=hall e he hb
  rw[hon] at this
  exact not_listed hi this
def toLastB (md:Region.Mode) (ops:Array Oper) (l:Nat) (listed:Array Bool):Nat→Nat→Bool
 | 0,_=>false
 | n+1,i=>!listed.getD i true && (i == l || (List.range ops.size).any fun q=>match ops[q]? with
   | some o=>(o.after.any fun e=>Region.binds md e && e.on == i) && toLastB md ops l listed n q
   | none=>false)
theorem toLast_of {listed:Array Bool}:∀ (n i:Nat),toLastB md ops l listed n i=true→ToLast md ops l listed i
 | 0,_,h=>by cases h
 | n+1,i,h=>by
  simp only[toLastB,Bool.and_eq_true,Bool.or_eq_true,Bool.not_eq_true'] at h
  obtain⟨hi,h⟩:=h
  rcases h with h | h
  ·obtain rfl:i=l:=by simpa using h
   exact .last hi
  ·rw[List.any_eq_true] at h
   obtain⟨q,_,hq⟩:=h
   cases ho:ops[q]? with
   | none=>rw[ho] at hq;cases hq
   | some o=>
    rw[ho] at hq
    simp only[Bool.and_eq_true,Array.any_eq_true'] at hq
    obtain⟨⟨e,he,hb⟩,hn⟩:=hq
    simp only[beq_iff_eq] at hb
    exact .step hi ho he hb.1 hb.2 (toLast_of n q hn)
theorem wpUpto_first {i:Nat} {oi:Oper} {v:Value} (hi:ops[i]?=some oi) (hil:i≠l) (hsel:Region.noSelect ops=true) (hQ:∀ c a w,Q (.panic c) (a.put oi.dst v) w→Q (.panic c) a w):
  ∀ (n:Nat) (listed:Array Bool) (a:Act) (w:World),(∀ j oj,ops[j]?=some oj→j≠i→listed.getD j true=false→(∀ e∈oj.after,Region.binds md e=true→e.on≠i)→oi.apart ops oj=true) →
   i∈Region.ready md ops listed→ToLast md ops l listed i→YieldsIf P ops S oi v a→S w→wpUpto P md ops Q S l n (listed.setIfInBounds i true) (a.put oi.dst v) w→wpUpto P md ops Q S l (n+1) listed a w
 | n,listed,a,w,hfree,hr,hto,hy,hS,H=>by
  refine⟨fun h=>(by rw[h] at hr;cases hr),fun j hj=>?_⟩
  by_cases hji:j=i
  ·subst hji
   exact hy.wpOp hi hS ⟨fun _=>hS,H⟩
  ·have hjl:j≠l:=fun e=>hto.waits hil (e ▸ hj)
   match n,H with
   | 0,H=>
    have:=ready_mono hj hji
    rw[H.1] at this
    cases this
   | n+1,H=>
    obtain⟨hun,oj,hoj,hall⟩:=mem_ready.1 hj
    have hno:∀ e∈oj.after,Region.binds md e=true→e.on≠i:=fun e he hb heq=>by
     have:=hall e he hb
     rw[heq] at this
     exact not_listed (mem_ready.1 hr).1 this
    have h2:=wpOp_putIf hoj (hfree j oj hoj hji hun hno) (fun cs b=>Region.noSelect_spec hsel i oi cs b hi) (fun cs b=>Region.noSelect_spec hsel j oj cs b hoj) hQ hy (H.2 j (ready_mono hj hji))
    refine wpOp_mono (fun b u hu=>⟨fun _=>hu.2.1 hjl,?_⟩) h2
    refine wpUpto_first hi hil hsel hQ n (listed.setIfInBounds j true) b u (fun k ok hk hki hku hkn=>hfree k ok hk hki ?_ hkn) (ready_mono hr (Ne.symm hji)) (hto.set hj hji) hu.1 (hu.2.1 hjl) ?_
    ·by_cases hjk:j=k
     ·subst hjk;exact hun
     ·rw[getD_set_ne true hjk] at hku;exact hku
    ·rw[Array.setIfInBounds_comm _ _ hji]
     exact hu.2.2
end
def sclOk (L:List Oper) (l:Nat):List (Nat × Bool)→Array Bool→Bool
 | [],listed=>(Region.ready .any L.toArray listed).isEmpty
 | (i,true) :: t,listed=>i != l && toLastB .any L.toArray l listed L.length i && Region.noSelect L.toArray && Region.free .any L.toArray listed i && (Region.ready .any L.toArray listed).contains i && sclOk L l t (listed.setIfInBounds i true)
 | (i,false) :: t,listed=>(Region.ready .any L.toArray listed == [i]) && sclOk L l t (listed.setIfInBounds i true)
def wpScl (P:Program) (L:List Oper) (l:Nat) (Q:Exit→Act→World→Prop) (S:World→Prop) (todo:List (Nat × Bool)) (listed:Array Bool) (a:Act) (w:World):Prop:=
 sclOk L l todo listed=true→(∀ (d:Tmp) (v:Value) c a w,Q (.panic c) (a.put (some d) v) w→Q (.panic c) a w)→wpUpto P .any L.toArray Q S l todo.length listed a w
section
variable {P : Program} {L : List Oper} {Q : Exit → Act → World → Prop} {S S' : World → Prop} {i l : Nat} {o : Oper} {todo : List (Nat × Bool)} {listed : Array Bool} {a : Act} {w : World}
theorem scl_take {v:Value} (hi:L[i]?=some o) (hy:YieldsIf P L.toArray S o v a) (hS:S w) (h:wpScl P L l Q S todo (listed.setIfInBounds i true) (a.put o.dst v) w):
  wpScl P L l Q S ((i,true) :: todo) listed a w:=by
 intro hok hQ
 simp only[sclOk,Bool.and_eq_true,bne_iff_ne] at hok
 obtain⟨⟨⟨⟨⟨hil,hto⟩,hs⟩,hf⟩,hr⟩,hok⟩:=hok
 have hi':L.toArray[i]?=some o:=by simpa using hi
 exact wpUpto_first hi' hil hs (fun c a w hq=>by
  cases hd:o.dst with
  | none=>rw[hd] at hq;exact hq
  | some d=>rw[hd] at hq;exact hQ d v c a w hq) _ listed a w (Region.free_spec hi' hf) (by simpa using hr) (toLast_of _ _ hto) hy hS (h hok hQ)
theorem scl_yes {v:Value} (hi:L[i]?=some o) (hw:Region.wanted o (yielded L.toArray a.tmps)=true) (hv:∀ W,S W→(execOp a.eval o).run P W=.ok (.value v) W) (hS:S w)
  (h:wpScl P L l Q S todo (listed.setIfInBounds i true) (a.put o.dst v) w):wpScl P L l Q S ((i,true) :: todo) listed a w:=scl_take hi (.inl ⟨hw,hv⟩) hS h
theorem scl_no (hi:L[i]?=some o) (hw:Region.wanted o (yielded L.toArray a.tmps)=false) (hS:S w)
  (h:wpScl P L l Q S todo (listed.setIfInBounds i true) (a.put o.dst undef) w):wpScl P L l Q S ((i,true) :: todo) listed a w:=scl_take hi (.inr ⟨hw,rfl⟩) hS h
theorem scl_call (hi:L[i]?=some o) (hw:Region.wanted o (yielded L.toArray a.tmps)=true)
  (h:∀ K:Act→World→Prop,Hid (∀ a' w',(i≠l→S w')→wpScl P L l Q S todo (listed.setIfInBounds i true) a' w'→K a' w')→o.wp P a w K Q):wpScl P L l Q S ((i,false) :: todo) listed a w:=by
 intro hok hQ
 simp only[sclOk,Bool.and_eq_true,beq_iff_eq] at hok
 obtain⟨hr,hok⟩:=hok
 refine⟨fun h0=>(by rw[hr] at h0;cases h0),fun j hj=>?_⟩
 rw[hr] at hj
 obtain rfl:j=i:=by simpa using hj
 unfold wpOp
 simp only[List.getElem?_toArray,hi,hw,if_true]
 exact .inl (h _ (fun a' w' hS h'=>⟨hS,h' hok hQ⟩))
theorem scl_done (h:Q .normal a w):wpScl P L l Q S [] listed a w:=by
 intro hok _
 have hr:Region.ready .any L.toArray listed=[]:=by simpa [sclOk] using hok
 exact⟨hr,h⟩
theorem scl_start {id:Nat} (l:Nat) (todo:List (Nat × Bool)) (S:World→Prop) (hm:P.follows .mixedOrders=true) (hl:todo.length=L.length) (hok:sclOk L l todo (Array.replicate L.length false)=true)
  (hQ:∀ (d:Tmp) (v:Value) c a w,Q (.panic c) (a.put (some d) v) w→Q (.panic c) a w) (hS:S w.drew)
  (h:S w.drew→wpScl P L l Q S todo (Array.replicate L.length false) a w.drew):(Code.region id L.toArray true).wp P Q a w:=by
 refine wp_region_any hm (wpAny_of_upto (S:=S) (l:=l) _ _ _ _ ?_)
 have:=h hS hok hQ
 rw[hl] at this
 simpa using this
end
section
variable {P : Program} {L : List Oper} {Q : Exit → Act → World → Prop} {S : World → Prop} {o : Oper} {l n : Nat} {listed : Array Bool} {a : Act} {w : World}
end
section
variable {P : Program} {w : World}
theorem run_app_nil (base:Nat) (t ty e:TypeId) (i:TypeInfo) (ht:P.underlying t=some (.slice e)) (hi:P.info? e=some i)
  (v:Value) (n:Nat) (xs:List Value) (hown:w.ownsRow base e 1 v n xs) (c:Nat):(Builtin.append_ #[t,t] ty #[v,.slice none 0 c]).run P w=.ok v w:=by
 rcases hown.2 with⟨rfl,rfl⟩ | ⟨g,cap,cur,rfl,_,_,hnc,_⟩ <;>
 simp[Builtin.append_,run_underlying ht,sizeOf,typeInfo,hi,Builtin.lenOf,Builtin.firstCells]
 simp[hnc,storeCells]
theorem run_app (base:Nat) (t ty e:TypeId) (i:TypeInfo) (z:Value) (bytes:Nat) (ht:P.underlying t=some (.slice e)) (hi:P.info? e=some i) (hz:i.zero=some z)
  (hsize:i.size=1) (hby:i.bytes=bytes) (hzs:z.cells.size=1)
  (v:Value) (n:Nat) (xs:List Value) (hown:w.ownsRow base e 1 v n xs) (A:Option Addr) (m c:Nat) (ys:List Value) (hm:ys.length=m) (hr:Rd w A ys) (h1:∀ u∈ys,u.oneCell'=true)
  (h63:n+m≤maxLen) (hbytes:(n+m) * bytes≤140737488355328) (hbase:base≤w.heap.size):
  ∃ v' w',(Builtin.append_ #[t,t] ty #[v,.slice A m c]).run P w=.ok v' w'∧w'.ownsRow base e 1 v' (n+m) (xs++ys)∧w.grownBy w' v.ownBlock∧(v'.ownBlock=v.ownBlock∨v'.ownBlock=some w.heap.size):=by
 cases A with
 | none=>
  have hy:ys=[]:=by
   rcases hr with h | ⟨_,_,h,_⟩
   ·exact h
   ·cases h
  subst hy
  simp at hm
  subst hm
  exact⟨v,w,run_app_nil base t ty e i ht hi v n xs hown c,by simpa using hown,World.grownBy.refl w _,.inl rfl⟩
 | some ad=>
  obtain⟨v',w',h,h2,h3,_,h4⟩:=run_append_own_at (P:=P) w base t ty e i z 1 bytes ht hi hz hsize hby hzs (by omega) v n xs hown ad m c ys (by omega)
   (fun j u hu=>by
    rcases hr with rfl | ⟨b,off,e,_,hc⟩
    ·simp at hu
    ·injection e with e
     subst e
     rw[addr_add]
     exact hc j u hu) h1 h63 hbytes hbase
  exact⟨v',w',h,h2,h3,h4⟩
theorem wp_app {o:Oper} {a:Act} {K:Act→World→Prop} {Q:Exit→Act→World→Prop} (s x:Operand) (t:TypeId)
  (ho:o.op=.call { callee:=.builtin .append,args:=#[s,x],argTypes:=#[t,t] })
  (base:Nat) (e:TypeId) (i:TypeInfo) (z:Value) (bytes:Nat) (ht:P.underlying t=some (.slice e)) (hi:P.info? e=some i) (hz:i.zero=some z)
  (hsize:i.size=1) (hby:i.bytes=bytes) (hzs:z.cells.size=1)
  (v:Value) (n:Nat) (xs:List Value) (hs:a.eval s=v) (hown:w.ownsRow base e 1 v n xs) (A:Option Addr) (m c:Nat) (ys:List Value) (hx:a.eval x=.slice A m c) (hm:ys.length=m) (hr:Rd w A ys) (h1:∀ u∈ys,u.oneCell'=true)
  (h63:n+m≤maxLen) (hbytes:(n+m) * bytes≤140737488355328) (hbase:base≤w.heap.size)
  (h:∀ v' w',w'.ownsRow base e 1 v' (n+m) (xs++ys)→w.grownBy w' v.ownBlock→(v'.ownBlock=v.ownBlock∨v'.ownBlock=some w.heap.size)→K (a.put o.dst v') w'):o.wp P a w K Q:=by
 obtain⟨v',w',hrun,h2,h3,h4⟩:=run_app (P:=P) base t o.type e i z bytes ht hi hz hsize hby hzs v n xs hown A m c ys hm hr h1 h63 hbytes hbase
 unfold Oper.wp execOp
 simp only[ho,resolve,invoke,builtin,Sem.run_bind,Sem.run_pure,Result.andThen_ok,List.map_toArray,List.map_cons,List.map_nil,hs,hx,hrun]
 exact h v' w' h2 h3 h4
theorem wpList_app {ops:Array Oper} {rest:List Oper} {o:Oper} {a:Act} {Q:Exit→Act→World→Prop} (hgd:o.guard=none) (s x:Operand) (t:TypeId)
  (ho:o.op=.call { callee:=.builtin .append,args:=#[s,x],argTypes:=#[t,t] })
  (base:Nat) (e:TypeId) (i:TypeInfo) (z:Value) (bytes:Nat) (ht:P.underlying t=some (.slice e)) (hi:P.info? e=some i) (hz:i.zero=some z)
  (hsize:i.size=1) (hby:i.bytes=bytes) (hzs:z.cells.size=1)
  (v:Value) (n:Nat) (xs:List Value) (hs:a.eval s=v) (hown:w.ownsRow base e 1 v n xs) (A:Option Addr) (m c:Nat) (ys:List Value) (hx:a.eval x=.slice A m c) (hm:ys.length=m) (hr:Rd w A ys) (h1:∀ u∈ys,u.oneCell'=true)
  (h63:n+m≤maxLen) (hbytes:(n+m) * bytes≤140737488355328) (hbase:base≤w.heap.size)
  (h:∀ v' w',w'.ownsRow base e 1 v' (n+m) (xs++ys)→w.grownBy w' v.ownBlock→(v'.ownBlock=v.ownBlock∨v'.ownBlock=some w.heap.size)→wpList P ops Q rest (a.put o.dst v') w'):wpList P ops Q (o :: rest) a w:=
 wpList_plain hgd fun _ hK=>wp_app s x t ho base e i z bytes ht hi hz hsize hby hzs v n xs hs hown A m c ys hx hm hr h1 h63 hbytes hbase fun v' w' h2 h3 h4=>hK _ _ (h v' w' h2 h3 h4)
end
theorem u8s_one (bs:List Nat):∀ u∈u8s bs,u.oneCell'=true:=by
 intro u hu
 obtain⟨x,_,rfl⟩:=List.mem_map.1 hu
 rfl
def strB (bs:List Nat):ByteArray:=⟨(bs.map UInt8.ofNat).toArray⟩
section
variable {P : Program} {w : World}
theorem run_apps_nil (base:Nat) (t ty e:TypeId) (i:TypeInfo) (size:Nat) (ht:P.underlying t=some (.slice e)) (hi:P.info? e=some i)
  (v:Value) (n:Nat) (xs:List Value) (hown:w.ownsRow base e size v n xs) (c:Nat):(Builtin.append_ #[t,t] ty #[v,.slice none 0 c]).run P w=.ok v w:=by
 rcases hown.2 with⟨rfl,rfl⟩ | ⟨g,cap,cur,rfl,_,_,hnc,_⟩ <;>
 simp[Builtin.append_,run_underlying ht,sizeOf,typeInfo,hi,Builtin.lenOf,Builtin.firstCells]
 simp[hnc,storeCells]
theorem run_apps (base:Nat) (t ty e:TypeId) (i:TypeInfo) (z:Value) (size bytes:Nat) (ht:P.underlying t=some (.slice e)) (hi:P.info? e=some i) (hz:i.zero=some z)
  (hsize:i.size=size) (hby:i.bytes=bytes) (hzs:z.cells.size=size) (h0:0<size)
  (v:Value) (n:Nat) (xs:List Value) (hown:w.ownsRow base e size v n xs) (A:Option Addr) (m c:Nat) (ys:List Value) (hm:ys.length=m * size) (hr:Rd w A ys) (h1:∀ u∈ys,u.oneCell'=true)
  (h63:n+m≤maxLen) (hbytes:(n+m) * bytes≤140737488355328) (hbase:base≤w.heap.size):
  ∃ v' w',(Builtin.append_ #[t,t] ty #[v,.slice A m c]).run P w=.ok v' w'∧w'.ownsRow base e size v' (n+m) (xs++ys)∧w.grownBy w' v.ownBlock∧(v'.ownBlock=v.ownBlock∨v'.ownBlock=some w.heap.size):=by
 cases A with
 | none=>
  have hy:ys=[]:=by
   rcases hr with h | ⟨_,_,h,_⟩
   ·exact h
   ·cases h
  subst hy
  have hm0:m=0:=by
   rcases Nat.mul_eq_zero.1 (show m * size=0 by simpa using hm.symm) with h | h
   ·exact h
   ·omega
  subst hm0
  exact⟨v,w,run_apps_nil base t ty e i size ht hi v n xs hown c,by simpa using hown,World.grownBy.refl w _,.inl rfl⟩
 | some ad=>
  obtain⟨v',w',h,h2,h3,_,h4⟩:=run_append_own_at (P:=P) w base t ty e i z size bytes ht hi hz hsize hby hzs h0 v n xs hown ad m c ys hm
   (fun j u hu=>by
    rcases hr with rfl | ⟨b,off,e,_,hc⟩
    ·simp at hu
    ·injection e with e
     subst e
     rw[addr_add]
     exact hc j u hu) h1 h63 hbytes hbase
  exact⟨v',w',h,h2,h3,h4⟩
theorem wp_apps {o:Oper} {a:Act} {K:Act→World→Prop} {Q:Exit→Act→World→Prop} (s x:Operand) (t:TypeId)
  (ho:o.op=.call { callee:=.builtin .append,args:=#[s,x],argTypes:=#[t,t] })
  (base:Nat) (e:TypeId) (i:TypeInfo) (z:Value) (size bytes:Nat) (ht:P.underlying t=some (.slice e)) (hi:P.info? e=some i) (hz:i.zero=some z)
  (hsize:i.size=size) (hby:i.bytes=bytes) (hzs:z.cells.size=size) (h0:0<size)
  (v:Value) (n:Nat) (xs:List Value) (hs:a.eval s=v) (hown:w.ownsRow base e size v n xs) (A:Option Addr) (m c:Nat) (ys:List Value) (hx:a.eval x=.slice A m c) (hm:ys.length=m * size) (hr:Rd w A ys) (h1:∀ u∈ys,u.oneCell'=true)
  (h63:n+m≤maxLen) (hbytes:(n+m) * bytes≤140737488355328) (hbase:base≤w.heap.size)
  (h:∀ v' w',w'.ownsRow base e size v' (n+m) (xs++ys)→w.grownBy w' v.ownBlock→(v'.ownBlock=v.ownBlock∨v'.ownBlock=some w.heap.size)→K (a.put o.dst v') w'):o.wp P a w K Q:=by
 obtain⟨v',w',hrun,h2,h3,h4⟩:=run_apps (P:=P) base t o.type e i z size bytes ht hi hz hsize hby hzs h0 v n xs hown A m c ys hm hr h1 h63 hbytes hbase
 unfold Oper.wp execOp
 simp only[ho,resolve,invoke,builtin,Sem.run_bind,Sem.run_pure,Result.andThen_ok,List.map_toArray,List.map_cons,List.map_nil,hs,hx,hrun]
 exact h v' w' h2 h3 h4
theorem wpList_apps {ops:Array Oper} {rest:List Oper} {o:Oper} {a:Act} {Q:Exit→Act→World→Prop} (hgd:o.guard=none) (s x:Operand) (t:TypeId)
  (ho:o.op=.call { callee:=.builtin .append,args:=#[s,x],argTypes:=#[t,t] })
  (base:Nat) (e:TypeId) (i:TypeInfo) (z:Value) (size bytes:Nat) (ht:P.underlying t=some (.slice e)) (hi:P.info? e=some i) (hz:i.zero=some z)
  (hsize:i.size=size) (hby:i.bytes=bytes) (hzs:z.cells.size=size) (h0:0<size)
  (v:Value) (n:Nat) (xs:List Value) (hs:a.eval s=v) (hown:w.ownsRow base e size v n xs) (A:Option Addr) (m c:Nat) (ys:List Value) (hx:a.eval x=.slice A m c) (hm:ys.length=m * size) (hr:Rd w A ys) (h1:∀ u∈ys,u.oneCell'=true)
  (h63:n+m≤maxLen) (hbytes:(n+m) * bytes≤140737488355328) (hbase:base≤w.heap.size)
  (h:∀ v' w',w'.ownsRow base e size v' (n+m) (xs++ys)→w.grownBy w' v.ownBlock→(v'.ownBlock=v.ownBlock∨v'.ownBlock=some w.heap.size)→wpList P ops Q rest (a.put o.dst v') w'):wpList P ops Q (o :: rest) a w:=
 wpList_plain hgd fun _ hK=>wp_apps s x t ho base e i z size bytes ht hi hz hsize hby hzs h0 v n xs hs hown A m c ys hx hm hr h1 h63 hbytes hbase fun v' w' h2 h3 h4=>hK _ _ (h v' w' h2 h3 h4)
theorem Keeps.grown {w w':World} {v v':Value} (hg:w.grownBy w' v.ownBlock) (hv:v'.ownBlock=v.ownBlock∨v'.ownBlock=some w.heap.size):Keeps (fun b=>b<w.heap.size∧some b≠v.ownBlock) (fun b=>b<w'.heap.size∧some b≠v'.ownBlock) w w':=by
 intro b ⟨hb,hne⟩
 refine⟨⟨Nat.lt_of_lt_of_le hb hg.size,?_⟩,hg.block b hb hne⟩
 rcases hv with h | h
 ·rw[h];exact hne
 ·rw[h];intro e;injection e with e;omega
end
def i64s (l:List Nat):List Value:=l.map fun x:Nat=>Value.int .i64 (x:Int)
@[simp] theorem i64s_length (l:List Nat):(i64s l).length=l.length:=by simp[i64s]
theorem i64s_append (a b:List Nat):i64s (a++b)=i64s a++i64s b:=by simp[i64s]
theorem i64s_in {l:List Nat} {k:Nat} (h:k<l.length):(i64s l)[k]?=some (.int .i64 (l[k]:Int)):=by simp[i64s,h]
theorem i64s_one (l:List Nat):∀ u∈i64s l,u.oneCell'=true:=by
 intro u hu
 obtain⟨x,_,rfl⟩:=List.mem_map.1 hu
 rfl
theorem info_int:(Tryz.prog.info? 3).map (fun i=>(i.zero,i.size,i.bytes))=some (some (.int .i64 0),1,8):=by kernel_rfl
theorem lit_int (w:World) (bs:List Nat):Rd (w.alloc (.cells (i64s bs).toArray 3)) (some ⟨w.heap.size,0,none⟩) (i64s bs):=
 .inr ⟨w.heap.size,0,rfl,by simp,fun j u hu=>by
  rw[World.cell?_alloc_at _ _ _ _ rfl,Nat.zero_add]
  simpa using hu⟩
def slA (A:Option Addr) (c l:Nat):Option Addr:=if c=l then A else A.map (·.add l)
end Go.Proofs.YtnljjnkindjeoaaGreatDoor
