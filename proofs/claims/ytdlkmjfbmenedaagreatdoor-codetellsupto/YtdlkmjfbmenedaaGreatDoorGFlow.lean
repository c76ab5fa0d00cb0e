/- The texts FlMem, FlReader, FlTail, FlPart, FlRun, FlRead, FlAs, FlGet, FlCuts, FlNum, FlFrames, FlPut in one (as far as the seat has what they speak of); what each proves, and its conditions, stands before it. -/
import Derived.Test.YtdlkmjfbmenedaaGreatDoorGBytes
import Derived.Test.YtdlkmjfbmenedaaGreatDoorGFrame
import Derived.Test.YtdlkmjfbmenedaaGreatDoorGVari
import Derived.Test.YtdlkmjfbmenedaaGreatDoorGGen
import Derived.Deep.QuietTactic
import Derived.BigQuiet
import Derived.WalkKit
import Derived.LaidEql
import Derived.Stop.Asserts
import Derived.RowKitTokens
import Derived.Laws.ResultCell
import Derived.Test.YtdlkmjfbmenedaaGreatDoorAl
set_option maxRecDepth 100000
set_option maxHeartbeats 4000000
namespace Go.Proofs.YtdlkmjfbmenedaaGreatDoor
open Go.RowKit
abbrev rPts:Reader (List (List Nat)):=rSlice 1 rBytes
theorem rPts_stays:Stays rPts:=rSlice_stays rBytes_stays
theorem pts_len {S:Nat→Prop} {w:World} {A0:Option Addr} {n c:Nat} {l:List (List Nat)} (h:rPts S w [.slice A0 n c] l):l.length=n∧n≤c∧c≤maxLen:=by
 obtain⟨A1,c1,xs,hv,hlc,hcm,_⟩:=h
 simp at hv
 omega
theorem pts_at {S:Nat→Prop} {w:World} {A0:Option Addr} {n c:Nat} {l:List (List Nat)} {i:Nat} {p:List Nat} (h:rPts S w [.slice A0 n c] l) (hi:l[i]?=some p):∃ b off A c',A0=some ⟨b,off,none⟩∧S b∧w.cell? ⟨b,off+i,none⟩=some (.slice A p.length c')∧p.length≤c'∧c'≤maxLen∧(∀ x∈p,x<256)∧RdIn S w A (u8s p):=by
 obtain⟨A1,c1,xs,hv,hlc,hcm,hr,hl,hch⟩:=h
 obtain⟨A,c',hcs,hc1,hc2,hby,hrd⟩:=hch i p hi
 have hlt:=(List.getElem?_eq_some_iff.1 hi).1
 have hA:A0=A1:=by simp at hv;exact hv.1
 subst hA
 rcases hr with h | ⟨b,off,rfl,hb,hc⟩
 ·rw[h] at hl;simp at hl;omega
 ·have h0:xs[i]?=some (.slice A p.length c'):=by
   have:=congrArg (fun l:List Value=>l[0]?) hcs
   simpa [List.getElem?_take,List.getElem?_drop] using this
  exact⟨b,off,A,c',rfl,hb,hc _ _ h0,hc1,hc2,hby,hrd⟩
theorem tooLong_any (A:Option Addr) (n c:Nat) (w:World):Calls Tryz.prog 95 #[.slice A n c] w fun e w'=>e=.returned (.bool (decide (200<n)))∧w=w':=by
 by_cases hn:200<n
 all_goals
  go_enter Tryz.func95,Tryz.ntmps95
  go_wp2
  go_ret
  exact⟨by simp[hn];omega,rfl⟩
theorem indexLong_any (A:Option Addr) (n c:Nat) (l:List (List Nat)) (w:World) (h:rPts (All w) w [.slice A n c] l):
  Calls Tryz.prog 124 #[.slice A n c,.func (.func 95) #[] #[]] w fun e w'=>(∃ k:Int,e=.returned (.int .i64 k)∧(decide (0≤k)=!(l.all fun p=>decide (p.length≤200))))∧w=w':=by
 obtain⟨hn,hnc,hcm⟩:=pts_len h
 have hcm2:=hcm
 simp only[maxLen] at hcm2
 go_enter Tryz.func124,Tryz.ntmps124
 go_wp2
 go_loop [8] (fun iv=>∃ i:Nat,i≤n∧iv=.int .i64 (i:Int)∧∀ p∈l.take i,p.length≤200) (fun iv=>n - (intOf iv).toNat)
 case atStart=>exact⟨0,by omega,rfl,by simp⟩
 case round=>
  obtain⟨i,hi,rfl,hall⟩:=hrel
  by_cases hin:i<n
  ·have hli:l[i]?=some l[i]:=zV (by omega)
   obtain⟨b,off,A1,c1,rfl,hb,hx,_,_,_,_⟩:=pts_at h hli
   have T1:=zZ (tooLong_any A1 l[i].length c1 w)
   have hmem:l[i]∈l:=List.getElem_mem _
   have htk:l.take (i+1)=l.take i++[l[i]]:=by rw[List.take_add_one,hli];rfl
   have Hmem:=zZ hmem
   have Htk:=zZ htk
   have Hall:=zZ hall
   clear hmem htk hall hli
   generalize l[i]=p at *
   have hil:(i:Int)<(n:Int):=by omega
   have hi0:(0:Int)≤(i:Int):=by omega
   by_cases hp:200<p.length
   ·rw[zJ hp] at T1
    go_wp2_with (first | (go_at_call 95;refine T1.out.mono ?_;rintro e w1 ⟨rfl,rfl⟩) | fail)
    go_ret
    refine⟨⟨_,rfl,?_⟩,rfl⟩
    rw[zJ hi0]
    symm
    rw[Bool.not_eq_true',List.all_eq_false]
    exact⟨p,Hmem.out,by simpa using hp⟩
   ·rw[zK hp] at T1
    go_wp2_with (first | (go_at_call 95;refine T1.out.mono ?_;rintro e w1 ⟨rfl,rfl⟩) | fail)
    go_round
    case rel=>
     refine⟨i+1,by omega,by go_num,fun q hq=>?_⟩
     rw[Htk.out] at hq
     rcases List.mem_append.1 hq with hq | hq
     ·exact Hall.out q hq
     ·simp at hq;subst hq;omega
    case measure=>simp[intOf];omega
  ·obtain rfl:i=n:=by omega
   have hl:l.all (fun p=>decide (p.length≤200))=true:=by
    rw[List.all_eq_true]
    intro p hp
    rw[decide_eq_true_iff]
    exact hall p (by rw[List.take_of_length_le (by omega)];exact hp)
   have Hl:=zZ hl
   clear hl hall
   go_wp2
   go_ret
   exact⟨⟨_,rfl,by rw[Hl.out];rfl⟩,rfl⟩
theorem containsLong_any (A:Option Addr) (n c:Nat) (l:List (List Nat)) (w:World) (h:rPts (All w) w [.slice A n c] l):
  Calls Tryz.prog 94 #[.slice A n c,.func (.func 95) #[] #[]] w fun e w'=>e=.returned (.bool (!(l.all fun p=>decide (p.length≤200))))∧w=w':=by
 have T1:=zZ (indexLong_any A n c l w h)
 go_enter Tryz.func94,Tryz.ntmps94
 go_wp2_with (first | (go_at_call 124;refine T1.out.mono ?_;rintro e w1 ⟨⟨k,rfl,hk⟩,rfl⟩) | fail)
 go_ret
 exact⟨by rw[← hk];rfl,rfl⟩
theorem flmay_any (A:Option Addr) (n c:Nat) (f:Flo) (w:World) (h:rPts (All w) w [.slice A n c] f.2):
  Calls Tryz.prog 67 #[.agg #[.int .u32 f.1,.slice A n c]] w fun e w'=>e=.returned (.bool (mayB f))∧Below w.heap.size w w':=by
 obtain⟨hn,hnc,hcm⟩:=pts_len h
 have hcm2:=hcm
 simp only[maxLen] at hcm2
 have hB:∀ u,Below w.heap.size w (w.alloc (.cells u 60)):=fun u=>(zA _ w).alloc (zW _) _
 have T1:=zZ (containsLong_any A n c f.2 (w.alloc (.cells #[.int .u32 f.1,.slice A n c] 60)) (rPts_stays.to (Keeps.below (hB _)) h))
 have hm:mayB f=(decide (n≤40) && f.2.all fun p=>decide (p.length≤200)):=by rw[mayB,hn]
 have Hm:=zZ hm
 clear hm
 generalize f.2.all (fun p=>decide (p.length≤200))=q at *
 by_cases h40:n≤40
 ·have hd:decide ((n:Int)≤40)=true:=by simp;omega
  have hd2:decide (n≤40)=true:=by simpa using h40
  rw[hd2] at Hm
  go_enter Tryz.func67,Tryz.ntmps67
  go_wp2_with (first | (go_at_call 94;refine T1.out.mono ?_;rintro e w1 ⟨rfl,rfl⟩) | fail)
  go_ret
  exact⟨by rw[Hm.out];cases q <;> rfl,hB _⟩
 ·have hd:decide ((n:Int)≤40)=false:=by simp;omega
  have hd2:decide (n≤40)=false:=by simpa using h40
  rw[hd2] at Hm
  go_enter Tryz.func67,Tryz.ntmps67
  go_wp2
  go_ret
  exact⟨by rw[Hm.out];rfl,hB _⟩
structure Only (g:Nat) (w w':World):Prop where
 size:w'.heap.size=w.heap.size
 block:∀ b,b≠g→w'.heap[b]?=w.heap[b]?
 bel:Below g w w'
theorem Only.trans {g:Nat} {a b c:World} (h:Only g a b) (k:Only g b c):Only g a c:=⟨k.size.trans h.size,fun x hx=>(k.block x hx).trans (h.block x hx),h.bel.trans k.bel⟩
theorem Only.set (g:Nat) (w:World) (j:Nat) (u:Value):Only g w (w.setCell ⟨g,j,none⟩ u):=
 ⟨by simp,fun b hb=>heap_setCell_other w ⟨g,j,none⟩ b u hb,(zA _ w).setCell (p:=⟨g,j,none⟩) (zW _) u⟩
theorem Only.drew (g:Nat) (w:World):Only g w w.drew:=⟨rfl,fun _ _=>rfl,(zA _ w).drew⟩
theorem Only.blk {g k:Nat} {w w':World} {t:TypeId} {cs:List Value} (h:Only g w w') (hk:k≠g) (hb:Blk w k t cs):Blk w' k t cs:=(h.block k hk).trans hb
theorem had_any (g:Nat) (x0 x2 x3:Value) (A:Option Addr) (n c:Nat) (w:World) (hb:Blk w g 154 [x0,.slice A n c,x2,x3]) (hn:n<9223372036854775808):
  Calls Tryz.prog 179 #[.pointer (some ⟨g,0,none⟩)] w fun e w'=>e=.returned (.int .u64 (n:Int))∧w=w':=by
 have h1:=hb.cell (j:=1) rfl
 go_enter Tryz.func179,Tryz.ntmps179
 go_wp2
 go_ret
 exact⟨ret_int (by omega),rfl⟩
theorem goOn_any (g:Nat) (x0 x3:Value) (A:Option Addr) (n c cnt:Nat) (w:World) (hb:Blk w g 154 [x0,.slice A n c,.int .u64 (cnt:Int),x3]) (hn:n<9223372036854775808):
  Calls Tryz.prog 178 #[.pointer (some ⟨g,0,none⟩)] w fun e w'=>e=.returned (.tuple #[])∧Only g w w'∧Blk w' g 154 [x0,.slice A n c,.int .u64 (cnt:Int),.int .i64 (dueOf n cnt)]:=by
 have h0:=hb.cell (j:=3) rfl
 have hf0:=hb.frozen 3
 have hb1:=hb.set 3 (.int .i64 3)
 have hO1:=Only.set g w 3 (.int .i64 3)
 simp only[zQ,zX] at hb1
 generalize hW:w.setCell ⟨g,3,none⟩ (.int .i64 3)=w1 at *
 have h1:=hb1.cell (j:=1) rfl
 have h2:=hb1.cell (j:=2) rfl
 have h3:=hb1.cell (j:=3) rfl
 have hf3:=hb1.frozen 3
 have H1:=zZ (had_any g x0 _ _ A n c w1.drew hb1 hn)
 have hb1d:Blk w1.drew g 154 [x0,.slice A n c,.int .u64 (cnt:Int),.int .i64 3]:=hb1
 have hO1d:Only g w w1.drew:=hO1.trans (Only.drew g w1)
 have hb2:=hb1d.set 3 (.int .i64 2)
 have hO2:=hO1d.trans (Only.set g w1.drew 3 (.int .i64 2))
 simp only[zQ,zX] at hb2
 have h1d:=hb1d.cell (j:=1) rfl
 have h2d:=hb1d.cell (j:=2) rfl
 have h3d:=hb1d.cell (j:=3) rfl
 have hf3d:=hb1d.frozen 3
 clear hb hb1
 have hd:dueOf n cnt=if n<cnt then 2 else 3:=rfl
 have Hd:=zZ hd
 have Hb2:=zZ hb2
 have HO2:=zZ hO2
 clear hd hb2 hO2 h1 h2 h3 hf3 hO1
 go_enter Tryz.func178,Tryz.ntmps178
 go_wp2_with fail
 refine sch_start [(0,true),(2,true),(3,true),(4,true),(5,true),(1,false),(6,true)]
  (fun W=>W.cell? ⟨g,2,none⟩=some (.int .u64 (cnt:Int))) (by kernel_rfl) rfl (by kernel_rfl) (fun _ _ _ _ _ h=>h) h2d (fun hH=>?_)
 repeat (first | (refine sch_yes (v:=?_) rfl rfl ?_ hH ?_;rotate_left;(focus ((intro W hW;go_simp) <;> with_reducible rfl));simp only[Act.put,zY,zX,zQ]) | (refine sch_no rfl rfl hH ?_;simp only[Act.put,zY,zX,zQ]))
 refine sch_call rfl rfl (fun K hK=>?_)
 go_wp2_with (go_at_call 179;refine H1.out.mono ?_;rintro e w5 ⟨rfl,rfl⟩)
 refine hK.out _ _ h2d ?_
 clear hK hH
 have hH:=h2d
 repeat (first | (refine sch_yes (v:=?_) rfl rfl ?_ hH ?_;rotate_left;(focus ((intro W hW;go_simp) <;> with_reducible rfl));simp only[Act.put,zY,zX,zQ]) | (refine sch_no rfl rfl hH ?_;simp only[Act.put,zY,zX,zQ]))
 refine sch_done ?_
 by_cases hlt:n<cnt
 ·have hl2:decide (n<cnt)=true:=zJ hlt
  rw[hl2]
  go_wp2
  go_end0
  rw[Hd.out,if_pos hlt]
  exact⟨rfl,HO2.out,Hb2.out⟩
 ·have hl2:decide (n<cnt)=false:=zK hlt
  rw[hl2]
  go_wp2
  go_end0
  rw[Hd.out,if_neg hlt]
  exact⟨rfl,hO1d,hb1d⟩
def KT (w w':World):Prop:=∀ k t cs,Blk w k t cs→t≠154→t≠29→Blk w' k t cs
theorem KT.refl (w:World):KT w w:=fun _ _ _ h _ _=>h
theorem KT.trans {a b c:World} (h:KT a b) (k:KT b c):KT a c:=fun x t cs hb h1 h2=>k x t cs (h x t cs hb h1 h2) h1 h2
theorem KT.below {w w':World} (h:Below w.heap.size w w'):KT w w':=fun _ _ _ hb _ _=>hb.below hb.lt h
theorem KT.only {g:Nat} {w w':World} {cs:List Value} (h:Only g w w') (hb:Blk w g 154 cs):KT w w':=fun k t cs' hk h1 _=>h.blk (fun e=>by
 subst e
 have:=hk.symm.trans hb
 injection this with this
 injection this with _ e2
 exact h1 e2) hk
theorem dueOf_cases (a b:Nat):dueOf a b=2∨dueOf a b=3:=by unfold dueOf;split <;> simp
structure InvS (s:RSt):Prop where
 base:s.base<4294967296
 most:s.count≤40
 few:s.parts.length≤s.count
 one:s.due=1→s.parts=[]
 two:s.due=2→s.parts.length<s.count
 dues:s.due=1∨s.due=2∨s.due=3∨s.due = -1
structure ReadsAt (B g:Nat) (s:RSt) (w:World) (A:Option Addr) (c:Nat) (xs:List Value):Prop where
 low:B≤g
 inv:InvS s
 blk:Blk w g 154 [.int .u32 (s.base:Int),.slice A s.parts.length c,.int .u64 (s.count:Int),.int .i64 s.due]
 row:w.ownsRow B 29 1 (.slice A s.parts.length c) s.parts.length xs
 parts:Chunks 1 (rBytes (fun b=>b<w.heap.size∧b≠g∧some b≠(Value.slice A s.parts.length c).ownBlock∧B≤b) w) xs s.parts
def Reads (B g:Nat) (s:RSt) (w:World):Prop:=∃ A c xs,ReadsAt B g s w A c xs
section
variable {B g : Nat} {s : RSt} {w w' : World} {A : Option Addr} {c : Nat} {xs : List Value}
theorem ReadsAt.other (h:ReadsAt B g s w A c xs):∀ k,(Value.slice A s.parts.length c).ownBlock=some k→k≠g:=by
 rintro k hk rfl
 rcases h.row.2 with⟨e,_⟩ | ⟨g',cap,cur,e,_,hg,_⟩
 ·rw[e] at hk;simp[Value.ownBlock] at hk
 ·rw[e] at hk
  simp[Value.ownBlock] at hk
  subst hk
  have:=hg.symm.trans h.blk
  injection this with this
  injection this with _ e2
  exact absurd e2 (by decide)
theorem ReadsAt.below (h:ReadsAt B g s w A c xs) (hB:Below w.heap.size w w'):ReadsAt B g s w' A c xs:=
 ⟨h.low,h.inv,h.blk.below h.blk.lt hB,own_below h.row hB,h.parts.imp fun _ _ hr=>rBytes_stays.to (fun b hb=>⟨⟨Nat.lt_of_lt_of_le hb.1 hB.size,hb.2⟩,hB.block b hb.1⟩) hr⟩
theorem ReadsAt.only (h:ReadsAt B g s w A c xs) (hO:Only g w w') {b cnt:Nat} {d:Int} (hi:InvS ⟨b,s.parts,cnt,d⟩) (hb:Blk w' g 154 [.int .u32 (b:Int),.slice A s.parts.length c,.int .u64 (cnt:Int),.int .i64 d]):ReadsAt B g ⟨b,s.parts,cnt,d⟩ w' A c xs:=by
 refine⟨h.low,hi,hb,⟨h.row.1,?_⟩,h.parts.imp fun _ _ hr=>rBytes_stays.to (fun x hx=>⟨⟨by rw[hO.size];exact hx.1,hx.2⟩,hO.block x hx.2.1⟩) hr⟩
 rcases h.row.2 with h1 | ⟨g',cap,cur,h1,h2,h3,h4⟩
 ·exact .inl h1
 ·refine .inr ⟨g',cap,cur,h1,h2,(hO.block g' ?_).trans h3,h4⟩
  exact h.other g' (by rw[h1];rfl)
end
def StepSays (B g:Nat) (w:World) (r:Option RSt) (e:Ending) (w':World):Prop:=
 Below B w w'∧KT w w'∧((r=none∧e=.returned (.iface 125 (.agg #[.int .i64 4])))∨∃ s',r=some s'∧e=.returned .nilIface∧Reads B g s' w')
theorem vall_form (A:Option Addr) (c n:Nat) (bs:List Nat) (w:World) (hn:bs.length=n) (hc:n≤c) (hb:∀ x∈bs,x<256) (hlen:n≤1048576) (hr:Rd w A (u8s bs)):
  Calls Tryz.prog 118 #[.slice A n c] w fun e w'=>∃ A' m' c' ns,e=.returned (.tuple #[.slice A' m' c',.bool (vallL bs).isSome])∧(vallL bs).getD []=ns∧ns.length=m'∧m'≤c'∧c'≤maxLen∧Rd w' A' (u64s ns)∧Below w.heap.size w w':=by
 subst hn
 refine (vall_any A c bs w hc hb hlen hr).mono fun e w' ⟨v,he,hown,hB⟩=>?_
 obtain⟨A',c',rfl,h1,h2,h3⟩:=own_in hown
 exact⟨A',_,c',_,he,rfl,rfl,h1,h2,h3.keeps (Keeps.mono fun x hx=>hx.2),hB⟩
theorem tail_says (B g:Nat) (s:RSt) (Ab:Option Addr) (n cb:Nat) (bs:List Nat) (w:World) (h:Reads B g s w) (hn:bs.length=n) (hn255:n≤255) (hc:n≤cb) (hb:∀ x∈bs,x<256) (hr:Rd w Ab (u8s bs)):
  Calls Tryz.prog 148 #[.pointer (some ⟨g,0,none⟩),.slice Ab n cb] w fun e w'=>StepSays B g w (tailS s bs) e w':=by
 obtain⟨A,c,xs,h⟩:=h
 have hlow:=h.low
 have hglt:=h.blk.lt
 have V1:=zZ (vall_form Ab cb n bs w hn hc hb (by omega) hr)
 have hts:tailS s bs=match vallL bs with | some [c]=>if c=s.count then some ⟨s.base,s.parts,s.count,-1⟩ else none | _=>none:=rfl
 have Hts:=zZ hts
 clear hts
 generalize vallL bs=va at *
 go_enter Tryz.func148,Tryz.ntmps148
 go_wp2_with fail
 refine V1.out.mono ?_
 rintro e w1 ⟨A1,m1,c1,ns,rfl,hns,hm1,hmc1,hcm1,hr1,hB1⟩
 have h1:=h.below hB1
 have hBB:Below B w w1:=hB1.mono (by omega)
 clear V1 hr
 have hx2:=h1.blk.cell (j:=2) rfl
 have hx3:=h1.blk.cell (j:=3) rfl
 have hfz:=h1.blk.frozen 3
 cases va with
 | none=>
  simp only[Option.getD_none] at hns
  subst hns
  obtain rfl:m1=0:=by simpa using hm1.symm
  go_wp2_with fail
  go_quiet (fail)
  go_wp2
  go_ret
  exact⟨below_drewN hBB nq,KT.below (below_drewN hB1 nq),.inl ⟨Hts.out,rfl⟩⟩
 | some l=>
  simp only[Option.getD_some] at hns
  subst hns
  by_cases hl1:m1=1
  ·obtain⟨x,rfl⟩:∃ x,l=[x]:=by
    match l,hm1 with
    | [x],_=>exact⟨x,rfl⟩
    | [],h=>simp at h;omega
    | _ :: _ :: _,h=>simp at h;omega
   subst hl1
   obtain⟨b1,off1,rfl,hb1,hcx⟩:=hr1.at (k:=0) (by simp)
   have hc0:=hcx 0 (.int .u64 (x:Int)) rfl
   rw[Nat.add_zero] at hc0
   simp only at Hts
   by_cases hx:x=s.count
   ·subst hx
    rw[if_pos rfl] at Hts
    go_wp2_with fail
    go_quiet (fail)
    go_wp2
    go_ret
    have h2:=h1.below (below_drewN (zA _ w1) nq)
    have hO:=Only.set g (w1.drewN nq) 3 (.int .i64 (-1))
    have hs:=h2.blk.set 3 (.int .i64 (-1))
    simp only[zQ,zX] at hs
    have h3:=h2.only hO (b:=s.base) (cnt:=s.count) (d:=-1) ⟨h2.inv.base,h2.inv.most,h2.inv.few,fun e=>by simp at e,fun e=>by simp at e,by simp⟩ hs
    exact⟨(below_drewN hBB nq).trans (hO.bel.mono hlow),(KT.below (below_drewN hB1 nq)).trans (KT.only hO h2.blk),.inr ⟨_,Hts.out,rfl,_,_,_,h3⟩⟩
   ·rw[if_neg hx] at Hts
    have hxc:((x:Int) != (s.count:Int))=true:=by rw[bne_iff_ne];omega
    go_wp2_with fail
    go_quiet (fail)
    go_wp2
    go_ret
    exact⟨below_drewN hBB nq,KT.below (below_drewN hB1 nq),.inl ⟨Hts.out,rfl⟩⟩
  ·have hm':((m1:Int) != 1)=true:=by rw[bne_iff_ne];omega
   have ht:tailS s bs=none:=by
    rw[Hts.out]
    match l,hm1 with
    | [],_=>rfl
    | [x],h=>simp at h;omega
    | _ :: _ :: _,_=>rfl
   have Ht:=zZ ht
   clear ht
   go_wp2_with fail
   go_quiet (fail)
   go_wp2
   go_ret
   exact⟨below_drewN hBB nq,KT.below (below_drewN hB1 nq),.inl ⟨Ht.out,rfl⟩⟩
theorem head_says (B g:Nat) (s:RSt) (Ab:Option Addr) (n cb:Nat) (bs:List Nat) (w:World) (h:Reads B g s w) (hdue:s.due=1) (hn:bs.length=n) (hn255:n≤255) (hc:n≤cb) (hb:∀ x∈bs,x<256) (hr:Rd w Ab (u8s bs)):
  Calls Tryz.prog 146 #[.pointer (some ⟨g,0,none⟩),.slice Ab n cb] w fun e w'=>StepSays B g w (headS s bs) e w':=by
 obtain⟨A,c,xs,h⟩:=h
 have hlow:=h.low
 have hglt:=h.blk.lt
 have hpz:=h.inv.one hdue
 have V1:=zZ (vall_form Ab cb n bs w hn hc hb (by omega) hr)
 have hts:headS s bs=match vallL bs with | some [v,b,c]=>if v=1∧b≤4294967295∧c≤40 then some ⟨b,s.parts,c,dueOf s.parts.length c⟩ else none | _=>none:=rfl
 have hvl:=vall_back n bs (by omega) hb
 have Hts:=zZ hts
 have Hvl:=zZ hvl
 clear hts hvl hdue
 generalize vallL bs=va at *
 go_enter Tryz.func146,Tryz.ntmps146
 go_wp2_with fail
 refine V1.out.mono ?_
 rintro e w1 ⟨A1,m1,c1,ns,rfl,hns,hm1,hmc1,hcm1,hr1,hB1⟩
 have h1:=h.below hB1
 have hBB:Below B w w1:=hB1.mono (by omega)
 clear V1 hr
 cases va with
 | none=>
  simp only[Option.getD_none] at hns
  subst hns
  obtain rfl:m1=0:=by simpa using hm1.symm
  go_wp2
  go_ret
  exact⟨hBB,KT.below hB1,.inl ⟨Hts.out,rfl⟩⟩
 | some l=>
  simp only[Option.getD_some] at hns
  subst hns
  by_cases hl1:m1=3
  ·obtain⟨x,y,z,rfl⟩:∃ x y z,l=[x,y,z]:=by
    match l,hm1 with
    | [x,y,z],_=>exact⟨x,y,z,rfl⟩
    | [],h=>simp at h;omega
    | [_],h=>simp at h;omega
    | [_,_],h=>simp at h;omega
    | _ :: _ :: _ :: _ :: _,h=>simp at h;omega
   subst hl1
   obtain⟨b1,off1,rfl,hb1,hcx⟩:=hr1.at (k:=0) (by simp)
   have hc0:=hcx 0 (.int .u64 (x:Int)) rfl
   have hc1:=hcx 1 (.int .u64 (y:Int)) rfl
   have hc2:=hcx 2 (.int .u64 (z:Int)) rfl
   rw[Nat.add_zero] at hc0
   simp only at Hts
   have hlt:=(Hvl.out _ rfl).2
   have hxl:=hlt x (by simp)
   have hyl:=hlt y (by simp)
   have hzl:=hlt z (by simp)
   clear hlt Hvl hcx hr1
   by_cases hx:x=1∧y≤4294967295∧z≤40
   ·rw[if_pos hx] at Hts
    obtain⟨rfl,hy,hz⟩:=hx
    have hy':decide ((4294967295:Int)<(y:Int))=false:=by simp;omega
    have hz':decide ((40:Int)<(z:Int))=false:=by simp;omega
    have hym:(y:Int) % 4294967296=(y:Int):=by omega
    go_wp2_with fail
    go_quiet (fail)
    have h2:=h1.below (below_drewN (zA _ w1) nq)
    have hBd:=below_drewN hBB nq
    have hKd:=KT.below (below_drewN hB1 nq)
    generalize w1.drewN nq=wd at *
    have hx0:=h2.blk.cell (j:=0) rfl
    have hf0:=h2.blk.frozen 0
    have hO1:=Only.set g wd 0 (.int .u32 (y:Int))
    have hb3:=h2.blk.set 0 (.int .u32 (y:Int))
    simp only[zX] at hb3
    generalize hw3:wd.setCell ⟨g,0,none⟩ (.int .u32 (y:Int))=w3 at *
    have hx2:=hb3.cell (j:=2) rfl
    have hf2:=hb3.frozen 2
    have hO2:=hO1.trans (Only.set g w3 2 (.int .u64 (z:Int)))
    have hb4:=hb3.set 2 (.int .u64 (z:Int))
    simp only[zQ,zX] at hb4
    have G1:=zZ (goOn_any g _ _ A s.parts.length c z _ hb4 (by rw[hpz];simp))
    clear hb3 hb4
    go_wp2_with fail
    refine G1.out.mono ?_
    rintro e w5 ⟨rfl,hO5,hb5⟩
    have hO6:=hO2.trans hO5
    go_wp2
    go_ret
    have h6:=h2.only hO6 (b:=y) (cnt:=z) (d:=dueOf s.parts.length z) ⟨by simp only;omega,hz,by simp only;rw[hpz];simp,fun _=>hpz,fun e=>by simp only[dueOf] at e ⊢;split at e;assumption;simp at e,by have:=dueOf_cases s.parts.length z;simp only;omega⟩ hb5
    exact⟨hBd.trans (hO6.bel.mono hlow),hKd.trans (KT.only hO6 h2.blk),.inr ⟨_,Hts.out,rfl,_,_,_,h6⟩⟩
   ·rw[if_neg hx] at Hts
    have hor:((x:Int) != 1)=true∨(((x:Int) != 1)=false∧decide ((4294967295:Int)<(y:Int))=true)∨(((x:Int) != 1)=false∧decide ((4294967295:Int)<(y:Int))=false∧decide ((40:Int)<(z:Int))=true):=by
     simp only[bne_iff_ne,bne_eq_false_iff_eq,decide_eq_true_eq,decide_eq_false_iff_not];omega
    rcases hor with h0 | ⟨h0,h3⟩ | ⟨h0,h3,h4⟩
    all_goals
     go_wp2_with fail
     go_quiet (fail)
     go_wp2
     go_ret
     exact⟨below_drewN hBB nq,KT.below (below_drewN hB1 nq),.inl ⟨Hts.out,rfl⟩⟩
  ·have hm':((m1:Int) != 3)=true:=by rw[bne_iff_ne];omega
   have ht:headS s bs=none:=by
    rw[Hts.out]
    match l,hm1 with
    | [],_=>rfl
    | [x],_=>rfl
    | [x,y],_=>rfl
    | [x,y,z],h=>simp at h;omega
    | _ :: _ :: _ :: _ :: _,_=>rfl
   have Ht:=zZ ht
   clear ht
   go_wp2
   go_ret
   exact⟨hBB,KT.below hB1,.inl ⟨Ht.out,rfl⟩⟩
theorem info_pt:(Tryz.prog.info? 29).map (fun i=>(i.zero,i.size,i.bytes))=some (some (.slice none 0 0),1,24):=by kernel_rfl
theorem ReadsAt.more {B g:Nat} {s:RSt} {w w1:World} {A A':Option Addr} {c c':Nat} {xs:List Value} {q:List Nat} (h:ReadsAt B g s w A c xs) (hB1:Below w.heap.size w w1) (hr1:RdIn (fun b=>w.heap.size≤b∧b<w1.heap.size) w1 A' (u8s q)) (hc':q.length≤c') (hm':c'≤maxLen) (hq:∀ x∈q,x<256):
  (w1.alloc (.cells #[.slice A' q.length c'] 29)).ownsRow B 29 1 (.slice A s.parts.length c) s.parts.length xs∧Rd (w1.alloc (.cells #[.slice A' q.length c'] 29)) (some ⟨w1.heap.size,0,none⟩) [.slice A' q.length c']∧B≤(w1.alloc (.cells #[.slice A' q.length c'] 29)).heap.size ∧
  ∀ v3 w3,w3.ownsRow B 29 1 v3 (s.parts.length+1) (xs++[.slice A' q.length c'])→(w1.alloc (.cells #[.slice A' q.length c'] 29)).grownBy w3 (Value.slice A s.parts.length c).ownBlock→(v3.ownBlock=(Value.slice A s.parts.length c).ownBlock∨v3.ownBlock=some (w1.alloc (.cells #[.slice A' q.length c'] 29)).heap.size) →
   Blk w3 g 154 [.int .u32 (s.base:Int),.slice A s.parts.length c,.int .u64 (s.count:Int),.int .i64 s.due]∧Below B w w3∧KT w w3∧∃ A3 c3,v3=.slice A3 (s.parts.length+1) c3 ∧
   ∀ w5 d,Only g w3 w5→InvS ⟨s.base,s.parts++[q],s.count,d⟩→Blk w5 g 154 [.int .u32 (s.base:Int),.slice A3 (s.parts.length+1) c3,.int .u64 (s.count:Int),.int .i64 d]→ReadsAt B g ⟨s.base,s.parts++[q],s.count,d⟩ w5 A3 c3 (xs++[.slice A' q.length c']):=by
 have hA:Below w1.heap.size w1 (w1.alloc (.cells #[.slice A' q.length c'] 29)):=(zA _ w1).alloc (zW _) _
 have hB2:=hB1.trans (hA.mono hB1.size)
 have hrd:=(Blk.new w1 29 [.slice A' q.length c']).rd
 have hs2:(w1.alloc (.cells #[.slice A' q.length c'] 29)).heap.size=w1.heap.size+1:=by simp
 have hk1:=hA.block
 have hs1:=hB1.size
 have hglt:=h.blk.lt
 have hlow:=h.low
 generalize w1.alloc (.cells #[.slice A' q.length c'] 29)=w2 at *
 have h2:=h.below hB2
 refine⟨h2.row,hrd,by omega,fun v3 w3 hown hg hv=>?_⟩
 have hng:some g≠(Value.slice A s.parts.length c).ownBlock:=fun e=>h.other g e.symm rfl
 have hrl:=h.row.lt
 refine⟨(hg.block g (by omega) hng).trans h2.blk,(hB2.mono (by omega)).grown hg (by omega) (fun k hk=>(hrl k hk).1),?_,?_⟩
 ·intro k t cs hk h1 h3
  have hk2:=hk.below hk.lt hB2
  refine (hg.block k hk2.lt ?_).trans hk2
  intro e
  rcases h.row.2 with⟨e1,_⟩ | ⟨g',cap,cur,e1,_,hg',_⟩
  ·rw[e1] at e;simp[Value.ownBlock] at e
  ·rw[e1] at e
   simp[Value.ownBlock] at e
   subst e
   have:=hg'.symm.trans hk
   injection this with this
   injection this with _ e2
   exact h3 e2.symm
 ·obtain⟨A3,c3,rfl⟩:=own_slice2 hown
  refine⟨A3,c3,rfl,fun w5 d hO hi hb=>?_⟩
  have hlen:(s.parts++[q]).length=s.parts.length+1:=by simp
  have hng3:∀ k,(Value.slice A3 (s.parts.length+1) c3).ownBlock=some k→k≠g:=by
   rintro k hk rfl
   rcases hv with e | e
   ·rw[e] at hk;exact hng hk.symm
   ·rw[e] at hk;injection hk with hk;omega
  have hold:∀ x,x<w.heap.size→some x≠(Value.slice A s.parts.length c).ownBlock→some x≠(Value.slice A3 (s.parts.length+1) c3).ownBlock:=fun x hx hne e=>by
   rcases hv with e1 | e1
   ·rw[e1] at e;exact hne e
   ·rw[e1] at e;injection e with e;omega
  have hk3:Keeps (fun b=>b<w.heap.size∧b≠g∧some b≠(Value.slice A s.parts.length c).ownBlock∧B≤b) (fun b=>b<w5.heap.size∧b≠g∧some b≠(Value.slice A3 (s.parts.length+1) c3).ownBlock∧B≤b) w w5:=fun x hx=>by
   refine⟨⟨by rw[hO.size];have:=hg.size;omega,hx.2.1,hold x hx.1 hx.2.2.1,hx.2.2.2⟩,?_⟩
   exact (hO.block x hx.2.1).trans ((hg.block x (by omega) hx.2.2.1).trans (hB2.block x hx.1))
  have hkn:Keeps (fun b=>w.heap.size≤b∧b<w1.heap.size) (fun b=>b<w5.heap.size∧b≠g∧some b≠(Value.slice A3 (s.parts.length+1) c3).ownBlock∧B≤b) w1 w5:=fun x hx=>by
   have hno:some x≠(Value.slice A s.parts.length c).ownBlock:=fun e=>by have:=(hrl x e.symm).2;omega
   refine⟨⟨by rw[hO.size];have:=hg.size;omega,by omega,fun e=>?_,by omega⟩,?_⟩
   ·rcases hv with e1 | e1
    ·rw[e1] at e;exact hno e
    ·rw[e1] at e;injection e with e;omega
   ·exact (hO.block x (by omega)).trans ((hg.block x (by omega) hno).trans (hk1 x hx.2))
  have hch:=(h.parts.imp (fun _ _ hr=>rBytes_stays.to hk3 hr)).append (Chunks.one (size:=1) (R:=rBytes (fun b=>b<w5.heap.size∧b≠g∧some b≠(Value.slice A3 (s.parts.length+1) c3).ownBlock∧B≤b) w5) (cs:=[.slice A' q.length c']) rfl ⟨A',c',rfl,hc',hm',hq,hr1.keeps hkn⟩)
  have hrow:w5.ownsRow B 29 1 (.slice A3 (s.parts.length+1) c3) (s.parts.length+1) (xs++[.slice A' q.length c']):=by
   refine⟨hown.1,?_⟩
   rcases hown.2 with h1 | ⟨g',cap,cur,h1,h2,h3,h4⟩
   ·exact .inl h1
   ·exact .inr ⟨g',cap,cur,h1,h2,(hO.block g' (hng3 g' (by rw[h1];rfl))).trans h3,h4⟩
  exact⟨hlow,hi,by simp only[hlen];exact hb,by simp only[hlen];exact hrow,by simp only[hlen];exact hch⟩
theorem part_says (B g:Nat) (s:RSt) (Ab:Option Addr) (n cb:Nat) (bs:List Nat) (w:World) (h:Reads B g s w) (hdue:s.due=2) (hn:bs.length=n) (hn255:n≤255) (hc:n≤cb) (hcm:cb≤maxLen) (hb:∀ x∈bs,x<256) (hr:Rd w Ab (u8s bs)):
  Calls Tryz.prog 147 #[.pointer (some ⟨g,0,none⟩),.slice Ab n cb] w fun e w'=>StepSays B g w (partS s bs) e w':=by
 obtain⟨A,c,xs,h⟩:=h
 simp only[maxLen] at hcm
 have hlow:=h.low
 have hglt:=h.blk.lt
 have hcount:=h.inv.two hdue
 have h40:=h.inv.most
 have hlt:=h.blk.lt
 have V1:=zZ (get_len Ab cb n bs w hn hb hr (by omega))
 have hts:partS s bs=if (getL bs).2≠0∧(getL bs).1=s.parts.length∧bs.length - (getL bs).2≤200 then some ⟨s.base,s.parts++[bs.drop (getL bs).2],s.count,dueOf (s.parts.length+1) s.count⟩ else none:=rfl
 have hle:=getL_le bs hb
 rw[hn] at hts hle
 obtain⟨hsz1,hsz2,hpl⟩:=hle
 have Hts:=zZ hts
 clear hts hdue
 have D1:=zZ (had_any g _ _ _ A s.parts.length c w h.blk (by omega))
 generalize (getL bs).2=size at *
 generalize (getL bs).1=place at *
 by_cases hz:size=0
 ·subst hz
  rw[if_neg (by simp)] at Hts
  go_enter Tryz.func147,Tryz.ntmps147
  go_wp2_with (first
   | (go_at_call 119;refine V1.out.mono ?_;rintro e w1 ⟨rfl,rfl⟩)
   | fail)
  go_ret
  exact⟨zA _ _,KT.refl _,.inl ⟨Hts.out,rfl⟩⟩
 ·have hz':((size:Int) == 0)=false:=by rw[beq_eq_false_iff_ne];omega
  by_cases hp:place=s.parts.length
  ·subst hp
   obtain⟨b0,off0,rfl,hb0,_⟩:=hr.at (k:=0) (by simp;omega)
   have hs1:(size:Int)≤(n:Int):=by omega
   have hs2:(n:Int)≤(cb:Int):=by omega
   have hs3:(size:Int)≤(cb:Int):=by omega
   have hs0:(0:Int)≤(size:Int):=by omega
   have T1:=zZ (fun A=>tooLong_any A (n - size) (cb - size) w)
   by_cases hlong:n - size≤200
   ·rw[if_pos ⟨hz,rfl,hlong⟩] at Hts
    obtain⟨A2,m2,c2,hcase,hd2,hr2⟩:∃ A2 m2 c2,((cb - size=0∧n - size=0∧A2=some (⟨b0,off0,none⟩:Addr)∧m2=0∧c2=0)∨(cb - size≠0∧A2=some (⟨b0,off0+size,none⟩:Addr)∧m2=n - size∧c2=cb - size))∧(bs.drop size).length=m2∧Rd w A2 (u8s (bs.drop size)):=by
     by_cases hcs:cb - size=0
     ·refine⟨_,_,_,.inl ⟨hcs,by omega,rfl,rfl,rfl⟩,by rw[List.length_drop];omega,?_⟩
      rw[List.drop_of_length_le (by omega)]
      exact .inl rfl
     ·refine⟨_,_,_,.inr ⟨hcs,rfl,rfl,rfl⟩,by rw[List.length_drop];omega,?_⟩
      rw[← u8s_drop]
      exact hr.drop size
    have hqb:∀ x∈bs.drop size,x<256:=fun x hx=>hb x (List.mem_of_mem_drop hx)
    have hm200:¬ 200<m2:=by rw[List.length_drop] at hd2;omega
    have T2:=tooLong_any A2 m2 c2 w
    rw[zK hm200] at T2
    have HT2:=zZ T2
    have C1:=zZ (clone_any A2 c2 m2 (bs.drop size) w.drew hd2 hr2 (by omega))
    obtain⟨i0,hi,hz0,hz1,hz2⟩:=info_parts info_pt
    have hx1:=h.blk.cell (j:=1) rfl
    have hother:=h.other
    have hinv:∀ d,d=dueOf (s.parts.length+1) s.count→InvS ⟨s.base,s.parts++[bs.drop size],s.count,d⟩:=fun d hd=>by
     refine⟨h.inv.base,h40,by simp only[List.length_append,List.length_cons,List.length_nil];omega,fun e=>?_,fun e=>?_,by have:=dueOf_cases (s.parts.length+1) s.count;simp only;omega⟩
     ·simp only at e;rw[hd,dueOf] at e;split at e <;> omega
     ·simp only[List.length_append,List.length_cons,List.length_nil] at e ⊢;rw[hd,dueOf] at e;split at e;omega;omega
    have Hinv:=zZ hinv
    generalize bs.drop size=q at *
    clear T1 T2 hinv hlong hr2
    have hd:ReadsAt B g s w.drew A c xs:=h.below (zA _ w).drew
    rcases hcase with⟨hcs,hn0,rfl,rfl,rfl⟩ | ⟨hcs,rfl,rfl,rfl⟩
    all_goals
     go_enter Tryz.func147,Tryz.ntmps147
     go_wp2_with (first
      | (go_at_call 119;refine V1.out.mono ?_;rintro e w1 ⟨rfl,rfl⟩)
      | (go_at_call 179;refine D1.out.mono ?_;rintro e w1 ⟨rfl,rfl⟩)
      | (go_at_call 95;refine HT2.out.mono ?_;rintro e w1 ⟨rfl,rfl⟩)
      | fail)
     refine scl_start 15 [(0,true),(1,true),(2,true),(3,true),(4,true),(5,true),(6,true),(7,true),(8,true),(9,false),(10,false),(11,false),(12,true),(13,true),(14,true),(15,false)]
      (fun W=>W.cell? ⟨g,1,none⟩=some (.slice A s.parts.length c)) (by kernel_rfl) rfl (by kernel_rfl) (fun _ _ _ _ _ h=>h) hx1 (fun hH=>?_)
     repeat (first | (refine scl_yes (v:=?_) rfl rfl ?_ hH ?_;rotate_left;(focus ((intro W hW;go_simp) <;> with_reducible rfl));simp only[Act.put,zY,zX,zQ]) | (refine scl_no rfl rfl hH ?_;simp only[Act.put,zY,zX,zQ]))
     refine scl_call rfl rfl (fun K hK=>?_)
     go_wp2_with (go_at_call 177;refine C1.out.mono ?_;rintro e w1 ⟨A',c',rfl,hc',hm',hr1,hB1⟩)
     rw[← hd2] at hc'
     obtain⟨hown2,hrd2,hsz2,hnext⟩:=hd.more hB1 hr1 hc' hm' hqb
     rw[hd2] at hown2 hrd2 hsz2 hnext
     have Hnext:=zZ hnext
     clear hnext
     refine hK.out _ _ (fun _=>(hB1.cell (p:=⟨g,1,none⟩) hglt).trans hx1) ?_
     clear hK hH
     refine scl_call rfl rfl (fun K hK=>?_)
     go_wp2
     refine hK.out _ _ (fun _=>?_) ?_
     ·exact (World.cell?_alloc_lt _ _ ⟨g,1,none⟩ (Nat.lt_of_lt_of_le hglt hB1.size)).trans ((hB1.cell (p:=⟨g,1,none⟩) hglt).trans hx1)
     clear hK
     refine scl_call rfl rfl (fun K hK=>?_)
     refine wp_app (.tmp 33) (.tmp 38) 56 rfl B 29 i0 (.slice none 0 0) 24 Tryz.underlying56 hi hz0 hz1 hz2 rfl _ s.parts.length xs rfl hown2 _ 1 1 _ rfl rfl hrd2 (by simp[Value.oneCell']) (by simp only[maxLen];omega) (by omega) hsz2 ?_
     intro v3 w3 hown3 hg3 hv3
     obtain⟨hblk3,hB3,hK3,A3,c3,rfl,hfin⟩:=Hnext.out v3 w3 hown3 hg3 hv3
     have Hfin:=zZ hfin
     clear hfin hown3 hown2 hrd2 hsz2 hv3 hg3 hr1
     have hx3:=hblk3.cell (j:=1) rfl
     have hf3:=hblk3.frozen 1
     have hH:=hx3
     refine hK.out _ _ (fun _=>hx3) ?_
     clear hK
     repeat (first | (refine scl_yes (v:=?_) rfl rfl ?_ hH ?_;rotate_left;(focus ((intro W hW;go_simp) <;> with_reducible rfl));simp only[Act.put,zY,zX,zQ]) | (refine scl_no rfl rfl hH ?_;simp only[Act.put,zY,zX,zQ]))
     refine scl_call rfl rfl (fun K hK=>?_)
     go_wp2
     refine hK.out _ _ (fun e=>absurd rfl e) ?_
     clear hK
     refine scl_done ?_
     have hO4:=Only.set g w3 1 (.slice A3 (s.parts.length+1) c3)
     have hb4:=hblk3.set 1 (.slice A3 (s.parts.length+1) c3)
     simp only[zQ,zX] at hb4
     have G1:=zZ (goOn_any g _ _ A3 (s.parts.length+1) c3 s.count _ hb4 (by omega))
     go_wp2_with fail
     refine G1.out.mono ?_
     rintro e w5 ⟨rfl,hO5,hb5⟩
     have hO6:=hO4.trans hO5
     go_wp2
     go_ret
     exact⟨(zA _ w).drew.trans (hB3.trans (hO6.bel.mono hlow)),(KT.below (zA _ w).drew).trans (hK3.trans (KT.only hO6 hblk3)),.inr ⟨_,Hts.out,rfl,_,_,_,Hfin.out w5 _ hO6 (Hinv.out _ rfl) hb5⟩⟩
   ·rw[if_neg (by omega)] at Hts
    rw[zJ (show 200<n - size by omega)] at T1
    have hcs:cb - size≠0:=by omega
    go_enter Tryz.func147,Tryz.ntmps147
    go_wp2_with (first
     | (go_at_call 119;refine V1.out.mono ?_;rintro e w1 ⟨rfl,rfl⟩)
     | (go_at_call 179;refine D1.out.mono ?_;rintro e w1 ⟨rfl,rfl⟩)
     | (go_at_call 95;refine (T1.out _).mono ?_;rintro e w1 ⟨rfl,rfl⟩)
     | fail)
    go_ret
    exact⟨zA _ _,KT.refl _,.inl ⟨Hts.out,rfl⟩⟩
  ·rw[if_neg (by simp[hp])] at Hts
   have hp':((place:Int) != (s.parts.length:Int))=true:=by rw[bne_iff_ne];omega
   go_enter Tryz.func147,Tryz.ntmps147
   go_wp2_with (first
    | (go_at_call 119;refine V1.out.mono ?_;rintro e w1 ⟨rfl,rfl⟩)
    | (go_at_call 179;refine D1.out.mono ?_;rintro e w1 ⟨rfl,rfl⟩)
    | fail)
   go_ret
   exact⟨zA _ _,KT.refl _,.inl ⟨Hts.out,rfl⟩⟩
theorem stepS_head {s:RSt} {F:Fra} (hd:s.due=1) (hF:F.1=1):stepS s F=headS s F.2:=by rw[stepS,if_neg (by rw[hd,hF];simp),if_pos hF]
theorem stepS_part {s:RSt} {F:Fra} (hd:s.due=2) (hF:F.1=2):stepS s F=partS s F.2:=by rw[stepS,if_neg (by rw[hd,hF];simp),if_neg (by omega),if_pos hF]
theorem stepS_tail {s:RSt} {F:Fra} (hd:s.due=3) (hF:F.1=3):stepS s F=tailS s F.2:=by rw[stepS,if_neg (by rw[hd,hF];simp),if_neg (by omega),if_neg (by omega)]
theorem info_arr:(Tryz.prog.info? 196).map (fun i=>(i.zero,i.size))=some (some (.agg #[.nilFunc,.nilFunc,.nilFunc,.nilFunc]),4):=by kernel_rfl
theorem fra_at2 {S:Nat→Prop} {w:World} {A0:Option Addr} {n c:Nat} {l:List Fra} {i:Nat} {f:Fra} (h:rSlice 2 rFra S w [.slice A0 n c] l) (hi:l[i]?=some f):∃ b off A c',A0=some ⟨b,off,none⟩∧S b∧w.cell? ⟨b,off+i * 2,none⟩=some (.int .i64 f.1)∧w.cell? ⟨b,off+i * 2+1,none⟩=some (.slice A f.2.length c')∧f.2.length≤c'∧c'≤maxLen∧(∀ x∈f.2,x<256)∧RdIn S w A (u8s f.2):=by
 obtain⟨A1,c1,xs,hv,hlc,hcm,hr,hl,hch⟩:=h
 obtain⟨A,c',hcs,hc1,hc2,hby,hwf,hrd⟩:=rFra_open (hch i f hi)
 have hlt:=(List.getElem?_eq_some_iff.1 hi).1
 have hA:A0=A1:=by simp at hv;exact hv.1
 subst hA
 rcases hr with h | ⟨b,off,rfl,hb,hc⟩
 ·rw[h] at hl;simp at hl;omega
 ·have h0:xs[i * 2]?=some (.int .i64 f.1):=by
   have:=congrArg (fun l:List Value=>l[0]?) hcs
   simpa [List.getElem?_take,List.getElem?_drop] using this
  have h1:xs[i * 2+1]?=some (.slice A f.2.length c'):=by
   have:=congrArg (fun l:List Value=>l[1]?) hcs
   simpa [List.getElem?_take,List.getElem?_drop] using this
  exact⟨b,off,A,c',rfl,hb,hc _ _ h0,by rw[Nat.add_assoc];exact hc _ _ h1,hc1,hc2,hby,hrd⟩
theorem StepSays.value {B g:Nat} {w w':World} {r:Option RSt} {e:Ending} (h:StepSays B g w r e w'):Below B w w'∧KT w w'∧∃ v,e=.returned v∧((r=none∧v=.iface 125 (.agg #[.int .i64 4]))∨∃ s',r=some s'∧v=.nilIface∧Reads B g s' w'):=by
 obtain⟨h1,h2,h3⟩:=h
 refine⟨h1,h2,?_⟩
 rcases h3 with⟨h4,rfl⟩ | ⟨s',h4,rfl,h5⟩
 ·exact⟨_,rfl,.inl ⟨h4,rfl⟩⟩
 ·exact⟨_,rfl,.inr ⟨s',h4,rfl,h5⟩⟩
theorem Blk.store1 {P:Program} {w:World} {g:Nat} {t:TypeId} {cs:List Value} (h:Blk w g t cs) (j:Nat) (v old:Value) (hj:cs[j]?=some old) (h1:v.oneCell'=true):(store ⟨g,j,none⟩ v).run P w=.ok () (w.setCell ⟨g,j,none⟩ v):=by
 rw[run_store P w ⟨g,j,none⟩ v _ h1]
 simp[h.cell hj,h.frozen j]
theorem run_says (B g:Nat) (s:RSt) (A0:Option Addr) (n c:Nat) (fr:List Fra) (w:World) (h:Reads B g s w) (hfr:rSlice 2 rFra (fun b=>b<B) w [.slice A0 n c] fr) (hfit:∀ x∈fr,Fit x):
  Calls Tryz.prog 112 #[.pointer (some ⟨g,0,none⟩),.slice A0 n c] w fun e w'=>Below B w w'∧((runS s fr=none∧e=.returned (.iface 125 (.agg #[.int .i64 4])))∨∃ s',runS s fr=some s'∧e=.returned .nilIface∧Reads B g s' w'):=by
 have hglt:g<w.heap.size:=by obtain⟨A,c,xs,h⟩:=h;exact h.blk.lt
 have hlow:B≤g:=by obtain⟨A,c,xs,h⟩:=h;exact h.low
 obtain⟨hn,hnc,hcm⟩:=rows_len hfr
 simp only[maxLen] at hcm
 obtain⟨hz,hsz⟩:=zero_of_info info_arr
 have hmf:∀ (fn:Fn) (first cap:Array Value) (w:World),(Instr.makeFunc fn first cap).run Tryz.prog w=.ok (.func fn first cap) w:=fun _ _ _ _=>rfl
 have b0:=Blk.new w 196 [.nilFunc,.nilFunc,.nilFunc,.nilFunc]
 have hB0:Below w.heap.size w (w.alloc (.cells #[.nilFunc,.nilFunc,.nilFunc,.nilFunc] 196)):=(zA _ w).alloc (zW _) _
 generalize hW0:w.alloc (.cells #[.nilFunc,.nilFunc,.nilFunc,.nilFunc] 196)=W0 at *
 have f0:=b0.store1 (P:=Tryz.prog) 0 .nilFunc _ rfl rfl
 have b1:=b0.set 0 .nilFunc
 have hB1:=hB0.setCell (p:=⟨w.heap.size,0,none⟩) (zW _) .nilFunc
 generalize hW1:W0.setCell ⟨w.heap.size,0,none⟩ .nilFunc=W1 at *
 have f1:=b1.store1 (P:=Tryz.prog) 1 (.func (.func 146) #[.pointer (some ⟨g,0,none⟩)] #[]) _ rfl rfl
 have b2:=b1.set 1 (.func (.func 146) #[.pointer (some ⟨g,0,none⟩)] #[])
 have hB2:=hB1.setCell (p:=⟨w.heap.size,1,none⟩) (zW _) (.func (.func 146) #[.pointer (some ⟨g,0,none⟩)] #[])
 generalize hW2:W1.setCell ⟨w.heap.size,1,none⟩ _=W2 at *
 have f2:=b2.store1 (P:=Tryz.prog) 2 (.func (.func 147) #[.pointer (some ⟨g,0,none⟩)] #[]) _ rfl rfl
 have b3:=b2.set 2 (.func (.func 147) #[.pointer (some ⟨g,0,none⟩)] #[])
 have hB3:=hB2.setCell (p:=⟨w.heap.size,2,none⟩) (zW _) (.func (.func 147) #[.pointer (some ⟨g,0,none⟩)] #[])
 generalize hW3:W2.setCell ⟨w.heap.size,2,none⟩ _=W3 at *
 have f3:=b3.store1 (P:=Tryz.prog) 3 (.func (.func 148) #[.pointer (some ⟨g,0,none⟩)] #[]) _ rfl rfl
 have b4:=b3.set 3 (.func (.func 148) #[.pointer (some ⟨g,0,none⟩)] #[])
 have hB4:=hB3.setCell (p:=⟨w.heap.size,3,none⟩) (zW _) (.func (.func 148) #[.pointer (some ⟨g,0,none⟩)] #[])
 generalize hW4:W3.setCell ⟨w.heap.size,3,none⟩ _=W4 at *
 simp only[zX,zQ] at b4
 clear b0 b1 b2 b3 hB0 hB1 hB2 hB3
 go_enter Tryz.func112,Tryz.ntmps112
 go_wp2_with fail
 have hR4:Reads B g s W4:=by obtain⟨A,c,xs,h⟩:=h;exact⟨A,c,xs,h.below hB4⟩
 have hBB:Below B w W4:=hB4.mono (by omega)
 clear f0 f1 f2 f3 hW0 hW1 hW2 hW3 hW4 hB4 hz hsz hmf h
 go_loopw [18] (fun iv wr=>∃ (i:Nat) (si:RSt),i≤n∧iv=.int .i64 (i:Int)∧Hid (runS s fr=runS si (fr.drop i))∧Reads B g si wr∧Below B w wr∧Blk wr w.heap.size 196 [.nilFunc,.func (.func 146) #[.pointer (some ⟨g,0,none⟩)] #[],.func (.func 147) #[.pointer (some ⟨g,0,none⟩)] #[],.func (.func 148) #[.pointer (some ⟨g,0,none⟩)] #[]]) (fun iv _=>n - (intOf iv).toNat)
 case atStart=>exact⟨0,s,by omega,rfl,zZ rfl,hR4,hBB,b4⟩
 case round=>
  obtain⟨i,si,hile,rfl,Hrun,hR,hB,hK⟩:=hrel
  clear b4 hR4 hBB
  by_cases hin:i<n
  ·obtain⟨F,hli⟩:∃ F,fr[i]?=some F:=⟨fr[i],zV (by omega)⟩
   obtain⟨b1,off1,A1,c1,rfl,hb1,hx1,hy1,hfc1,hfm1,hby1,hr1⟩:=fra_at2 hfr hli
   have hx1':=(hB.cell (p:=⟨b1,off1+i * 2,none⟩) hb1).trans hx1
   have hy1':=(hB.cell (p:=⟨b1,off1+i * 2+1,none⟩) hb1).trans hy1
   obtain⟨hk0,hk1,hk2,_⟩:=hfit F (List.mem_of_getElem? hli)
   have hdrop:fr.drop i=F :: fr.drop (i+1):=by
    obtain⟨hlt,he⟩:=List.getElem?_eq_some_iff.1 hli
    rw[List.drop_eq_getElem_cons hlt,he]
   have hrun:runS s fr=(stepS si F).bind fun t=>runS t (fr.drop (i+1)):=by rw[Hrun.out,hdrop];rfl
   have Hrun2:=zZ hrun
   have Hr1:=zZ hr1
   clear hrun hdrop hli hx1 hy1 Hrun hr1
   have hil:(i:Int)<(n:Int):=by omega
   have hi0:(0:Int)≤(i:Int):=by omega
   have hBa:Below wr.heap.size wr (wr.alloc (.cells #[.int .i64 F.1,.slice A1 F.2.length c1] 88)):=(zA _ wr).alloc (zW _) _
   have hBw:Below B w (wr.alloc (.cells #[.int .i64 F.1,.slice A1 F.2.length c1] 88)):=by
    obtain⟨Ar,cr,xr,hR⟩:=hR
    exact hB.trans (hBa.mono (by have:=hR.blk.lt;omega))
   obtain⟨Ar,cr,xr,hRA⟩:=hR
   have hRB:=hRA.below hBa
   have hKB:=hK.below hK.lt hBa
   have hxb:=Blk.new wr 88 [.int .i64 F.1,.slice A1 F.2.length c1]
   have hd3:=hRB.blk.cell (j:=3) rfl
   by_cases hne:F.1=si.due
   ·have hdues:=hRA.inv.dues
    rw[← hne] at hdues hd3
    rcases hdues with hd | hd | hd | hd
    ·have C1:∀ W,Reads B g si W→Rd W A1 (u8s F.2)→Calls Tryz.prog 146 #[.pointer (some ⟨g,0,none⟩),.slice A1 F.2.length c1] W fun e w'=>StepSays B g W (stepS si F) e w':=fun W h1 h2=>by
      rw[stepS_head (hne ▸ hd) hd]
      exact head_says B g si A1 F.2.length c1 F.2 W h1 (hne ▸ hd) rfl hk2 hfc1 hby1 h2
     have HC:=zZ C1
     rw[hd] at hx1' hBa hBw hRB hKB hxb hd3
     clear C1 hne hRA hK
     go_wp2_with fail
     go_quiet (fail)
     have hRd:=(hRB.below (below_drewN (zA _ _) nq)).below (zA _ _).drew
     have hKd:=(hKB.below hKB.lt (below_drewN (zA _ _) nq)).below hKB.lt (zA _ _).drew
     have hxd:=(hxb.below hxb.lt (below_drewN (zA _ _) nq)).below hxb.lt (zA _ _).drew
     have hBd:=(below_drewN hBw nq).drew
     clear hRB hKB hxb hBw hBa hd3
     generalize (wr.alloc (.cells #[.int .i64 1,.slice A1 F.2.length c1] 88)).drewN nq=wd at *
     have hC2:=zZ (HC.out wd.drew ⟨_,_,_,hRd⟩ ((Hr1.out.keeps (S':=fun b=>b<wd.drew.heap.size) fun x hx=>⟨Nat.lt_of_lt_of_le hx (by have:=hRd.blk.lt;omega),hBd.block x hx⟩)))
     have hS0:=And.intro (hxd.cell (j:=0) rfl) (And.intro (hxd.cell (j:=1) rfl) (hKd.cell (j:=1) rfl))
     clear HC
     go_wp2_with fail
     refine sch_start [(0,true),(1,true),(2,true),(3,true),(4,true),(5,true),(6,false),(7,true)]
      (fun W=>W.cell? ⟨wr.heap.size,0,none⟩=some (.int .i64 1)∧W.cell? ⟨wr.heap.size,1,none⟩=some (.slice A1 F.2.length c1)∧W.cell? ⟨w.heap.size,1,none⟩=some (.func (.func 146) #[.pointer (some ⟨g,0,none⟩)] #[])) (by kernel_rfl) rfl (by kernel_rfl) (fun _ _ _ _ _ h=>h) hS0 (fun hH=>?_)
     repeat (first | (refine sch_yes (v:=?_) rfl rfl ?_ hH ?_;rotate_left;(focus ((rintro W ⟨hW1,hW2,hW3⟩;go_simp) <;> with_reducible rfl));simp only[Act.put,zY,zX,zQ]) | (refine sch_no rfl rfl hH ?_;simp only[Act.put,zY,zX,zQ]))
     refine sch_call rfl rfl (fun K hK=>?_)
     go_wp2_with (go_at_call 146;refine hC2.out.mono ?_;intro e w5 hst;obtain⟨hB5,hK5,v5,rfl,hor⟩:=hst.value)
     have hx5:=hK5 _ _ _ hxd (by decide) (by decide)
     have hk5:=hK5 _ _ _ hKd (by decide) (by decide)
     have hS5:=And.intro (hx5.cell (j:=0) rfl) (And.intro (hx5.cell (j:=1) rfl) (hk5.cell (j:=1) rfl))
     have hB6:=hBd.trans hB5
     clear hH hxd hKd hRd hC2 hS0 hK5 hB5
     rcases hor with⟨hn5,rfl⟩ | ⟨s5,hs5,rfl,hR5⟩
     ·have hnone:runS s fr=none:=by rw[Hrun2.out,hn5];rfl
      have Hn:=zZ hnone
      clear hnone hn5
      have hH:=hS5
      refine hK.out _ _ hS5 ?_
      clear hK
      repeat (first | (refine sch_yes (v:=?_) rfl rfl ?_ hH ?_;rotate_left;(focus ((rintro W ⟨hW1,hW2,hW3⟩;go_simp) <;> with_reducible rfl));simp only[Act.put,zY,zX,zQ]) | (refine sch_no rfl rfl hH ?_;simp only[Act.put,zY,zX,zQ]))
      refine sch_done ?_
      go_wp2
      go_ret
      exact⟨hB6,.inl ⟨Hn.out,rfl⟩⟩
     ·have hsome:runS s fr=runS s5 (fr.drop (i+1)):=by rw[Hrun2.out,hs5];rfl
      have Hs:=zZ hsome
      clear hsome hs5
      have hH:=hS5
      refine hK.out _ _ hS5 ?_
      clear hK
      repeat (first | (refine sch_yes (v:=?_) rfl rfl ?_ hH ?_;rotate_left;(focus ((rintro W ⟨hW1,hW2,hW3⟩;go_simp) <;> with_reducible rfl));simp only[Act.put,zY,zX,zQ]) | (refine sch_no rfl rfl hH ?_;simp only[Act.put,zY,zX,zQ]))
      refine sch_done ?_
      go_wp2
      go_roundw
      case rel=>exact⟨i+1,s5,by omega,by go_num,Hs,hR5,hB6,hk5⟩
      case measure=>simp[intOf];omega
    ·have C1:∀ W,Reads B g si W→Rd W A1 (u8s F.2)→Calls Tryz.prog 147 #[.pointer (some ⟨g,0,none⟩),.slice A1 F.2.length c1] W fun e w'=>StepSays B g W (stepS si F) e w':=fun W h1 h2=>by
      rw[stepS_part (hne ▸ hd) hd]
      exact part_says B g si A1 F.2.length c1 F.2 W h1 (hne ▸ hd) rfl hk2 hfc1 hfm1 hby1 h2
     have HC:=zZ C1
     rw[hd] at hx1' hBa hBw hRB hKB hxb hd3
     clear C1 hne hRA hK
     go_wp2_with fail
     go_quiet (fail)
     have hRd:=(hRB.below (below_drewN (zA _ _) nq)).below (zA _ _).drew
     have hKd:=(hKB.below hKB.lt (below_drewN (zA _ _) nq)).below hKB.lt (zA _ _).drew
     have hxd:=(hxb.below hxb.lt (below_drewN (zA _ _) nq)).below hxb.lt (zA _ _).drew
     have hBd:=(below_drewN hBw nq).drew
     clear hRB hKB hxb hBw hBa hd3
     generalize (wr.alloc (.cells #[.int .i64 2,.slice A1 F.2.length c1] 88)).drewN nq=wd at *
     have hC2:=zZ (HC.out wd.drew ⟨_,_,_,hRd⟩ ((Hr1.out.keeps (S':=fun b=>b<wd.drew.heap.size) fun x hx=>⟨Nat.lt_of_lt_of_le hx (by have:=hRd.blk.lt;omega),hBd.block x hx⟩)))
     have hS0:=And.intro (hxd.cell (j:=0) rfl) (And.intro (hxd.cell (j:=1) rfl) (hKd.cell (j:=2) rfl))
     clear HC
     go_wp2_with fail
     refine sch_start [(0,true),(1,true),(2,true),(3,true),(4,true),(5,true),(6,false),(7,true)]
      (fun W=>W.cell? ⟨wr.heap.size,0,none⟩=some (.int .i64 2)∧W.cell? ⟨wr.heap.size,1,none⟩=some (.slice A1 F.2.length c1)∧W.cell? ⟨w.heap.size,2,none⟩=some (.func (.func 147) #[.pointer (some ⟨g,0,none⟩)] #[])) (by kernel_rfl) rfl (by kernel_rfl) (fun _ _ _ _ _ h=>h) hS0 (fun hH=>?_)
     repeat (first | (refine sch_yes (v:=?_) rfl rfl ?_ hH ?_;rotate_left;(focus ((rintro W ⟨hW1,hW2,hW3⟩;go_simp) <;> with_reducible rfl));simp only[Act.put,zY,zX,zQ]) | (refine sch_no rfl rfl hH ?_;simp only[Act.put,zY,zX,zQ]))
     refine sch_call rfl rfl (fun K hK=>?_)
     go_wp2_with (go_at_call 147;refine hC2.out.mono ?_;intro e w5 hst;obtain⟨hB5,hK5,v5,rfl,hor⟩:=hst.value)
     have hx5:=hK5 _ _ _ hxd (by decide) (by decide)
     have hk5:=hK5 _ _ _ hKd (by decide) (by decide)
     have hS5:=And.intro (hx5.cell (j:=0) rfl) (And.intro (hx5.cell (j:=1) rfl) (hk5.cell (j:=2) rfl))
     have hB6:=hBd.trans hB5
     clear hH hxd hKd hRd hC2 hS0 hK5 hB5
     rcases hor with⟨hn5,rfl⟩ | ⟨s5,hs5,rfl,hR5⟩
     ·have hnone:runS s fr=none:=by rw[Hrun2.out,hn5];rfl
      have Hn:=zZ hnone
      clear hnone hn5
      have hH:=hS5
      refine hK.out _ _ hS5 ?_
      clear hK
      repeat (first | (refine sch_yes (v:=?_) rfl rfl ?_ hH ?_;rotate_left;(focus ((rintro W ⟨hW1,hW2,hW3⟩;go_simp) <;> with_reducible rfl));simp only[Act.put,zY,zX,zQ]) | (refine sch_no rfl rfl hH ?_;simp only[Act.put,zY,zX,zQ]))
      refine sch_done ?_
      go_wp2
      go_ret
      exact⟨hB6,.inl ⟨Hn.out,rfl⟩⟩
     ·have hsome:runS s fr=runS s5 (fr.drop (i+1)):=by rw[Hrun2.out,hs5];rfl
      have Hs:=zZ hsome
      clear hsome hs5
      have hH:=hS5
      refine hK.out _ _ hS5 ?_
      clear hK
      repeat (first | (refine sch_yes (v:=?_) rfl rfl ?_ hH ?_;rotate_left;(focus ((rintro W ⟨hW1,hW2,hW3⟩;go_simp) <;> with_reducible rfl));simp only[Act.put,zY,zX,zQ]) | (refine sch_no rfl rfl hH ?_;simp only[Act.put,zY,zX,zQ]))
      refine sch_done ?_
      go_wp2
      go_roundw
      case rel=>exact⟨i+1,s5,by omega,by go_num,Hs,hR5,hB6,hk5⟩
      case measure=>simp[intOf];omega
    ·have C1:∀ W,Reads B g si W→Rd W A1 (u8s F.2)→Calls Tryz.prog 148 #[.pointer (some ⟨g,0,none⟩),.slice A1 F.2.length c1] W fun e w'=>StepSays B g W (stepS si F) e w':=fun W h1 h2=>by
      rw[stepS_tail (hne ▸ hd) hd]
      exact tail_says B g si A1 F.2.length c1 F.2 W h1 rfl hk2 hfc1 hby1 h2
     have HC:=zZ C1
     rw[hd] at hx1' hBa hBw hRB hKB hxb hd3
     clear C1 hne hRA hK
     go_wp2_with fail
     go_quiet (fail)
     have hRd:=(hRB.below (below_drewN (zA _ _) nq)).below (zA _ _).drew
     have hKd:=(hKB.below hKB.lt (below_drewN (zA _ _) nq)).below hKB.lt (zA _ _).drew
     have hxd:=(hxb.below hxb.lt (below_drewN (zA _ _) nq)).below hxb.lt (zA _ _).drew
     have hBd:=(below_drewN hBw nq).drew
     clear hRB hKB hxb hBw hBa hd3
     generalize (wr.alloc (.cells #[.int .i64 3,.slice A1 F.2.length c1] 88)).drewN nq=wd at *
     have hC2:=zZ (HC.out wd.drew ⟨_,_,_,hRd⟩ ((Hr1.out.keeps (S':=fun b=>b<wd.drew.heap.size) fun x hx=>⟨Nat.lt_of_lt_of_le hx (by have:=hRd.blk.lt;omega),hBd.block x hx⟩)))
     have hS0:=And.intro (hxd.cell (j:=0) rfl) (And.intro (hxd.cell (j:=1) rfl) (hKd.cell (j:=3) rfl))
     clear HC
     go_wp2_with fail
     refine sch_start [(0,true),(1,true),(2,true),(3,true),(4,true),(5,true),(6,false),(7,true)]
      (fun W=>W.cell? ⟨wr.heap.size,0,none⟩=some (.int .i64 3)∧W.cell? ⟨wr.heap.size,1,none⟩=some (.slice A1 F.2.length c1)∧W.cell? ⟨w.heap.size,3,none⟩=some (.func (.func 148) #[.pointer (some ⟨g,0,none⟩)] #[])) (by kernel_rfl) rfl (by kernel_rfl) (fun _ _ _ _ _ h=>h) hS0 (fun hH=>?_)
     repeat (first | (refine sch_yes (v:=?_) rfl rfl ?_ hH ?_;rotate_left;(focus ((rintro W ⟨hW1,hW2,hW3⟩;go_simp) <;> with_reducible rfl));simp only[Act.put,zY,zX,zQ]) | (refine sch_no rfl rfl hH ?_;simp only[Act.put,zY,zX,zQ]))
     refine sch_call rfl rfl (fun K hK=>?_)
     go_wp2_with (go_at_call 148;refine hC2.out.mono ?_;intro e w5 hst;obtain⟨hB5,hK5,v5,rfl,hor⟩:=hst.value)
     have hx5:=hK5 _ _ _ hxd (by decide) (by decide)
     have hk5:=hK5 _ _ _ hKd (by decide) (by decide)
     have hS5:=And.intro (hx5.cell (j:=0) rfl) (And.intro (hx5.cell (j:=1) rfl) (hk5.cell (j:=3) rfl))
     have hB6:=hBd.trans hB5
     clear hH hxd hKd hRd hC2 hS0 hK5 hB5
     rcases hor with⟨hn5,rfl⟩ | ⟨s5,hs5,rfl,hR5⟩
     ·have hnone:runS s fr=none:=by rw[Hrun2.out,hn5];rfl
      have Hn:=zZ hnone
      clear hnone hn5
      have hH:=hS5
      refine hK.out _ _ hS5 ?_
      clear hK
      repeat (first | (refine sch_yes (v:=?_) rfl rfl ?_ hH ?_;rotate_left;(focus ((rintro W ⟨hW1,hW2,hW3⟩;go_simp) <;> with_reducible rfl));simp only[Act.put,zY,zX,zQ]) | (refine sch_no rfl rfl hH ?_;simp only[Act.put,zY,zX,zQ]))
      refine sch_done ?_
      go_wp2
      go_ret
      exact⟨hB6,.inl ⟨Hn.out,rfl⟩⟩
     ·have hsome:runS s fr=runS s5 (fr.drop (i+1)):=by rw[Hrun2.out,hs5];rfl
      have Hs:=zZ hsome
      clear hsome hs5
      have hH:=hS5
      refine hK.out _ _ hS5 ?_
      clear hK
      repeat (first | (refine sch_yes (v:=?_) rfl rfl ?_ hH ?_;rotate_left;(focus ((rintro W ⟨hW1,hW2,hW3⟩;go_simp) <;> with_reducible rfl));simp only[Act.put,zY,zX,zQ]) | (refine sch_no rfl rfl hH ?_;simp only[Act.put,zY,zX,zQ]))
      refine sch_done ?_
      go_wp2
      go_roundw
      case rel=>exact⟨i+1,s5,by omega,by go_num,Hs,hR5,hB6,hk5⟩
      case measure=>simp[intOf];omega
    ·omega
   ·have hne':(F.1 != si.due)=true:=by rw[bne_iff_ne];exact hne
    have hnone:runS s fr=none:=by rw[Hrun2.out,stepS,if_pos hne];rfl
    have Hn:=zZ hnone
    clear hnone hne
    go_wp2_with fail
    go_quiet (fail)
    go_wp2
    go_ret
    exact⟨below_drewN hBw nq,.inl ⟨Hn.out,rfl⟩⟩
  ·obtain rfl:i=n:=by omega
   rw[List.drop_of_length_le (by omega)] at Hrun
   obtain⟨Ar,cr,xr,hRA⟩:=hR
   have hd3:=hRA.blk.cell (j:=3) rfl
   by_cases hd:si.due = -1
   ·have hd':(si.due != -1)=false:=by rw[bne_eq_false_iff_eq];exact hd
    have hs:runS s fr=some si:=by rw[Hrun.out,runS,if_pos hd]
    have Hs:=zZ hs
    clear hs hd Hrun
    go_wp2
    go_ret
    exact⟨hB,.inr ⟨si,Hs.out,rfl,_,_,_,hRA⟩⟩
   ·have hd':(si.due != -1)=true:=by rw[bne_iff_ne];exact hd
    have hs:runS s fr=none:=by rw[Hrun.out,runS,if_neg hd]
    have Hs:=zZ hs
    clear hs hd Hrun
    go_wp2
    go_ret
    exact⟨hB,.inl ⟨Hs.out,rfl⟩⟩
theorem info_flo:(Tryz.prog.info? 60).map (fun i=>(i.zero,i.size))=some (some (.agg #[.int .u32 0,.slice none 0 0]),2):=by kernel_rfl
theorem info_rdr:(Tryz.prog.info? 154).map (fun i=>(i.zero,i.size))=some (some (.agg #[.int .u32 0,.slice none 0 0,.int .u64 0,.int .i64 0]),4):=by kernel_rfl
theorem frames_avoid {S:Nat→Prop} {w:World} {B:Option Addr} {n d z:Nat} {l:List Fra} (h:rSlice 2 rFra S w [.slice B n d] l) (h1:∀ j k,w.cell? ⟨z,j,none⟩≠some (.int .i64 k)) (h2:∀ j k,w.cell? ⟨z,j,none⟩≠some (.int .u8 k)):rSlice 2 rFra (fun b=>S b∧b≠z) w [.slice B n d] l:=by
 obtain⟨A,c,xs,hv,hc,hm,hr,hl,hch⟩:=h
 refine⟨A,c,xs,hv,hc,hm,?_,hl,fun i f hi=>?_⟩
 ·rcases hr with h | ⟨b,off,e,hb,hcell⟩
  ·exact .inl h
  ·cases l with
   | nil=>exact .inl (List.eq_nil_of_length_eq_zero (by simpa using hl))
   | cons f l=>
    refine .inr ⟨b,off,e,⟨hb,?_⟩,hcell⟩
    rintro rfl
    obtain⟨A',c',hcs,_⟩:=rFra_open (hch 0 f rfl)
    have h0:xs[0]?=some (.int .i64 f.1):=by
     have:=congrArg (fun l:List Value=>l[0]?) hcs
     simpa [List.getElem?_take,List.getElem?_drop] using this
    exact h1 _ _ (hcell 0 _ h0)
 ·obtain⟨q1,q2,A',c',q3,q4,q5,q6,q7⟩:=hch i f hi
  refine⟨q1,q2,A',c',q3,q4,q5,q6,?_⟩
  rcases q7 with h | ⟨b,off,e,hb,hcell⟩
  ·exact .inl h
  ·cases hf:f.2 with
   | nil=>exact .inl rfl
   | cons x r=>
    rw[hf] at hcell
    refine .inr ⟨b,off,e,⟨hb,?_⟩,hcell⟩
    rintro rfl
    exact h2 _ _ (hcell 0 _ rfl)
theorem blk_none {w:World} {z:Nat} {t:TypeId} (h:Blk w z t [.int .u32 0,.slice none 0 0]):(∀ j k,w.cell? ⟨z,j,none⟩≠some (.int .i64 k))∧∀ j k,w.cell? ⟨z,j,none⟩≠some (.int .u8 k):=by
 constructor
 all_goals
  intro j k e
  rw[cell_of_row w z j _ t (0,0) h] at e
  match j with
  | 0=>simp at e
  | 1=>simp at e
  | j+2=>simp at e
theorem ReadsAt.pts {B g:Nat} {s:RSt} {w:World} {A:Option Addr} {c:Nat} {xs:List Value} (h:ReadsAt B g s w A c xs):rPts (fun b=>b<w.heap.size∧B≤b) w [.slice A s.parts.length c] s.parts:=by
 have hch:=h.parts.imp (R':=rBytes (fun b=>b<w.heap.size∧B≤b) w) fun cs a hr=>rBytes_stays.to (Keeps.mono fun b hb=>⟨hb.1,hb.2.2.2⟩) hr
 obtain⟨A',c',hv,h1,h2,h3⟩:=own_in h.row
 injection hv with e1 _ e3
 subst e1 e3
 exact⟨A,c,xs,rfl,h1,h2,h3.keeps (Keeps.mono fun b hb=>⟨hb.2,hb.1⟩),hch⟩
def ReadSays (lo:Nat) (bs:List Nat) (v:Value) (w':World):Prop:=
 ((getFl bs).2≠0∧v=.tuple #[.agg #[.int .u32 0,.slice none 0 0],.slice none 0 0,.iface 125 (.agg #[.int .i64 ((getFl bs).2:Int)])]) ∨
 ((getFl bs).2=0∧∃ A c B d,v=.tuple #[.agg #[.int .u32 (getFl bs).1.1,.slice A (getFl bs).1.2.length c],.slice B ((getFl bs).1.2.length+2) d,.nilIface]∧rPts (fun b=>b<w'.heap.size∧lo≤b) w' [.slice A (getFl bs).1.2.length c] (getFl bs).1.2∧rSlice 2 rFra (All w') w' [.slice B ((getFl bs).1.2.length+2) d] (framesF (getFl bs).1))
theorem all_form (A:Option Addr) (c n:Nat) (bs:List Nat) (w:World) (hn:bs.length=n) (hc:n≤c) (hb:∀ x∈bs,x<256) (hr:Rd w A (u8s bs)) (hlen:n≤1000000000):
  Calls Tryz.prog 111 #[.slice A n c] w fun e w'=>∃ B d,e=.returned (.tuple #[.slice B (allL bs).2.length d,.int .i64 ((allL bs).1:Int)])∧rSlice 2 rFra (All w') w' [.slice B (allL bs).2.length d] (allL bs).2∧Below w.heap.size w w':=
 (all_any A c n bs w hn hc hb hr hlen).mono fun e w' ⟨v,he,hs,hB⟩=>by
  obtain⟨B,d,xs,hv,h1⟩:=hs
  simp at hv
  subst hv
  exact⟨B,d,he,⟨B,d,xs,rfl,h1⟩,hB⟩
theorem flread_any (A:Option Addr) (c n:Nat) (bs:List Nat) (w:World) (hn:bs.length=n) (hc:n≤c) (hb:∀ x∈bs,x<256) (hr:Rd w A (u8s bs)) (hlen:n≤1000000000):
  Calls Tryz.prog 82 #[.slice A n c] w fun e w'=>∃ v,e=.returned v∧ReadSays w.heap.size bs v w'∧Below w.heap.size w w':=by
 obtain⟨hz,hsz⟩:=zero_of_info info_flo
 obtain⟨hz2,hsz2⟩:=zero_of_info info_rdr
 have hB0:Below w.heap.size w (w.alloc (.cells #[.int .u32 0,.slice none 0 0] 60)):=(zA _ w).alloc (zW _) _
 have hz0:=Blk.new w 60 [.int .u32 0,.slice none 0 0]
 have G1:=zZ (all_form A c n bs _ hn hc hb (hr.below hB0) hlen)
 have hback:=allL_back bs.length bs (zW _) hb
 have hgf:getFl bs=if (allL bs).1≠0 then ((0,[]),(allL bs).1) else match flowOf (allL bs).2 with | some f=>(f,0) | none=>((0,[]),4):=rfl
 have hgb:=fun h=>getFl_back (bs:=bs) hb h
 have Hgf:=zZ hgf
 have Hgb:=zZ hgb
 have Hback:=zZ hback
 clear hgf hgb hback
 generalize hal:allL bs=al at *
 have Hal:=zZ hal
 clear hal
 go_enter Tryz.func82,Tryz.ntmps82
 go_wp2_with fail
 refine G1.out.mono ?_
 rintro e w1 ⟨B1,d1,rfl,hsl,hB1⟩
 have hz1:=hz0.below hz0.lt hB1
 have hBw:=hB0.trans (hB1.mono hB0.size)
 clear G1 hz0
 have hzl:=hz1.lt
 have hx0:=hz1.cell (j:=0) rfl
 have hx1:=hz1.cell (j:=1) rfl
 have hf0:=hz1.frozen 0
 have hf1:=hz1.frozen 1
 by_cases he:al.1=0
 ·obtain⟨hcat,hfit⟩:=Hback.out he
  have he':((al.1:Int) != 0)=false:=by rw[bne_eq_false_iff_eq];omega
  have hBa:Below w1.heap.size w1 (w1.alloc (.cells #[.int .u32 0,.slice none 0 0,.int .u64 0,.int .i64 1] 154)):=(zA _ w1).alloc (zW _) _
  have hRs:Reads w1.heap.size w1.heap.size startS (w1.alloc (.cells #[.int .u32 0,.slice none 0 0,.int .u64 0,.int .i64 1] 154)):=
   ⟨none,0,[],zW _,⟨by simp[startS],by simp[startS],by simp[startS],fun _=>rfl,fun e=>by simp[startS] at e,by simp[startS]⟩,Blk.new w1 154 [.int .u32 0,.slice none 0 0,.int .u64 0,.int .i64 1],World.ownsRow_nil _ _ _ _,Chunks.nil⟩
  have R1:=zZ (run_says w1.heap.size w1.heap.size startS B1 al.2.length d1 al.2 _ hRs ((rSlice_stays rFra_stays).to (fun x hx=>⟨hx,hBa.block x hx⟩) hsl) hfit)
  have Hfit:=zZ hfit
  clear hfit hcat hRs
  go_wp2_with fail
  refine R1.out.mono ?_
  rintro e w2 ⟨hB2,(⟨hn2,rfl⟩ | ⟨s2,hs2,rfl,A2,c2,xs2,hR2⟩)⟩
  ·have hg:getFl bs=((0,[]),4):=by rw[Hgf.out,if_neg (by simpa using he),flowOf,hn2];rfl
   have Hg:=zZ hg
   have hB3:=hBa.trans hB2
   have hz3:=hz1.below hzl hB3
   have hB4:=hBw.trans (hB3.mono hBw.size)
   clear hg hn2 R1 hz1 hx0 hx1 hf0 hf1 hsl
   have hx0:=hz3.cell (j:=0) rfl
   have hx1:=hz3.cell (j:=1) rfl
   have hf0:=hz3.frozen 0
   have hf1:=hz3.frozen 1
   have Hrw:=zZ ((hz3.set 0 (.int .u32 0)).set 1 (.slice none 0 0))
   have HBr:=zZ ((hB4.setCell (p:=⟨w.heap.size,0,none⟩) (zW w.heap.size) (.int .u32 0)).setCell (p:=⟨w.heap.size,1,none⟩) (zW w.heap.size) (.slice none 0 0))
   go_wp2
   refine ret_cell2 rfl Hrw.out Tryz.underlying60 rfl hsz rfl rfl ?_
   exact⟨_,rfl,.inl ⟨by rw[Hg.out];simp,by rw[Hg.out];rfl⟩,HBr.out⟩
  ·have hfl:flowOf al.2=some ((s2.base:Int),s2.parts):=by rw[flowOf,hs2];rfl
   have hg:getFl bs=(((s2.base:Int),s2.parts),0):=by rw[Hgf.out,if_neg (by simpa using he),hfl]
   have hal2:=(flowOf_back Hfit.out hfl).2
   have Hg:=zZ hg
   have Hal2:=zZ hal2
   have hB3:=hBa.trans hB2
   have hz3:=hz1.below hzl hB3
   have hB4:=hBw.trans (hB3.mono hBw.size)
   have hsl3:=(rSlice_stays rFra_stays).to (S':=fun b=>b<w1.heap.size) (fun x hx=>⟨hx,hB3.block x hx⟩) hsl
   have Hsl3:=zZ hsl3
   clear hg hs2 hal2 hfl R1 hz1 hx0 hx1 hf0 hf1 hsl hsl3
   have hx0:=hz3.cell (j:=0) rfl
   have hx1:=hz3.cell (j:=1) rfl
   have hf0:=hz3.frozen 0
   have hf1:=hz3.frozen 1
   have hg0:=hR2.blk.cell (j:=0) rfl
   have hg1:=hR2.blk.cell (j:=1) rfl
   have Hrw:=zZ ((hz3.set 0 (.int .u32 (s2.base:Int))).set 1 (.slice A2 s2.parts.length c2))
   have HBr:=zZ ((hB4.setCell (p:=⟨w.heap.size,0,none⟩) (zW w.heap.size) (.int .u32 (s2.base:Int))).setCell (p:=⟨w.heap.size,1,none⟩) (zW w.heap.size) (.slice A2 s2.parts.length c2))
   have hO:=(Only.set w.heap.size w2 0 (.int .u32 (s2.base:Int))).trans (Only.set w.heap.size _ 1 (.slice A2 s2.parts.length c2))
   have HO:=zZ hO
   clear hO
   go_wp2
   refine ret_cell2 rfl Hrw.out Tryz.underlying60 rfl hsz rfl rfl ?_
   have hO:=HO.out
   have hn2:al.2.length=s2.parts.length+2:=by rw[Hal2.out,framesF_length]
   have hsl4:=frames_avoid Hsl3.out (blk_none hz3).1 (blk_none hz3).2
   refine⟨_,rfl,.inr ⟨by rw[Hg.out],A2,c2,B1,d1,?_,?_,?_⟩,HBr.out⟩
   ·rw[Hg.out]
    simp only
    rw[← hn2]
    rfl
   ·rw[Hg.out]
    exact rPts_stays.to (fun x hx=>⟨⟨Nat.lt_of_lt_of_le hx.1 (Nat.le_of_eq hO.size.symm),by omega⟩,hO.block x (by omega)⟩) hR2.pts
   ·rw[Hg.out]
    simp only
    rw[← Hal2.out,← hn2]
    exact (rSlice_stays rFra_stays).to (fun x hx=>⟨Nat.lt_of_lt_of_le hx.1 (Nat.le_trans hB3.size (Nat.le_of_eq hO.size.symm)),hO.block x hx.2⟩) hsl4
 ·have he':((al.1:Int) != 0)=true:=by rw[bne_iff_ne];omega
  have hg:getFl bs=((0,[]),al.1):=by rw[Hgf.out,if_pos he]
  have Hg:=zZ hg
  clear hg
  have hrw:=(hz1.set 0 (.int .u32 0)).set 1 (.slice none 0 0)
  have hBr:=(hBw.setCell (p:=⟨w.heap.size,0,none⟩) (zW w.heap.size) (.int .u32 0)).setCell (p:=⟨w.heap.size,1,none⟩) (zW w.heap.size) (.slice none 0 0)
  have Hrw:=zZ hrw
  have HBr:=zZ hBr
  clear hrw hBr
  go_wp2
  refine ret_cell2 rfl Hrw.out Tryz.underlying60 rfl hsz rfl rfl ?_
  exact⟨_,rfl,.inl ⟨by rw[Hg.out];exact he,by rw[Hg.out];rfl⟩,HBr.out⟩
end Go.Proofs.YtdlkmjfbmenedaaGreatDoor
namespace Go.Proofs.YtdlkmjfbmenedaaGreatDoor
open Go.RowKit Go.Extern.Stop Go.Stop Go.Extern
def Han (w:World):Prop:=w.cell? ⟨0,0,none⟩=some (.iface 198 (.agg #[.pointer (some ⟨2,121,none⟩)]))
theorem Han.pos {w:World} (h:Han w):0<w.heap.size:=by
 rcases Nat.eq_zero_or_pos w.heap.size with h0 | h1
 ·simp[Han,World.cell?,h0] at h
 ·exact h1
theorem Han.below {w w':World} (h:Han w) (hB:Below w.heap.size w w'):Han w':=(hB.cell (p:=⟨0,0,none⟩) h.pos).trans h
theorem Han.to {w w':World} {n:Nat} (h:Han w) (hB:Below n w w') (hn:0<n):Han w':=(hB.cell (p:=⟨0,0,none⟩) hn).trans h
theorem as_nil (t:Value) (w:World):Calls Tryz.prog 83 #[.nilIface,t] w fun e w'=>e=.returned (.bool false)∧w'=w:=by
 go_enter Tryz.func83,Tryz.ntmps83
 go_wp2
 go_ret
 exact⟨rfl,rfl⟩
theorem Tryz.valueOfP (t:Addr) (w:World):(ReflectliteValue.unpack (.iface 127 (.pointer (some t)))).run Tryz.prog w
  = .ok (.agg #[.pointer (some ⟨2,127,none⟩),.pointer (some ⟨w.heap.size,0,none⟩),.int .u64 150]) (w.alloc (.cells #[.pointer (some t)] 127)):=by kernel_rfl
theorem Tryz.typeP (a : Addr) (w : World) : (ReflectliteValue.methodAny (ReflectliteValue.valueError "reflectlite.Value.Type" 0) (fun t _ _ _ => ReflectliteType.toType t) #[.agg #[.pointer (some ⟨2, 127, none⟩), .pointer (some a), .int .u64 150]]).run Tryz.prog w
  = .ok (.iface 198 (.agg #[.pointer (some ⟨2,127,none⟩)])) w:=by kernel_rfl
theorem Tryz.methodKind (h : Value) (w : World) : (Go.method 387 198 (.agg #[h]) "Kind").run Tryz.prog w = .ok (214, h) w := by kernel_rfl
theorem Tryz.kindP (w:World):((ReflectliteType.abiMethod fun t=>(fun a:Nat=>Value.int IntKind.u8 (a:Int)) <$> Rtype.kind t) #[.pointer (some ⟨2,127,none⟩)]).run Tryz.prog w=.ok (.int .u8 22) w:=by kernel_rfl
theorem Tryz.kindE (w:World):((ReflectliteType.abiMethod fun t=>(fun a:Nat=>Value.int IntKind.u8 (a:Int)) <$> Rtype.kind t) #[.pointer (some ⟨2,125,none⟩)]).run Tryz.prog w=.ok (.int .u8 25) w:=by kernel_rfl
theorem lit1 (v:Value) (h:(#[v]:Array Value).size=1) (h':0<1):(#[v]:Array Value).getLit 0 h h'=v:=rfl
theorem lit2 (v x:Value) (h:(#[v,x]:Array Value).size=2) (h':0<2):(#[v,x]:Array Value).getLit 0 h h'=v:=rfl
theorem lit2' (v x:Value) (h:(#[v,x]:Array Value).size=2) (h':1<2):(#[v,x]:Array Value).getLit 1 h h'=x:=rfl
theorem Tryz.partsP (a:Addr) (w:World):(ReflectliteValue.parts (.agg #[.pointer (some ⟨2,127,none⟩),.pointer (some a),.int .u64 150])).run Tryz.prog w=.ok (some (127,a,150)) w:=by kernel_rfl
theorem Tryz.isNilP (a p:Addr) (W:World) (ha:W.cell? a=some (.pointer (some p))):
  (ReflectliteValue.method (ReflectliteValue.valueError "reflectlite.Value.IsNil" 0) ReflectliteValue.isNil #[.agg #[.pointer (some ⟨2, 127, none⟩), .pointer (some a), .int .u64 150]]).run Tryz.prog W = .ok (.bool false) W := by
 show (ReflectliteValue.parts _ >>= _:Sem Value).run _ _=_
 simp only[Sem.run_bind,lit1,Tryz.partsP,Result.andThen]
 simp[ReflectliteValue.isNil,loadVar,isAgg,underlying,Tryz.underlying127,ha,Result.andThen]
theorem Tryz.methodElem (h : Value) (w : World) : (Go.method 387 198 (.agg #[h]) "Elem").run Tryz.prog w = .ok (224, .agg #[h]) w := by kernel_rfl
theorem Tryz.methodImplements (h : Value) (w : World) : (Go.method 387 198 (.agg #[h]) "Implements").run Tryz.prog w = .ok (225, .agg #[h]) w := by kernel_rfl
theorem Tryz.methodAssignableTo (h : Value) (w : World) : (Go.method 387 198 (.agg #[h]) "AssignableTo").run Tryz.prog w = .ok (222, .agg #[h]) w := by kernel_rfl
theorem Tryz.elemP (w:World):(ReflectliteType.method ReflectliteType.elem #[.agg #[.pointer (some ⟨2,127,none⟩)]]).run Tryz.prog w=.ok (.iface 198 (.agg #[.pointer (some ⟨2,125,none⟩)])) w:=by kernel_rfl
theorem Tryz.implementsE (w : World) : (ReflectliteType.relation "Implements" ReflectliteType.implements_ #[.agg #[.pointer (some ⟨2, 125, none⟩)], .iface 198 (.agg #[.pointer (some ⟨2, 121, none⟩)])]).run Tryz.prog w = .ok (.bool true) w := by kernel_rfl
theorem Tryz.typeOfE (v:Value) (w:World):(ReflectliteType.typeOf #[.iface 125 v]).run Tryz.prog w=.ok (.iface 198 (.agg #[.pointer (some ⟨2,125,none⟩)])) w:=by kernel_rfl
theorem Tryz.assignableE (w : World) : (ReflectliteType.relation "AssignableTo" ReflectliteType.assignableTo #[.agg #[.pointer (some ⟨2, 125, none⟩)], .iface 198 (.agg #[.pointer (some ⟨2, 125, none⟩)])]).run Tryz.prog w = .ok (.bool true) w := by kernel_rfl
theorem Tryz.valueOfE (n:Int) (w:World):(ReflectliteValue.unpack (.iface 125 (.agg #[.int .i64 n]))).run Tryz.prog w
  = .ok (.agg #[.pointer (some ⟨2,125,none⟩),.pointer (some ⟨w.heap.size,0,none⟩),.int .u64 153]) (w.alloc (.cells #[.int .i64 n] 125)):=by kernel_rfl
theorem Tryz.elemOfP (w:World):(Rtype.elem? 127).run Tryz.prog w=.ok (some 125) w:=by kernel_rfl
theorem Tryz.mkE (p:Addr) (w:World):(ReflectliteValue.mk 125 p ReflectliteValue.flagAddr).run Tryz.prog w=.ok (.agg #[.pointer (some ⟨2,125,none⟩),.pointer (some p),.int .u64 409]) w:=by kernel_rfl
theorem Tryz.elemVP (a p:Addr) (W:World) (ha:W.cell? a=some (.pointer (some p))):
  (ReflectliteValue.method (ReflectliteValue.valueError "reflectlite.Value.Elem" 0) ReflectliteValue.elem #[.agg #[.pointer (some ⟨2, 127, none⟩), .pointer (some a), .int .u64 150]]).run Tryz.prog W
   = .ok (.agg #[.pointer (some ⟨2,125,none⟩),.pointer (some p),.int .u64 409]) W:=by
 show (ReflectliteValue.parts _ >>= _:Sem Value).run _ _=_
 simp only[Sem.run_bind,lit1,Tryz.partsP,Result.andThen]
 simp[ReflectliteValue.elem,loadVar,isAgg,underlying,Tryz.underlying127,ha,Result.andThen,Tryz.elemOfP,Tryz.mkE]
theorem Tryz.partsEa (a:Addr) (w:World):(ReflectliteValue.parts (.agg #[.pointer (some ⟨2,125,none⟩),.pointer (some a),.int .u64 409])).run Tryz.prog w=.ok (some (125,a,409)) w:=by kernel_rfl
theorem Tryz.partsE (a:Addr) (w:World):(ReflectliteValue.parts (.agg #[.pointer (some ⟨2,125,none⟩),.pointer (some a),.int .u64 153])).run Tryz.prog w=.ok (some (125,a,153)) w:=by kernel_rfl
theorem Tryz.directE (w:World):(Rtype.directlyAssignable 125 125).run Tryz.prog w=.ok true w:=by kernel_rfl
theorem Tryz.setE (g h:Nat) (t t':TypeId) (old:Value) (n:Int) (W:World) (hb:Blk W h t' [.int .i64 n]) (ht:Blk W g t [old]):
  (ReflectliteValue.set #[.agg #[.pointer (some ⟨2,125,none⟩),.pointer (some ⟨g,0,none⟩),.int .u64 409],.agg #[.pointer (some ⟨2,125,none⟩),.pointer (some ⟨h,0,none⟩),.int .u64 153]]).run Tryz.prog W
   = .ok (.tuple #[]) (W.setRow g #[.int .i64 n]):=by
 have h1:=run_loadVar_row (P:=Tryz.prog) W h t' 125 #[.int .i64 n] (0,0) _ hb Tryz.underlying125 rfl (by kernel_rfl)
 have h2:=run_storeVar_row (P:=Tryz.prog) W g t 125 #[old] #[.int .i64 n] ht (by kernel_rfl) rfl (by simp[Value.oneCell'])
 show (ReflectliteValue.parts _ >>= _:Sem Value).run _ _=_
 simp only[Sem.run_bind,lit2,lit2',Tryz.partsEa,Tryz.partsE,Result.andThen]
 simp[ReflectliteValue.flagAddr,h1,Result.andThen,Tryz.directE,h2]
theorem as_hit (n:Int) (g:Nat) (t:TypeId) (old:Value) (w:World) (hg:Han w) (ht:Blk w g t [old]):
  Calls Tryz.prog 83 #[.iface 125 (.agg #[.int .i64 n]),.iface 127 (.pointer (some ⟨g,0,none⟩))] w fun ev w'=>ev=.returned (.bool true)∧∃ w1,Below w.heap.size w w1∧w'=w1.setRow g #[.int .i64 n]∧Blk w' g t [.int .i64 n]:=by
 have hF0:=@run_callFunc_extern Tryz.prog 113 _ (fun args=>ReflectliteValue.unpack (args.getD 0 (.tuple #[]))) Tryz.func113 (by kernel_rfl) (by kernel_rfl) (by kernel_rfl) (by kernel_rfl)
 have hF1 := @run_callFunc_extern Tryz.prog 114 _ (ReflectliteValue.methodAny (ReflectliteValue.valueError "reflectlite.Value.Type" 0) (fun t _ _ _ => ReflectliteType.toType t)) Tryz.func114 (by kernel_rfl) (by kernel_rfl) (by kernel_rfl) (by kernel_rfl)
 have hF2 := @run_callFunc_extern Tryz.prog 115 _ (ReflectliteValue.method (ReflectliteValue.valueError "reflectlite.Value.IsNil" 0) ReflectliteValue.isNil) Tryz.func115 (by kernel_rfl) (by kernel_rfl) (by kernel_rfl) (by kernel_rfl)
 have hF3:=@run_callFunc_extern Tryz.prog 214 _ (ReflectliteType.abiMethod fun t=>do pure (.int .u8 (← Rtype.kind t))) Tryz.func214 (by kernel_rfl) (by kernel_rfl) (by kernel_rfl) (by kernel_rfl)
 have hF4:=@run_callFunc_extern Tryz.prog 224 _ (ReflectliteType.method ReflectliteType.elem) Tryz.func224 (by kernel_rfl) (by kernel_rfl) (by kernel_rfl) (by kernel_rfl)
 have hF5 := @run_callFunc_extern Tryz.prog 225 _ (ReflectliteType.relation "Implements" ReflectliteType.implements_) Tryz.func225 (by kernel_rfl) (by kernel_rfl) (by kernel_rfl) (by kernel_rfl)
 have hF6:=@run_callFunc_extern Tryz.prog 149 _ ReflectliteType.typeOf Tryz.func149 (by kernel_rfl) (by kernel_rfl) (by kernel_rfl) (by kernel_rfl)
 have hF7 := @run_callFunc_extern Tryz.prog 222 _ (ReflectliteType.relation "AssignableTo" ReflectliteType.assignableTo) Tryz.func222 (by kernel_rfl) (by kernel_rfl) (by kernel_rfl) (by kernel_rfl)
 have hF8 := @run_callFunc_extern Tryz.prog 150 _ (ReflectliteValue.method (ReflectliteValue.valueError "reflectlite.Value.Elem" 0) ReflectliteValue.elem) Tryz.func150 (by kernel_rfl) (by kernel_rfl) (by kernel_rfl) (by kernel_rfl)
 have hF9:=@run_callFunc_extern Tryz.prog 151 _ ReflectliteValue.set Tryz.func151 (by kernel_rfl) (by kernel_rfl) (by kernel_rfl) (by kernel_rfl)
 have a0:=Tryz.typeOfE
 have a1:=Tryz.methodAssignableTo
 have a2:=Tryz.assignableE
 have a3:=Tryz.valueOfE
 have a4:=Tryz.valueOfP
 have a5:=Tryz.typeP
 have a6:=Tryz.methodKind
 have a7:=Tryz.methodElem
 have a8:=Tryz.methodImplements
 have a9:=Tryz.kindP
 have a10:=Tryz.kindE
 have a11:=Tryz.elemP
 have a12:=Tryz.implementsE
 have hlt:=hg.pos
 have htl:=ht.lt
 generalize hW1:w.alloc (.cells #[.pointer (some ⟨g,0,none⟩)] 127)=W1
 have hB1:Below w.heap.size w W1:=by rw[← hW1];exact (zA _ w).alloc (zW _) _
 have hs1:W1.heap.size=w.heap.size+1:=by rw[← hW1];simp
 have hc1:Blk W1 w.heap.size 127 [.pointer (some ⟨g,0,none⟩)]:=by rw[← hW1];exact Blk.new w _ _
 generalize hW2:W1.alloc (.cells #[.pointer (some ⟨2,127,none⟩),.pointer (some ⟨w.heap.size,0,none⟩),.int .u64 150] 159)=W2
 have hB2:Below w.heap.size w W2:=by rw[← hW2];exact hB1.alloc (by omega) _
 have hs2:W2.heap.size=w.heap.size+1+1:=by rw[← hW2];simp[hs1]
 have hc2:Blk W2 w.heap.size 127 [.pointer (some ⟨g,0,none⟩)]:=by rw[← hW2];exact hc1.alloc _
 generalize hW3:W2.alloc (.cells #[.pointer (some ⟨2,127,none⟩),.pointer (some ⟨w.heap.size,0,none⟩),.int .u64 150] 159)=W3
 have hB3:Below w.heap.size w W3:=by rw[← hW3];exact hB2.alloc (by omega) _
 have hs3:W3.heap.size=w.heap.size+1+1+1:=by rw[← hW3];simp[hs2]
 have hc3:Blk W3 w.heap.size 127 [.pointer (some ⟨g,0,none⟩)]:=by rw[← hW3];exact hc2.alloc _
 generalize hW4:W3.alloc (.cells #[.int .i64 n] 125)=W4
 have hB4:Below w.heap.size w W4:=by rw[← hW4];exact hB3.alloc (by omega) _
 have hc4:Blk W4 (w.heap.size+1+1+1) 125 [.int .i64 n]:=by rw[← hW4,← hs3];exact Blk.new _ _ _
 have b0:=Tryz.isNilP ⟨w.heap.size,0,none⟩ ⟨g,0,none⟩ W2 (hc2.cell rfl)
 have hg2:W2.cell? ⟨0,0,none⟩=some (.iface 198 (.agg #[.pointer (some ⟨2,121,none⟩)])):=hg.below hB2
 have b1:=Tryz.elemVP ⟨w.heap.size,0,none⟩ ⟨g,0,none⟩ W3 (hc3.cell rfl)
 have ht4:Blk W4 g t [old]:=ht.below htl hB4
 have b2:=Tryz.setE g (w.heap.size+1+1+1) t 125 old n W4 hc4 ht4
 subst hW1 hW2 hW3 hW4
 go_enter Tryz.func83,Tryz.ntmps83
 go_wp2
 refine wp_loop_rounds 1 ?_
 rw[rounds_succ]
 go_wp2
 go_ret
 exact⟨rfl,_,hB4,rfl,ht4.row [.int .i64 n]⟩
end Go.Proofs.YtdlkmjfbmenedaaGreatDoor
namespace Go.Proofs.YtdlkmjfbmenedaaGreatDoor
open Go.RowKit
theorem info_flt:(Tryz.prog.info? 125).map (fun i=>(i.zero,i.size))=some (some (.agg #[.int .i64 0]),1):=by kernel_rfl
theorem fget_any (A:Option Addr) (c n:Nat) (bs:List Nat) (w:World) (hn:bs.length=n) (hc:n≤c) (hb:∀ x∈bs,x<256) (hr:Rd w A (u8s bs)) (hlen:n≤1000000000) (hg:Han w):
  Calls Tryz.prog 53 #[.slice A n c] w fun e w'=>∃ A' c',e=.returned (.tuple #[.agg #[.int .u32 (getFl bs).1.1,.slice A' (getFl bs).1.2.length c'],.int .i64 ((getFl bs).2:Int)])∧rPts (All w') w' [.slice A' (getFl bs).1.2.length c'] (getFl bs).1.2∧Below w.heap.size w w':=by
 obtain⟨hz,hsz⟩:=zero_of_info info_flo
 obtain⟨hz2,hsz2⟩:=zero_of_info info_flt
 have hB0:Below w.heap.size w (w.alloc (.cells #[.int .u32 0,.slice none 0 0] 60)):=(zA _ w).alloc (zW _) _
 have hz0:=Blk.new w 60 [.int .u32 0,.slice none 0 0]
 have G1:=zZ (flread_any A c n bs _ hn hc hb (hr.below hB0) hlen)
 have hbad:=getFl_bad (bs:=bs)
 simp only[ReadSays] at G1
 generalize getFl bs=gf at *
 obtain⟨f,E⟩:=gf
 simp only at G1 hbad ⊢
 have Hbad:=zZ hbad
 clear hbad
 go_enter Tryz.func53,Tryz.ntmps53
 go_wp2_with fail
 refine G1.out.mono ?_
 rintro e w1 ⟨v1,rfl,hsays,hB1⟩
 have hz1:=hz0.below hz0.lt hB1
 have hBw:=hB0.trans (hB1.mono hB0.size)
 have hs1:=hB1.size
 rw[World.size_alloc] at hsays hs1
 clear G1 hz0 hB0 hr
 have hzl:=hz1.lt
 rcases hsays with⟨hne,rfl⟩ | ⟨heq,A2,c2,B2,d2,rfl,hpts,hfr⟩
 ·obtain rfl:=Hbad.out hne
  clear Hbad
  have hB2:Below w.heap.size w ((w1.alloc (.cells #[.int .u32 0,.slice none 0 0] 60)).alloc (.cells #[.int .i64 0] 125)):=(hBw.alloc hBw.size _).alloc (by simp;omega) _
  have hz2b:=(hz1.alloc (.cells #[.int .u32 0,.slice none 0 0] 60)).alloc (.cells #[.int .i64 0] 125)
  have ht2:=Blk.new (w1.alloc (.cells #[.int .u32 0,.slice none 0 0] 60)) 125 [.int .i64 0]
  rw[World.size_alloc] at ht2
  have A1:=zZ (as_hit (E:Int) (w1.heap.size+1) _ _ _ (hg.to hB2 hg.pos) ht2)
  have Hz2:=zZ hz2b
  have HB2:=zZ hB2
  clear hz2b hB2 ht2 hz1
  go_wp2_with fail
  refine A1.out.mono ?_
  rintro e w3 ⟨rfl,w2,hB2,rfl,ht3⟩
  have hz3:=(Hz2.out.below Hz2.out.lt hB2).row_other (g':=w1.heap.size+1) #[.int .i64 (E:Int)] (by omega)
  have hB3:=below_setRow (HB2.out.trans (hB2.mono HB2.out.size)) (g:=w1.heap.size+1) (by omega) #[.int .i64 (E:Int)]
  clear A1 Hz2 HB2 hB2
  generalize w2.setRow (w1.heap.size+1) #[.int .i64 (E:Int)]=w4 at *
  have ht4:Blk w4.drew (w1.heap.size+1) 125 [.int .i64 (E:Int)]:=ht3
  have hz4:Blk w4.drew w.heap.size 60 [.int .u32 0,.slice none 0 0]:=hz3
  have hc4:=ht4.cell (j:=0) rfl
  have hx0:=hz4.cell (j:=0) rfl
  have hx1:=hz4.cell (j:=1) rfl
  have hf0:=hz4.frozen 0
  have hf1:=hz4.frozen 1
  have hrw:=(hz4.set 0 (.int .u32 0)).set 1 (.slice none 0 0)
  have hBr:=(hB3.drew.setCell (p:=⟨w.heap.size,0,none⟩) (zW w.heap.size) (.int .u32 0)).setCell (p:=⟨w.heap.size,1,none⟩) (zW w.heap.size) (.slice none 0 0)
  have hc5:=((ht4.other ⟨w.heap.size,0,none⟩ (.int .u32 0) (by simp;omega)).other ⟨w.heap.size,1,none⟩ (.slice none 0 0) (by simp;omega)).cell (j:=0) rfl
  have Hrw:=zZ hrw
  have HBr:=zZ hBr
  have Hc5:=zZ hc5
  clear hrw hBr hc5
  go_wp2_with fail
  refine sch_start [(0,true),(1,true),(2,true),(3,false),(4,true)]
   (fun W=>W.cell? ⟨w1.heap.size+1,0,none⟩=some (.int .i64 (E:Int))) (by kernel_rfl) rfl (by kernel_rfl) (fun _ _ _ _ _ h=>h) hc4 (fun hH=>?_)
  repeat (first | (refine sch_yes (v:=?_) rfl rfl ?_ hH ?_;rotate_left;(focus ((intro W hW;go_simp) <;> with_reducible rfl));simp only[Act.put,zY,zX,zQ]) | (refine sch_no rfl rfl hH ?_;simp only[Act.put,zY,zX,zQ]))
  generalize w4.drew=w5 at *
  refine sch_call rfl rfl (fun K hK=>?_)
  go_wp2
  refine hK.out _ _ Hc5.out ?_
  clear hK hH
  have hH:=Hc5.out
  repeat (first | (refine sch_yes (v:=?_) rfl rfl ?_ hH ?_;rotate_left;(focus ((intro W hW;go_simp) <;> with_reducible rfl));simp only[Act.put,zY,zX,zQ]) | (refine sch_no rfl rfl hH ?_;simp only[Act.put,zY,zX,zQ]))
  refine sch_done ?_
  clear hH
  go_wp2
  refine ret_cell1 rfl Hrw.out Tryz.underlying60 rfl hsz rfl rfl ?_
  exact⟨none,0,rfl,⟨none,0,[],rfl,zW _,Nat.zero_le _,.inl rfl,Chunks.nil⟩,HBr.out⟩
 ·subst heq
  have hB2:Below w.heap.size w ((w1.alloc (.cells #[.int .u32 f.1,.slice A2 f.2.length c2] 60)).alloc (.cells #[.int .i64 0] 125)):=(hBw.alloc hBw.size _).alloc (by simp;omega) _
  have hz2b:=(hz1.alloc (.cells #[.int .u32 f.1,.slice A2 f.2.length c2] 60)).alloc (.cells #[.int .i64 0] 125)
  have hf2:=(Blk.new w1 60 [.int .u32 f.1,.slice A2 f.2.length c2]).alloc (.cells #[.int .i64 0] 125)
  have hp2:=rPts_stays.to (S':=fun b=>b<w1.heap.size∧b≠w.heap.size) (fun x hx=>⟨⟨hx.1,by omega⟩,by rw[Below.heap_alloc _ _ x (by simp;omega),Below.heap_alloc _ _ x hx.1]⟩) hpts (w':=(w1.alloc (.cells #[.int .u32 f.1,.slice A2 f.2.length c2] 60)).alloc (.cells #[.int .i64 0] 125))
  have A1:=zZ (fun t W=>as_nil t W)
  clear hz1 hpts hfr
  go_wp2_with fail
  refine (A1.out _ _).mono ?_
  rintro e w3 ⟨rfl,rfl⟩
  have hs2:((w1.alloc (.cells #[.int .u32 f.1,.slice A2 f.2.length c2] 60)).alloc (.cells #[.int .i64 0] 125)).heap.size=w1.heap.size+1+1:=by simp
  generalize (w1.alloc (.cells #[.int .u32 f.1,.slice A2 f.2.length c2] 60)).alloc (.cells #[.int .i64 0] 125)=w3 at *
  have hx0:=hz2b.cell (j:=0) rfl
  have hx1:=hz2b.cell (j:=1) rfl
  have hf0:=hz2b.frozen 0
  have hf1:=hz2b.frozen 1
  have hy0:=hf2.cell (j:=0) rfl
  have hy1:=hf2.cell (j:=1) rfl
  have Hrw:=zZ ((hz2b.set 0 (.int .u32 f.1)).set 1 (.slice A2 f.2.length c2))
  have HBr:=zZ ((hB2.setCell (p:=⟨w.heap.size,0,none⟩) (zW w.heap.size) (.int .u32 f.1)).setCell (p:=⟨w.heap.size,1,none⟩) (zW w.heap.size) (.slice A2 f.2.length c2))
  have HO:=zZ ((Only.set w.heap.size w3 0 (.int .u32 f.1)).trans (Only.set w.heap.size _ 1 (.slice A2 f.2.length c2)))
  go_wp2
  refine ret_cell1 rfl Hrw.out Tryz.underlying60 rfl hsz rfl rfl ?_
  refine⟨A2,c2,rfl,rPts_stays.to (fun x hx=>⟨Nat.lt_of_lt_of_le hx.1 (by rw[HO.out.size,hs2];omega),HO.out.block x hx.2⟩) hp2,HBr.out⟩
theorem catV_append:∀ (a b:List Nat),catV (a++b)=catV a++catV b
 | [],_=>rfl
 | n :: a,b=>by simp only[List.cons_append,catV];rw[catV_append a b,List.append_assoc]
theorem catV_len:∀ (l:List Nat),(∀ n∈l,n<18446744073709551616)→(catV l).length≤10 * l.length
 | [],_=>by simp[catV]
 | n :: l,h=>by
  have h1:=putL_len10 n (h n (by simp))
  have h2:=catV_len l fun m hm=>h m (by simp[hm])
  simp only[catV,List.length_append,List.length_cons]
  omega
theorem vput_form (N:Nat) (w:World) (hN:N<18446744073709551616):
  Calls Tryz.prog 63 #[.int .u64 (N:Int)] w fun e w'=>∃ g cap,e=.returned (.slice (some ⟨g,0,none⟩) (vputL N).length cap)∧Rd w' (some ⟨g,0,none⟩) (u8s (vputL N))∧Below w.heap.size w w':=
 (vput_any N w hN).mono fun e w' ⟨v,he,hown,hb⟩=>by
  obtain⟨g,cap,rfl,hg,hlt,hcap,hc⟩:=own_open hown (putL_pos N)
  exact⟨g,cap,he,Rd.own hown,hb⟩
theorem fnumbers_any (A:Option Addr) (n c:Nat) (ns:List Nat) (w:World) (hn:ns.length=n) (hn10:n≤10) (hlt:∀ x∈ns,x<18446744073709551616) (hr:Rd w A (u64s ns)):
  Calls Tryz.prog 96 #[.slice A n c] w fun e w'=>∃ v,e=.returned v∧w'.ownsRow w.heap.size 5 1 v (catV ns).length (u8s (catV ns))∧Below w.heap.size w w':=by
 obtain⟨i0,hi,hz0,hz1,hz2⟩:=info_parts info_u8
 go_enter Tryz.func96,Tryz.ntmps96
 go_wp2
 go_loopw [3,8] (fun v iv wr=>∃ i:Nat,i≤n∧iv=.int .i64 (i:Int)∧wr.ownsRow w.heap.size 5 1 v (catV (ns.take i)).length (u8s (catV (ns.take i)))∧Below w.heap.size w wr) (fun _ iv _=>n - (intOf iv).toNat)
 case atStart=>exact⟨0,by omega,rfl,World.ownsRow_nil _ _ _ _,zA _ _⟩
 case round=>
  obtain⟨i,hile,rfl,hown,hB⟩:=hrel
  by_cases hin:i<n
  ·obtain⟨b,off,rfl,hblt,hc0⟩:=hr.at (k:=i) (by simp;omega)
   have hcell:wr.cell? ⟨b,off+i,none⟩=some (.int .u64 ((ns[i]:Nat):Int)):=(hB.cell (p:=⟨b,off+i,none⟩) hblt).trans (hc0 i _ (u64s_get (by omega)))
   have hx:=hlt ns[i] (List.getElem_mem _)
   have P1:=zZ (fun W=>vput_form ns[i] W hx)
   have hl10:=putL_len10 ns[i] hx
   have htk:catV (ns.take (i+1))=catV (ns.take i)++vputL ns[i]:=by
    rw[List.take_add_one,zV (by omega),catV_append]
    simp[catV]
   have hpl:(catV (ns.take i)).length≤100:=by
    have:=catV_len (ns.take i) fun x hx=>hlt x (List.mem_of_mem_take hx)
    rw[List.length_take] at this
    omega
   have Htk:=zZ htk
   clear htk hx hc0
   generalize ns[i]=x at *
   generalize catV (ns.take i)=pre at *
   have hil:(i:Int)<(n:Int):=by omega
   have hi0:(0:Int)≤(i:Int):=by omega
   go_wp2_with (first
    | (go_at_call 63;refine (P1.out _).mono ?_;rintro e w1 ⟨g1,cap1,rfl,hr1,hB1⟩;have hown1:=own_below hown hB1;have hBx:Below w.heap.size w w1:=hB.trans (hB1.mono hB.size))
    | (at_builtin;(refine wpList_app rfl (.tmp 12) (.tmp 14) 29 rfl w.heap.size 5 i0 (.int .u8 0) 1 Tryz.underlying29 hi hz0 hz1 hz2 rfl _ pre.length (u8s pre) rfl hown1 (some ⟨g1,0,none⟩) (vputL x).length cap1 (u8s (vputL x)) rfl (by rw[u8s_length]) hr1 (u8s_one _) (by simp only[maxLen];omega) (by omega) hBx.size ?_;intro v2 w2 hown2 hg2 _;have hB2:Below w.heap.size w w2:=hBx.grown hg2 hBx.size (fun k hk=>(hown1.lt k hk).1)))
    | fail)
   go_roundw
   case rel=>
    refine⟨i+1,by omega,by go_num,?_,hB2⟩
    rw[Htk.out,u8s_append,List.length_append]
    exact hown2
   case measure=>simp[intOf];omega
  ·obtain rfl:i=n:=by omega
   rw[List.take_of_length_le (by omega)] at hown
   go_wp2
   go_ret
   exact⟨_,rfl,hown,hB⟩
theorem fr_step {w wr w3:World} {v:Value} {k:Nat} {xs:List Value} {pre:List Fra} {F:Fra} {A3:Option Addr} {c3:Nat}
  (hB:Below w.heap.size w wr) (hown:wr.ownsRow w.heap.size 88 2 v k xs) (hch:Chunks 2 (rFra (fun b=>b<wr.heap.size∧some b≠v.ownBlock) wr) xs pre)
  (hB3:Below wr.heap.size wr w3) (hrd:RdIn (fun b=>wr.heap.size≤b∧b<w3.heap.size) w3 A3 (u8s F.2)) (hc:F.2.length≤c3) (hm:c3≤maxLen) (hby:∀ x∈F.2,x<256) (hw:(Lit.int .i64 F.1).wf=true):
  (w3.alloc (.cells #[.int .i64 F.1,.slice A3 F.2.length c3] 88)).ownsRow w.heap.size 88 2 v k xs∧Rd (w3.alloc (.cells #[.int .i64 F.1,.slice A3 F.2.length c3] 88)) (some ⟨w3.heap.size,0,none⟩) [.int .i64 F.1,.slice A3 F.2.length c3] ∧
  Below w.heap.size w (w3.alloc (.cells #[.int .i64 F.1,.slice A3 F.2.length c3] 88)) ∧
  Chunks 2 (rFra (fun b=>b<(w3.alloc (.cells #[.int .i64 F.1,.slice A3 F.2.length c3] 88)).heap.size∧some b≠v.ownBlock) (w3.alloc (.cells #[.int .i64 F.1,.slice A3 F.2.length c3] 88))) (xs++[.int .i64 F.1,.slice A3 F.2.length c3]) (pre++[F]):=by
 have hA:Below w3.heap.size w3 (w3.alloc (.cells #[.int .i64 F.1,.slice A3 F.2.length c3] 88)):=(zA _ w3).alloc (zW _) _
 have hB4:=hB3.trans (hA.mono hB3.size)
 refine⟨own_below hown hB4,(Blk.new w3 88 [.int .i64 F.1,.slice A3 F.2.length c3]).rd,hB.trans (hB4.mono hB.size),?_⟩
 have hvl:=hown.lt
 have hkn:Keeps (fun x=>wr.heap.size≤x∧x<w3.heap.size) (fun x=>x<(w3.alloc (.cells #[.int .i64 F.1,.slice A3 F.2.length c3] 88)).heap.size∧some x≠v.ownBlock) w3 _:=fun x ⟨h1,h2⟩=>
  ⟨⟨Nat.lt_of_lt_of_le h2 hA.size,fun e=>by have:=(hvl x e.symm).2;omega⟩,hA.block x h2⟩
 have hko:Keeps (fun x=>x<wr.heap.size∧some x≠v.ownBlock) (fun x=>x<(w3.alloc (.cells #[.int .i64 F.1,.slice A3 F.2.length c3] 88)).heap.size∧some x≠v.ownBlock) wr _:=fun x ⟨h1,h2⟩=>
  ⟨⟨Nat.lt_of_lt_of_le h1 hB4.size,h2⟩,hB4.block x h1⟩
 exact (hch.imp (fun cs a h=>rFra_stays.to hko h)).append (Chunks.one (size:=2) rfl (rFra_mk (f:=F) hc hm hby hw (hrd.keeps hkn)))
theorem frames_any (A:Option Addr) (n c b:Nat) (ps:List (List Nat)) (w:World) (hb:b<4294967296) (h:rPts (All w) w [.slice A n c] ps) (hn40:n≤40) (hp:∀ p∈ps,p.length≤200):
  Calls Tryz.prog 68 #[.agg #[.int .u32 (b:Int),.slice A n c]] w fun e w'=>∃ B d,e=.returned (.slice B (n+2) d)∧rSlice 2 rFra (All w') w' [.slice B (n+2) d] (framesF ((b:Int),ps))∧Below w.heap.size w w':=by
 obtain⟨hn,hnc,hcm⟩:=pts_len h
 have hcm2:=hcm
 simp only[maxLen] at hcm2
 obtain⟨i0,hi,hz0,hz1,hz2⟩:=info_parts info_fr4
 obtain⟨j0,hj,hy0,hy1,hy2⟩:=info_parts info_u8
 have hB1:Below w.heap.size w ((w.alloc (.cells #[.int .u32 (b:Int),.slice A n c] 60)).alloc (.cells #[.int .u64 1,.int .u64 (b:Int),.int .u64 (n:Int)] 71)):=((zA _ w).alloc (zW _) _).alloc (by simp) _
 have hbox:=((Blk.new w 60 [.int .u32 (b:Int),.slice A n c]).alloc (.cells #[.int .u64 1,.int .u64 (b:Int),.int .u64 (n:Int)] 71))
 have hrd1:Rd ((w.alloc (.cells #[.int .u32 (b:Int),.slice A n c] 60)).alloc (.cells #[.int .u64 1,.int .u64 (b:Int),.int .u64 (n:Int)] 71)) (some ⟨w.heap.size+1,0,none⟩) (u64s [1,b,n]):=by
  have:=(Blk.new (w.alloc (.cells #[.int .u32 (b:Int),.slice A n c] 60)) 71 [.int .u64 1,.int .u64 (b:Int),.int .u64 (n:Int)]).rd
  rw[World.size_alloc] at this
  exact this
 have N1:=zZ (fnumbers_any (some ⟨w.heap.size+1,0,none⟩) 3 3 [1,b,n] _ rfl (by omega) (by intro x hx;simp at hx;omega) hrd1)
 have hl:=headL_len hb hn40
 rw[← headL_cat] at N1
 have hlb:=headL_byte b n
 have hfr:framesF ((b:Int),ps)=((1:Int),headL b n) :: (partsF 0 ps++[((3:Int),vputL n)]):=by rw[framesF];simp only;rw[hn];rfl
 rw[hfr]
 clear hfr
 generalize headL b n=hd at *
 have Hbox:=zZ hbox
 have HB1:=zZ hB1
 clear hbox hB1 hrd1
 go_enter Tryz.func68,Tryz.ntmps68
 go_wp2_with fail
 refine N1.out.mono ?_
 rintro e w2 ⟨v2,rfl,hown2,hB2⟩
 have hbox:=Hbox.out.below Hbox.out.lt hB2
 have hBx:=HB1.out.trans (hB2.mono HB1.out.size)
 obtain⟨A2,c2,rfl,hc2,hm2,hr2⟩:=own_in hown2
 have hr2':RdIn (fun b=>w.heap.size≤b∧b<w2.heap.size) w2 A2 (u8s hd):=hr2.keeps (Keeps.mono fun x hx=>⟨Nat.le_trans HB1.out.size hx.1,hx.2⟩)
 clear Hbox HB1 N1 hown2 hr2 hB2
 have hx0:=hbox.cell (j:=0) rfl
 have hx1:=hbox.cell (j:=1) rfl
 have hlt2:=hbox.lt
 have hB3:Below w.heap.size w (w2.alloc (.cells #[.int .i64 1,.slice A2 hd.length c2] 88)):=hBx.alloc hBx.size _
 have hown3:=World.ownsRow_lit (base:=w.heap.size) (e:=88) (size:=2) w2 #[.int .i64 1,.slice A2 hd.length c2] 1 hBx.size (by simp[maxLen]) rfl
 have hch3:Chunks 2 (rFra (fun b=>b<(w2.alloc (.cells #[.int .i64 1,.slice A2 hd.length c2] 88)).heap.size∧some b≠(Value.slice (some ⟨w2.heap.size,0,none⟩) 1 1).ownBlock) (w2.alloc (.cells #[.int .i64 1,.slice A2 hd.length c2] 88))) [.int .i64 1,.slice A2 hd.length c2] [((1:Int),hd)]:=
  Chunks.one (size:=2) rfl (rFra_mk (f:=((1:Int),hd)) hc2 hm2 hlb (show (Lit.int .i64 1).wf=true by decide) (hr2'.keeps fun x hx=>⟨⟨by rw[World.size_alloc];omega,by simp[Value.ownBlock];omega⟩,Below.heap_alloc w2 _ x hx.2⟩))
 have Hch3:=zZ hch3
 clear hch3 hr2'
 go_wp2_with fail
 go_loopw [4,23] (fun v iv wr=>∃ (i:Nat) (xs:List Value),i≤n∧iv=.int .i64 (i:Int)∧wr.ownsRow w.heap.size 88 2 v (i+1) xs∧Hid (Chunks 2 (rFra (fun b=>b<wr.heap.size∧some b≠v.ownBlock) wr) xs (((1:Int),hd) :: partsF 0 (ps.take i)))∧Below w.heap.size w wr) (fun _ iv _=>n - (intOf iv).toNat)
 case atStart=>exact⟨0,_,by omega,rfl,hown3,Hch3,hB3⟩
 case round=>
  obtain⟨i,xs,hile,rfl,hown,Hch,hB⟩:=hrel
  clear Hch3 hown3 hB3 hbox hx0 hx1 hBx
  by_cases hin:i<n
  ·have hli:ps[i]?=some ps[i]:=zV (by omega)
   obtain⟨b1,off1,A1,c1,rfl,hb1,hx1,hpc1,hpm1,hpb1,hr1⟩:=pts_at h hli
   have hcell:=(hB.cell (p:=⟨b1,off1+i,none⟩) hb1).trans hx1
   have hpl:=hp ps[i] (List.getElem_mem _)
   have htk:partsF 0 (ps.take (i+1))=partsF 0 (ps.take i)++[((2:Int),vputL i++ps[i])]:=by
    rw[List.take_add_one,hli,partsF_append,List.length_take,Nat.min_eq_left (by omega),Nat.zero_add]
    rfl
   have hvl:=vputL_len5 (n:=i) (by omega)
   have hvb:=vputL_byte i
   have hrdi:Rd (wr.alloc (.cells #[.int .u64 (i:Int)] 71)) (some ⟨wr.heap.size,0,none⟩) (u64s [i]):=(Blk.new wr 71 [.int .u64 (i:Int)]).rd
   have N2:=fnumbers_any (some ⟨wr.heap.size,0,none⟩) 1 1 [i] _ rfl (by omega) (by intro x hx;simp at hx;omega) hrdi
   rw[show catV [i]=vputL i by simp[catV]] at N2
   have HN2:=zZ N2
   have Htk:=zZ htk
   have hr1':=zZ (RdIn.rd hr1)
   clear N2 htk hrdi hli hx1 hr1
   have hBa:Below wr.heap.size wr (wr.alloc (.cells #[.int .u64 (i:Int)] 71)):=(zA _ wr).alloc (zW _) _
   generalize ps[i]=p at *
   generalize vputL i=vi at *
   have hil:(i:Int)<(n:Int):=by omega
   have hi0:(0:Int)≤(i:Int):=by omega
   go_wp2_with (first
    | (go_at_call 96;refine HN2.out.mono ?_;rintro e w2 ⟨v2,rfl,hown2,hB2⟩;obtain⟨A2,c2,rfl,_⟩:=own_slice hown2;have hBy:Below wr.heap.size wr w2:=hBa.trans (hB2.mono hBa.size);have hr1w:=hr1'.out.below (hB.trans (hBy.mono hB.size));have hsy:=hBy.size;have hs2:=hB2.size;rw[World.size_alloc] at hs2)
    | (at_builtin;refine wpList_app rfl (.tmp 31) (.tmp 32) 29 rfl _ 5 j0 (.int .u8 0) 1 Tryz.underlying29 hj hy0 hy1 hy2 rfl _ vi.length (u8s vi) rfl hown2 A1 p.length c1 (u8s p) rfl (by rw[u8s_length]) hr1w (u8s_one _) (by simp only[maxLen];omega) (by omega) (by rw[World.size_alloc];omega) ?_;intro v3 w3 hown3 hg3 _;have hB3:Below wr.heap.size wr w3:=hBy.grown hg3 hBy.size (fun k hk=>Nat.le_trans (by rw[World.size_alloc];omega) (hown2.lt k hk).1);rw[← u8s_append,← List.length_append] at hown3;generalize hq:vi++p=q at hown3;obtain⟨A3,c3,rfl,hc3,hm3,hr3⟩:=own_in hown3;obtain⟨hown4,hrd4,hB4,hch4⟩:=fr_step (F:=((2:Int),q)) hB hown Hch.out hB3 (hr3.keeps (Keeps.mono fun x hx=>⟨Nat.le_trans (by rw[World.size_alloc];omega) hx.1,hx.2⟩)) hc3 hm3 (by intro x hx;rw[← hq] at hx;rcases List.mem_append.1 hx with hx | hx;exact hvb x hx;exact hpb1 x hx) (show (Lit.int .i64 2).wf=true by decide);have Hch4:=zZ hch4;have Hq:=zZ hq;clear hch4 hr3 Hch hq)
    | (at_builtin;refine wpList_apps rfl (.tmp 34) (.tmp 37) 84 rfl w.heap.size 88 i0 (.agg #[.int .i64 0,.slice none 0 0]) 2 32 Tryz.underlying84 hi hz0 hz1 hz2 rfl (by omega) _ (i+1) xs rfl hown4 (some ⟨w3.heap.size,0,none⟩) 1 1 [.int .i64 2,.slice A3 q.length c3] rfl rfl hrd4 (by simp[Value.oneCell']) (by simp only[maxLen];omega) (by omega) hB4.size ?_;intro v5 w5 hown5 hg5 hv5)
    | fail)
   go_roundw
   case rel=>
    refine⟨i+1,_,by omega,by go_num,hown5,zZ ?_,hB4.grown hg5 hB4.size (fun k hk=>(hown4.lt k hk).1)⟩
    rw[Htk.out,Hq.out,← List.cons_append]
    exact Hch4.out.imp (fun cs a h=>rFra_stays.to (Keeps.grown hg5 hv5) h)
   case measure=>simp[intOf];omega
  ·obtain rfl:i=n:=by omega
   rw[List.take_of_length_le (by omega)] at Hch
   have hvl:=vputL_len5 (n:=i) (by omega)
   have hvb:=vputL_byte i
   have hrdi:Rd (wr.alloc (.cells #[.int .u64 (i:Int)] 71)) (some ⟨wr.heap.size,0,none⟩) (u64s [i]):=(Blk.new wr 71 [.int .u64 (i:Int)]).rd
   have N2:=fnumbers_any (some ⟨wr.heap.size,0,none⟩) 1 1 [i] _ rfl (by omega) (by intro x hx;simp at hx;omega) hrdi
   rw[show catV [i]=vputL i by simp[catV]] at N2
   have HN2:=zZ N2
   clear N2 hrdi
   have hBa:Below wr.heap.size wr (wr.alloc (.cells #[.int .u64 (i:Int)] 71)):=(zA _ wr).alloc (zW _) _
   generalize hvi:vputL i=vi at *
   have Hvi:=zZ hvi
   clear hvi
   go_wp2_with (first
    | (go_at_call 96;refine HN2.out.mono ?_;rintro e w2 ⟨v2,rfl,hown2,hB2⟩;obtain⟨A2,c2,rfl,hc3,hm3,hr3⟩:=own_in hown2;have hBy:Below wr.heap.size wr w2:=hBa.trans (hB2.mono hBa.size);obtain⟨hown4,hrd4,hB4,hch4⟩:=fr_step (F:=((3:Int),vi)) hB hown Hch.out hBy (hr3.keeps (Keeps.mono fun x hx=>⟨Nat.le_trans hBa.size hx.1,hx.2⟩)) hc3 hm3 hvb (show (Lit.int .i64 3).wf=true by decide);have Hch4:=zZ hch4;clear hch4 hr3 Hch)
    | (at_builtin;refine wpList_apps rfl (.tmp 40) (.tmp 45) 84 rfl w.heap.size 88 i0 (.agg #[.int .i64 0,.slice none 0 0]) 2 32 Tryz.underlying84 hi hz0 hz1 hz2 rfl (by omega) _ (i+1) xs rfl hown4 (some ⟨w2.heap.size,0,none⟩) 1 1 [.int .i64 3,.slice A2 vi.length c2] rfl rfl hrd4 (by simp[Value.oneCell']) (by simp only[maxLen];omega) (by omega) hB4.size ?_;intro v5 w5 hown5 hg5 hv5;obtain⟨A5,c5,rfl⟩:=own_slice2 hown5)
    | fail)
   go_ret
   have hvi:=Hvi.out
   subst hvi
   have hch5:=Hch4.out.imp (fun cs a h=>rFra_stays.to (Keeps.grown hg5 hv5) h)
   exact⟨_,_,rfl,own_rSlice rFra_stays hown5 (by simp[partsF_length];omega) hch5,hB4.grown hg5 hB4.size (fun k hk=>(hown4.lt k hk).1)⟩
def FPutSays (f:Flo) (w':World) (B:Option Addr) (m cap E:Nat):Prop:=
 (mayB f=true∧E=0∧m=(flowB f).length∧m≤cap∧cap≤maxLen∧Rd w' B (u8s (flowB f)))∨(mayB f=false∧E=1∧B=none∧m=0∧cap=0)
theorem fput_any (A:Option Addr) (n c b:Nat) (ps:List (List Nat)) (w:World) (hb:b<4294967296) (h:rPts (All w) w [.slice A n c] ps) (hpb:∀ p∈ps,∀ x∈p,x<256):
  Calls Tryz.prog 37 #[.agg #[.int .u32 (b:Int),.slice A n c]] w fun e w'=>∃ B m cap E,e=.returned (.tuple #[.slice B m cap,.int .i64 ((E:Nat):Int)])∧FPutSays ((b:Int),ps) w' B m cap E∧Below w.heap.size w w':=by
 obtain⟨hn,hnc,hcm⟩:=pts_len h
 obtain⟨j0,hj,hy0,hz1,hz2⟩:=info_parts info_u8
 have hB0:Below w.heap.size w (w.alloc (.cells #[.int .u32 (b:Int),.slice A n c] 60)):=(zA _ w).alloc (zW _) _
 have M1:=zZ (flmay_any A n c ((b:Int),ps) _ (rPts_stays.to (Keeps.below hB0) h))
 have hbox:=Blk.new w 60 [.int .u32 (b:Int),.slice A n c]
 cases hmay:mayB ((b:Int),ps) with
 | false=>
  rw[hmay] at M1
  go_enter Tryz.func37,Tryz.ntmps37
  go_wp2_with fail
  refine M1.out.mono ?_
  rintro e w1 ⟨rfl,hB1⟩
  go_wp2
  go_ret2
  exact⟨none,0,0,1,rfl,.inr ⟨hmay,rfl,rfl,rfl,rfl⟩,hB0.trans (hB1.mono hB0.size)⟩
 | true=>
  rw[hmay] at M1
  have hok:OkF ((b:Int),ps):=⟨by simp,by simp only;omega,hmay,hpb⟩
  have hfew:n≤40:=by rw[← hn];exact hok.few
  have F1:=zZ (fun W h'=>frames_any A n c b ps W hb h' hfew hok.short)
  have hfit:=framesF_fit hok
  have hfl:=framesF_length ((b:Int),ps)
  have hflow:flowB ((b:Int),ps)=catL (framesF ((b:Int),ps)):=rfl
  have hlen:=flowB_len hok
  simp only at hfl
  rw[hn] at hfl
  generalize framesF ((b:Int),ps)=fr at *
  have Hflow:=zZ hflow
  have Hfit:=zZ hfit
  clear hflow hfit hok
  go_enter Tryz.func37,Tryz.ntmps37
  go_wp2_with fail
  refine M1.out.mono ?_
  rintro e w1 ⟨rfl,hB1⟩
  have hbox1:=hbox.below hbox.lt hB1
  have hx0:=hbox1.cell (j:=0) rfl
  have hx1:=hbox1.cell (j:=1) rfl
  have hBw1:=hB0.trans (hB1.mono hB0.size)
  have F2:=zZ (F1.out w1 (rPts_stays.to (Keeps.below hBw1) h))
  clear F1 M1
  go_wp2_with fail
  refine F2.out.mono ?_
  rintro e w2 ⟨B2,d2,rfl,hsl,hB2⟩
  have hBw2:=hBw1.trans (hB2.mono hBw1.size)
  clear F2 hbox1 hx0 hx1 hbox hB0 hB1 hB2 hBw1 h
  go_wp2_with fail
  go_loopw [4,15] (fun v iv wr=>∃ i:Nat,i≤n+2∧iv=.int .i64 (i:Int)∧wr.ownsRow w2.heap.size 5 1 v (catL (fr.take i)).length (u8s (catL (fr.take i)))∧Below w2.heap.size w2 wr) (fun _ iv _=>n+2 - (intOf iv).toNat)
  case atStart=>exact⟨0,by omega,rfl,World.ownsRow_nil _ _ _ _,zA _ _⟩
  case round=>
   obtain⟨i,hile,rfl,hown,hB⟩:=hrel
   by_cases hin:i<n+2
   ·obtain⟨F,hli⟩:∃ F,fr[i]?=some F:=⟨fr[i],zV (by omega)⟩
    obtain⟨b1,off1,A1,c1,rfl,hb1,hx1,hy1,hby1,hwf1,hr1⟩:=fra_at hsl hli
    have hx1':=(hB.cell (p:=⟨b1,off1+i * 2,none⟩) hb1).trans hx1
    have hy1':=(hB.cell (p:=⟨b1,off1+i * 2+1,none⟩) hb1).trans hy1
    obtain⟨hk0,hk1,hk2,_⟩:=Hfit.out F (List.mem_of_getElem? hli)
    have htk:catL (fr.take (i+1))=catL (fr.take i)++putL F.1.toNat F.2:=by
     rw[List.take_add_one,hli,catL_append]
     simp[catL]
    have hpl:(catL (fr.take i)).length≤11130:=by
     have:=catL_len (fr.take i) fun x hx=>Hfit.out x (List.mem_of_mem_take hx)
     rw[List.length_take] at this
     omega
    obtain⟨q,hq⟩:=Int.eq_ofNat_of_zero_le hk0
    rw[hq] at htk hk1 hx1'
    have hqn:((q:Int)).toNat=q:=rfl
    rw[hqn] at htk
    have P1:=zZ (fun W (h':Rd W A1 (u8s F.2))=>put_ok q A1 F.2.length c1 F.2 W (by omega) rfl (by omega) hby1 h')
    have Htk:=zZ htk
    have hr1':=zZ (RdIn.rd hr1)
    clear htk hq hqn hli hx1 hy1 hr1 hwf1 hby1
    have hplen:=putL_length q F.2
    generalize F.2=body at *
    generalize putL q body=pb at *
    generalize catL (fr.take i)=pre at *
    have hil:(i:Int)<((n+2:Nat):Int):=by omega
    have hi0:(0:Int)≤(i:Int):=by omega
    have hBa:Below w2.heap.size w2 (wr.alloc (.cells #[.int .i64 (q:Int),.slice A1 body.length c1] 88)):=hB.alloc hB.size _
    have hBb:Below wr.heap.size wr (wr.alloc (.cells #[.int .i64 (q:Int),.slice A1 body.length c1] 88)):=(zA _ wr).alloc (zW _) _
    have P2:=zZ (P1.out _ (hr1'.out.below hBa))
    clear P1
    go_wp2_with fail
    refine P2.out.mono ?_
    rintro e w3 ⟨g3,cap3,rfl,hcap3,_,_,hr3,hB3⟩
    have hown3:=own_below hown (hBb.trans (hB3.mono hBb.size))
    have hB4:=hBa.trans (hB3.mono hBa.size)
    clear P2 hBa hBb hB3
    go_wp2_with (first
     | (at_builtin;refine wpList_app rfl (.tmp 24) (.tmp 25) 29 rfl w2.heap.size 5 j0 (.int .u8 0) 1 Tryz.underlying29 hj hy0 hz1 hz2 rfl _ pre.length (u8s pre) rfl hown3 (some ⟨g3,0,none⟩) (body.length+10) cap3 (u8s pb) rfl (by rw[u8s_length,hplen]) hr3 (u8s_one _) (by simp only[maxLen];omega) (by omega) hB4.size ?_;intro v5 w5 hown5 hg5 _)
     | fail)
    go_roundw
    case rel=>
     refine⟨i+1,by omega,by go_num,?_,hB4.grown hg5 hB4.size (fun k hk=>(hown3.lt k hk).1)⟩
     rw[Htk.out,u8s_append,List.length_append,hplen]
     exact hown5
    case measure=>simp[intOf];omega
   ·obtain rfl:i=n+2:=by omega
    rw[List.take_of_length_le (by omega)] at hown
    rw[← Hflow.out] at hown
    go_wp2
    go_ret2
    obtain⟨A5,c5,rfl,hc5,hm5,hr5⟩:=own_in hown
    exact⟨A5,_,c5,0,rfl,.inl ⟨hmay,rfl,rfl,hc5,hm5,hr5.keeps (Keeps.mono fun x hx=>hx.2)⟩,hBw2.trans (hB.mono hBw2.size)⟩
end Go.Proofs.YtdlkmjfbmenedaaGreatDoor
