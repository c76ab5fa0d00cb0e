/- The texts FrMem, FrPut, FrGet, Jump, FrAll, FrRows, FrCutPlain, FrBurstPlain, FrFlip in one (as far as the seat has what they speak of); what each proves, and its conditions, stands before it. -/
import Derived.Test.YtnljjnkindjeoaaGreatDoorGCrc
import Derived.Test.YtnljjnkindjeoaaGreatDoorGGen
import Derived.Test.YtnljjnkindjeoaaGreatDoorGBytes
import Derived.Lib.LazyBuf
import Derived.WalkMore
import Derived.ScopeJumps
import Derived.Test.YtnljjnkindjeoaaGreatDoorAl
namespace Go.Proofs.YtnljjnkindjeoaaGreatDoor
open Go.RowKit
abbrev rFra:Reader Fra:=rBoth 1 (rInt .i64) rBytes
theorem rFra_stays:Stays rFra:=rBoth_stays (rInt_stays _) rBytes_stays
theorem rFra_open {S:Nat→Prop} {w:World} {cs:List Value} {f:Fra} (h:rFra S w cs f):∃ A c,cs=[.int .i64 f.1,.slice A f.2.length c]∧f.2.length≤c∧c≤maxLen∧(∀ x∈f.2,x<256)∧(Lit.int .i64 f.1).wf=true∧RdIn S w A (u8s f.2):=by
 obtain⟨_,⟨h1,hw⟩,A,c,h2,h3,h4,h5,h6⟩:=h
 refine⟨A,c,?_,h3,h4,h5,hw,h6⟩
 rw[← List.take_append_drop 1 cs,h1,h2]
 rfl
theorem rFra_mk {S:Nat→Prop} {w:World} {f:Fra} {A:Option Addr} {c:Nat} (hc:f.2.length≤c) (hm:c≤maxLen) (hb:∀ x∈f.2,x<256) (hw:(Lit.int .i64 f.1).wf=true) (hr:RdIn S w A (u8s f.2)):rFra S w [.int .i64 f.1,.slice A f.2.length c] f:=
 ⟨rfl,⟨rfl,hw⟩,A,c,rfl,hc,hm,hb,hr⟩
end Go.Proofs.YtnljjnkindjeoaaGreatDoor
namespace Go.Proofs.YtnljjnkindjeoaaGreatDoor
end Go.Proofs.YtnljjnkindjeoaaGreatDoor
namespace Go.Proofs.YtnljjnkindjeoaaGreatDoor
open Go.RowKit
def lenOf:Value→Nat | .slice _ m _=>m | _=>0
theorem info_fr4:(Tryz.prog.info? 173).map (fun i=>(i.zero,i.size,i.bytes))=some (some (.agg #[.int .i64 0,.slice none 0 0]),2,32):=by kernel_rfl
theorem own_slice2 {w:World} {base e size n:Nat} {v:Value} {xs:List Value} (h:w.ownsRow base e size v n xs):∃ A c,v=.slice A n c:=by
 rcases h.2 with⟨rfl,rfl⟩ | ⟨g,cap,cur,rfl,_⟩
 ·exact⟨none,0,rfl⟩
 ·exact⟨_,cap,rfl⟩
theorem fra_at {S:Nat→Prop} {w:World} {A0:Option Addr} {n c:Nat} {l:List Fra} {i:Nat} {f:Fra} (h:rSlice 2 rFra S w [.slice A0 n c] l) (hi:l[i]?=some f):∃ b off A c',A0=some ⟨b,off,none⟩∧S b∧w.cell? ⟨b,off+i * 2,none⟩=some (.int .i64 f.1)∧w.cell? ⟨b,off+i * 2+1,none⟩=some (.slice A f.2.length c')∧(∀ x∈f.2,x<256)∧(Lit.int .i64 f.1).wf=true∧RdIn S w A (u8s f.2):=by
 obtain⟨A1,c1,xs,hv,hlc,hcm,hr,hl,hch⟩:=h
 obtain⟨A,c',hcs,_,_,hby,hwf,hrd⟩:=rFra_open (hch i f hi)
 have hlt:=(List.getElem?_eq_some_iff.1 hi).1
 have hA:A0=A1:=by simp at hv;exact hv.1
 subst hA
 rcases hr with h | ⟨b,off,rfl,hb,hc⟩
 ·rw[h] at hl;simp at hl;omega
 ·have h0:xs[i * 2]?=some (.int .i64 f.1):=by
   have:=congrArg (fun l:List Value=>l[0]?) hcs
   simpa [List.getElem?_take,List.getElem?_drop] using this
  have h1:xs[i * 2+1]?=some (.slice A f.2.length c'):=by
   have:=congrArg (fun l:List Value=>l[1]?) hcs
   simpa [List.getElem?_take,List.getElem?_drop] using this
  exact⟨b,off,A,c',rfl,hb,hc _ _ h0,by rw[Nat.add_assoc];exact hc _ _ h1,hby,hwf,hrd⟩
def PutSays (k:Int) (bs:List Nat) (w':World) (B:Option Addr) (m cap E:Nat):Prop:=
 (0≤k∧k≤255∧bs.length≤255∧E=0∧m=bs.length+10∧m≤cap∧Rd w' B (u8s (putL k.toNat bs)))∨(¬ (0≤k∧k≤255∧bs.length≤255)∧E=1∧B=none∧m=0∧cap=0)
end Go.Proofs.YtnljjnkindjeoaaGreatDoor
namespace Go.Proofs.YtnljjnkindjeoaaGreatDoor
end Go.Proofs.YtnljjnkindjeoaaGreatDoor
namespace Go.Proofs.YtnljjnkindjeoaaGreatDoor
open Go.RowKit
end Go.Proofs.YtnljjnkindjeoaaGreatDoor
