/- The texts FlMem, FlReader, FlTail, FlPart, FlRun, FlRead, FlAs, FlGet, FlCuts, FlNum, FlFrames, FlPut, FlKit, FlKitGet, FlKitCuts in one (as far as the seat has what they speak of); what each proves, and its conditions, stands before it. -/
import Derived.Test.YtnljjnkindjeoaaGreatDoorGBytes
import Derived.Test.YtnljjnkindjeoaaGreatDoorGFrame
import Derived.Test.YtnljjnkindjeoaaGreatDoorGVari
import Derived.Test.YtnljjnkindjeoaaGreatDoorGGen
import Derived.Deep.QuietTactic
import Derived.BigQuiet
import Derived.WalkKit
import Derived.LaidEql
import Derived.Stop.Asserts
import Derived.RowKitTokens
import Derived.Laws.ResultCell
import Derived.Test.YtnljjnkindjeoaaGreatDoorAl
namespace Go.Proofs.YtnljjnkindjeoaaGreatDoor
open Go.RowKit
abbrev rPts:Reader (List (List Nat)):=rSlice 1 rBytes
theorem rPts_stays:Stays rPts:=rSlice_stays rBytes_stays
theorem pts_len {S:Nat→Prop} {w:World} {A0:Option Addr} {n c:Nat} {l:List (List Nat)} (h:rPts S w [.slice A0 n c] l):l.length=n∧n≤c∧c≤maxLen:=by
 obtain⟨A1,c1,xs,hv,hlc,hcm,_⟩:=h
 simp at hv
 omega
theorem pts_at {S:Nat→Prop} {w:World} {A0:Option Addr} {n c:Nat} {l:List (List Nat)} {i:Nat} {p:List Nat} (h:rPts S w [.slice A0 n c] l) (hi:l[i]?=some p):∃ b off A c',A0=some ⟨b,off,none⟩∧S b∧w.cell? ⟨b,off+i,none⟩=some (.slice A p.length c')∧p.length≤c'∧c'≤maxLen∧(∀ x∈p,x<256)∧RdIn S w A (u8s p):=by
 obtain⟨A1,c1,xs,hv,hlc,hcm,hr,hl,hch⟩:=h
 obtain⟨A,c',hcs,hc1,hc2,hby,hrd⟩:=hch i p hi
 have hlt:=(List.getElem?_eq_some_iff.1 hi).1
 have hA:A0=A1:=by simp at hv;exact hv.1
 subst hA
 rcases hr with h | ⟨b,off,rfl,hb,hc⟩
 ·rw[h] at hl;simp at hl;omega
 ·have h0:xs[i]?=some (.slice A p.length c'):=by
   have:=congrArg (fun l:List Value=>l[0]?) hcs
   simpa [List.getElem?_take,List.getElem?_drop] using this
  exact⟨b,off,A,c',rfl,hb,hc _ _ h0,hc1,hc2,hby,hrd⟩
section
variable {B g : Nat} {s : RSt} {w w' : World} {A : Option Addr} {c : Nat} {xs : List Value}
end
end Go.Proofs.YtnljjnkindjeoaaGreatDoor
namespace Go.Proofs.YtnljjnkindjeoaaGreatDoor
open Go.RowKit Go.Extern.Stop Go.Stop Go.Extern
end Go.Proofs.YtnljjnkindjeoaaGreatDoor
namespace Go.Proofs.YtnljjnkindjeoaaGreatDoor
open Go.RowKit
def FPutSays (f:Flo) (w':World) (B:Option Addr) (m cap E:Nat):Prop:=
 (mayB f=true∧E=0∧m=(flowB f).length∧m≤cap∧cap≤maxLen∧Rd w' B (u8s (flowB f)))∨(mayB f=false∧E=1∧B=none∧m=0∧cap=0)
end Go.Proofs.YtnljjnkindjeoaaGreatDoor
