/- The sum of a graph's parts, on plain data; a graph that reads has values as they are in memory. No condition. -/
import Derived.Test.YtnljjnkindjeoaaGreatDoorGBytes
import Derived.Test.YtnljjnkindjeoaaGreatDoorGGraph
import Derived.Test.YtnljjnkindjeoaaGreatDoorAl
namespace Go.Proofs.YtnljjnkindjeoaaGreatDoor
open Go.RowKit
def lensB:List (List Nat)→List Nat
 | []=>[]
 | p :: ps=>vputL p.length++p++lensB ps
def codeS (g:Gr):Nat:=if codeE g=0 then sumL (lensB (partsG (canonG g))) else 0
theorem lensB_append:∀ (a b:List (List Nat)),lensB (a++b)=lensB a++lensB b
 | [],_=>rfl
 | p :: a,b=>by rw[List.cons_append,lensB,lensB,lensB_append a b];simp only[List.append_assoc]
theorem lensB_one (a:List (List Nat)) (p:List Nat):lensB (a++[p])=lensB a++vputL p.length++p:=by
 rw[lensB_append,lensB,lensB,List.append_nil,List.append_assoc]
theorem lensB_byte:∀ {l:List (List Nat)},(∀ p∈l,∀ x∈p,x<256)→∀ x∈lensB l,x<256
 | [],_=>by simp[lensB]
 | p :: l,h=>fun x hx=>by
  rw[lensB,List.mem_append,List.mem_append] at hx
  rcases hx with (hx | hx) | hx
  ·exact vputL_byte _ x hx
  ·exact h p (by simp) x hx
  ·exact lensB_byte (fun p hp=>h p (by simp[hp])) x hx
theorem lensB_len:∀ {l:List (List Nat)},(∀ p∈l,p.length≤200)→(lensB l).length≤210 * l.length
 | [],_=>by simp[lensB]
 | p :: l,h=>by
  have h1:=lensB_len (l:=l) (fun p hp=>h p (by simp[hp]))
  have h2:=h p (by simp)
  have h3:=putL_len10 p.length (by omega)
  rw[lensB,List.length_append,List.length_append,List.length_cons]
  omega
section
variable {S : Nat → Prop} {w : World}
theorem vals_ok {cs:List Value} {l:List Vl} (h:rVals S w cs l):∀ v∈l,OkV v:=fun v hv=>by
 obtain⟨A,c,rfl,h⟩:=slice_form h
 obtain⟨i,hi⟩:=List.getElem?_of_mem hv
 obtain⟨b,off,s,-,-,-,-,-,h1,-,h2,-⟩:=val_at h hi
 obtain⟨n,t,r⟩:=v
 simp only at h1 h2
 subst h1
 exact⟨h2,byt_lt s⟩
theorem gr_ok {A B C:Option Addr} {N c M d K e:Nat} {g:Gr} (h:rGr S w [.slice A N c,.slice B M d,.slice C K e] g):OkG g:=fun o ho=>by
 obtain⟨i,hi⟩:=List.getElem?_of_mem ho
 obtain⟨b,off,A,c',-,-,-,-,-,h1,-⟩:=ob_at (rGr_open h).2.1 hi
 exact vals_ok h1
end
theorem codeB_no {g:Gr} (h:codeE g≠0):codeB g=[]:=if_neg h
theorem codeS_no {g:Gr} (h:codeE g≠0):codeS g=0:=if_neg h
end Go.Proofs.YtnljjnkindjeoaaGreatDoor
