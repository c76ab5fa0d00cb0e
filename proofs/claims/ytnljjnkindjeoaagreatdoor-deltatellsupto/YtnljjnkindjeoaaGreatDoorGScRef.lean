/- The texts ScRef3, ScGuess, ScRef2, ScRef4 in one (as far as the seat has what they speak of); what each proves, and its conditions, stands before it. -/
import Derived.Test.YtnljjnkindjeoaaGreatDoorGGraph
import Derived.Test.YtnljjnkindjeoaaGreatDoorGGen
import Derived.BigQuiet
import Derived.OwnWalk
import Derived.Test.YtnljjnkindjeoaaGreatDoorGBytes
import Derived.Test.YtnljjnkindjeoaaGreatDoorGRef
import Derived.Test.YtnljjnkindjeoaaGreatDoorGText
import Derived.Test.YtnljjnkindjeoaaGreatDoorAl
set_option maxRecDepth 100000
set_option maxHeartbeats 8000000
namespace Go.Proofs.YtnljjnkindjeoaaGreatDoor
open Go.RowKit
end Go.Proofs.YtnljjnkindjeoaaGreatDoor
namespace Go.Proofs.YtnljjnkindjeoaaGreatDoor
def Whole (l:List Nat) (x:Sch):Prop:=mayS x=true∧sText x=l
def OI (l:List Nat) (pre:Sch) (rest:List Nat):Prop:=∀ x,Whole l x→∃ suf,x=pre++suf∧sText suf=rest
end Go.Proofs.YtnljjnkindjeoaaGreatDoor
namespace Go.Proofs.YtnljjnkindjeoaaGreatDoor
open Go.RowKit
theorem kt_at {w:World} {g:Nat} {ty:TypeId} (b:Blk w g ty kts) {k:Nat} (hk:k<6):∃ q:ByteArray,w.cell? ⟨g,k,none⟩=some (.string q)∧byt q=kindT (k:Int)∧q.size≤3:=by
 have h6:k=0∨k=1∨k=2∨k=3∨k=4∨k=5:=by omega
 rcases h6 with rfl | rfl | rfl | rfl | rfl | rfl
 ·exact⟨⟨#[105,56]⟩,b.cell rfl,rfl,by decide⟩
 ·exact⟨⟨#[105,49,54]⟩,b.cell rfl,rfl,by decide⟩
 ·exact⟨⟨#[105,51,50]⟩,b.cell rfl,rfl,by decide⟩
 ·exact⟨⟨#[105,54,52]⟩,b.cell rfl,rfl,by decide⟩
 ·exact⟨⟨#[116]⟩,b.cell rfl,rfl,by decide⟩
 ·exact⟨⟨#[42]⟩,b.cell rfl,rfl,by decide⟩
theorem rtext_any (A:Option Addr) (N c:Nat) (l:Sch) (w:World) (h:rSch (All w) w [.slice A N c] l) (htame:tameS l):
  Calls Tryz.prog 109 #[.agg #[.slice A N c]] w fun e w'=>∃ r,e=.returned (.string r)∧byt r=textS l∧Below w.heap.size w w':=by
 obtain⟨hN,hNc,hcm⟩:=sch_len h
 simp only[maxLen] at hcm
 have hB0:Below w.heap.size w (w.alloc (.cells #[.slice A N c] 24)):=(zA _ w).alloc (zW _) _
 have b0:=Blk.new w 24 [.slice A N c]
 have T0:=zZ (rsmay_any A N c l (w.alloc (.cells #[.slice A N c] 24)) (sch_below hB0 h) htame)
 have Ht:=zZ (fun h=>textS_may (s:=l) h)
 have Hf:=zZ (fun h=>textS_not (s:=l) h)
 have Hs:=zZ (fun h=>mayS_small (s:=l) h)
 generalize mayS l=m at *
 go_enter Tryz.func109,Tryz.ntmps109
 go_wp2_with fail
 refine T0.out.mono ?_
 rintro e w1 ⟨rfl,hB1⟩
 have hBB:=hB0.trans (hB1.mono hB0.size)
 cases m
 ·go_wp2
  go_ret
  exact⟨_,rfl,by rw[Hf.out (by simp)];rfl,hBB⟩
 have b1:Blk w1 w.heap.size 24 [.slice A N c]:=b0.to hB1
 obtain⟨hl4,hsm⟩:=Hs.out (by simp)
 have hte:=Ht.out (by simp)
 have Hte:=zZ hte
 have hB2:=hBB.alloc hBB.size (.cells kts.toArray 9)
 have b2:=b1.alloc (.cells kts.toArray 9)
 have k2:=Blk.new w1 9 kts
 clear hte Ht Hf Hs T0 hB0 hB1 b0 hBB b1
 have hkts:kts.toArray=#[.string ⟨#[105,56]⟩,.string ⟨#[105,49,54]⟩,.string ⟨#[105,51,50]⟩,.string ⟨#[105,54,52]⟩,.string ⟨#[116]⟩,.string ⟨#[42]⟩]:=rfl
 rw[hkts] at hB2 b2 k2
 clear hkts
 go_wp2
 go_loopw [5,6] (fun ov iv w'=>∃ (i:Nat) (r:ByteArray),i≤N∧iv=.int .i64 (i:Int)∧ov=.string r∧r.size≤300 * i∧Hid (byt r=sText (l.take i))∧Below w.heap.size w w'∧Blk w' w.heap.size 24 [.slice A N c]∧Blk w' w1.heap.size 9 kts) (fun _ iv _=>N - (intOf iv).toNat)
 case atStart=>exact⟨0,⟨#[]⟩,by omega,rfl,rfl,zW _,zZ rfl,hB2,b2,k2⟩
 case round=>
  rename World=>wr
  obtain⟨i,r,hi,rfl,rfl,hrs,hr,hB,b3,k3⟩:=hrel
  clear hB2 b2 k2
  have c3:=b3.cell (j:=0) rfl
  by_cases hin:i<N
  ·have hfi:l[i]?=some l[i]:=zV (by omega)
   obtain⟨b,off,x,A2,c2,rfl,hb,p1,p2,e1,-,hfs⟩:=typ_at (sch_below hB h) hfi
   obtain⟨hs1,hs2,hs3⟩:=hsm l[i] (List.getElem_mem _)
   have hil:(i:Int)<(N:Int):=by omega
   have hi0:(0:Int)≤(i:Int):=by omega
   have htk:sText (l.take (i+1))=sText (l.take i)++tText l[i]:=by
    rw[List.take_add_one,hfi,Option.toList_some,sText_append,sText,sText,List.append_nil]
   have Htk:=zZ htk
   clear htk hfi
   generalize l[i]=t at *
   have hxs:x.size≤16:=by rw[← byt_length,e1];exact hs1
   have Hst:Hid (byt (r++x++⟨#[123]⟩)=sText (l.take i)++t.1++123 :: fsText (t.2.take 0)):=zZ (by rw[byt_append,byt_append,hr.out,e1];rfl)
   clear hr e1
   go_wp2
   go_loopw [5,7] (fun ov kv w'=>∃ (k:Nat) (q:ByteArray),k≤t.2.length∧kv=.int .i64 (k:Int)∧ov=.string q∧q.size≤300 * i+17+40 * k∧Hid (byt q=sText (l.take i)++t.1++123 :: fsText (t.2.take k))∧Below wr.heap.size wr w') (fun _ kv _=>t.2.length - (intOf kv).toNat)
   case atStart=>exact⟨0,_,by omega,rfl,rfl,by rw[ByteArray.size_append,ByteArray.size_append,show (⟨#[123]⟩:ByteArray).size=1 from rfl];omega,Hst,zA _ _⟩
   case round=>
    rename World=>v0
    obtain⟨k,q,hk,rfl,rfl,hqs,hq,hC⟩:=hrel
    clear Hst
    have hBv:=hB.trans (hC.mono hB.size)
    have b4:=b3.to hC
    have k4:=k3.to hC
    have c4:=b4.cell (j:=0) rfl
    have p2v:=(hC.cell (p:=⟨b,off+i * 2+1,none⟩) hb).trans p2
    by_cases hkl:k<t.2.length
    ·have hfk:t.2[k]?=some t.2[k]:=zV hkl
     obtain⟨bf,of,u,v,rfl,hbf,q1,q2,q3,hu,hv,-,-,-⟩:=fld_at (flds_below hC hfs) hfk
     obtain⟨⟨hk0,hk6⟩,hul,hvl⟩:=hs3 t.2[k] (List.getElem_mem _)
     have hkl2:(k:Int)<(t.2.length:Int):=by omega
     have hkl3:(0:Int)≤(k:Int):=by omega
     have htk:=fsText_take hfk
     have Htk2:=zZ htk
     clear htk hfk
     generalize t.2[k]=f at *
     obtain⟨kd,hkd⟩:=Int.eq_ofNat_of_zero_le hk0
     have hft:fText f=byt u++58 :: (kindT (kd:Int)++byt v):=by rw[fText,hu,hv,hkd]
     have Hft:=zZ hft
     rw[hkd] at q2 hk6
     have hus:u.size≤16:=by rw[← byt_length,hu];exact hul
     have hvs:v.size≤16:=by rw[← byt_length,hv];exact hvl
     have hD:Below v0.heap.size v0 (v0.alloc (.cells #[.string u,.int .i64 (kd:Int),.string v] 97)):=(zA _ v0).alloc (zW _) _
     obtain⟨kb,hkc,hkb,hkbs⟩:=kt_at (k4.to hD) (k:=kd) (by omega)
     have hkd1:(kd:Int)<6:=by omega
     have hkd0:(0:Int)≤(kd:Int):=by omega
     have HC:=zZ (hC.trans (hD.mono hC.size))
     have Hkb:=zZ hkb
     clear hft hu hv hul hvl hkd hk0 hkb hD b4 k4 hfs
     by_cases h0:k=0
     ·subst h0
      simp only[Nat.zero_mul,Nat.add_zero] at q1 q2 q3
      go_wp2
      go_quiet (fail)
      go_wp2
      go_roundw
      case rel=>exact⟨1,q++u++⟨#[58]⟩++kb++v,by omega,by go_num,rfl,by rw[ByteArray.size_append,ByteArray.size_append,ByteArray.size_append,ByteArray.size_append,show (⟨#[58]⟩:ByteArray).size=1 from rfl];omega,zZ (by rw[byt_append,byt_append,byt_append,byt_append,hq.out,Hkb.out,Htk2.out,List.take_zero,fsText];simp[Hft.out];rfl),below_drewN HC.out _⟩
      case measure=>simp[intOf];omega
     ·have h0':decide ((0:Int)<(k:Int))=true:=zJ (by omega)
      go_wp2
      go_quiet (fail)
      go_wp2
      go_roundw
      case rel=>exact⟨k+1,q++⟨#[44]⟩++u++⟨#[58]⟩++kb++v,by omega,by go_num,rfl,by rw[ByteArray.size_append,ByteArray.size_append,ByteArray.size_append,ByteArray.size_append,ByteArray.size_append,show (⟨#[58]⟩:ByteArray).size=1 from rfl,show (⟨#[44]⟩:ByteArray).size=1 from rfl];omega,zZ (by rw[byt_append,byt_append,byt_append,byt_append,byt_append,hq.out,Hkb.out,Htk2.out,if_neg h0];simp[Hft.out];rfl),below_drewN HC.out _⟩
      case measure=>simp[intOf];omega
    ·obtain rfl:k=t.2.length:=by omega
     have hq':=hq.out
     rw[List.take_length] at hq'
     have Hq:=zZ hq'
     clear hq hq'
     go_wp2
     go_roundw
     case rel=>exact⟨i+1,q++⟨#[125]⟩,by omega,by go_num,rfl,by rw[ByteArray.size_append,show (⟨#[125]⟩:ByteArray).size=1 from rfl];omega,zZ (by rw[byt_append,Hq.out,Htk.out,tText];simp;rfl),hBv,b4,k4⟩
     case measure=>simp[intOf];omega
  ·obtain rfl:i=N:=by omega
   have hr':=hr.out
   rw[List.take_of_length_le (by omega)] at hr'
   have Hr:=zZ hr'
   clear hr hr'
   go_wp2
   go_ret
   exact⟨r,rfl,Hr.out.trans Hte.out.symm,hB⟩
end Go.Proofs.YtnljjnkindjeoaaGreatDoor
