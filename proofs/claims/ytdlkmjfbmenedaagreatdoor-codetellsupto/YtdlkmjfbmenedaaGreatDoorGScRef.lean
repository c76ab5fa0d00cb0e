/- The texts ScRef3, ScGuess, ScRef2, ScRef4 in one (as far as the seat has what they speak of); what each proves, and its conditions, stands before it. -/
import Derived.Test.YtdlkmjfbmenedaaGreatDoorGGraph
import Derived.Test.YtdlkmjfbmenedaaGreatDoorGGen
import Derived.BigQuiet
import Derived.OwnWalk
import Derived.Test.YtdlkmjfbmenedaaGreatDoorGBytes
import Derived.Test.YtdlkmjfbmenedaaGreatDoorGRef
import Derived.Test.YtdlkmjfbmenedaaGreatDoorGText
import Derived.Test.YtdlkmjfbmenedaaGreatDoorAl
set_option maxRecDepth 100000
set_option maxHeartbeats 16000000
namespace Go.Proofs.YtdlkmjfbmenedaaGreatDoor
open Go.RowKit
def uptoL (st:List Nat):List Nat→List Nat × List Nat
 | []=>([],[])
 | c :: l=>if c∈st then ([],c :: l) else (c :: (uptoL st l).1,(uptoL st l).2)
theorem uptoL_yes {st:List Nat} {c:Nat} (hc:c∈st):∀ {a:List Nat} (b:List Nat),(∀ x∈a,x ∉ st)→uptoL st (a++c :: b)=(a,c :: b)
 | [],b,_=>by rw[List.nil_append,uptoL,if_pos hc]
 | x :: a,b,h=>by rw[List.cons_append,uptoL,if_neg (h x (by simp)),uptoL_yes hc b (fun y hy=>h y (by simp[hy]))]
theorem uptoL_no {st:List Nat}:∀ {a:List Nat},(∀ x∈a,x ∉ st)→uptoL st a=(a,[])
 | [],_=>rfl
 | x :: a,h=>by rw[uptoL,if_neg (h x (by simp)),uptoL_no (fun y hy=>h y (by simp[hy]))]
theorem uptoL_at {st l:List Nat} {i c:Nat} (h:∀ x∈l.take i,x ∉ st) (hi:l[i]?=some c) (hc:c∈st):uptoL st l=(l.take i,l.drop i):=by
 obtain⟨hlt,rfl⟩:=List.getElem?_eq_some_iff.1 hi
 have e:l=l.take i++l[i] :: l.drop (i+1):=by conv=>lhs;rw[← List.take_append_drop i l,List.drop_eq_getElem_cons hlt]
 have:=uptoL_yes hc (l.drop (i+1)) h
 rw[← e] at this
 rw[this,List.drop_eq_getElem_cons hlt]
theorem uptoL_len (st:List Nat):∀ l:List Nat,(uptoL st l).1.length≤l.length∧(uptoL st l).2.length≤l.length
 | []=>by simp[uptoL]
 | c :: l=>by
  have:=uptoL_len st l
  rw[uptoL]
  split
  ·simp
  ·simp;omega
theorem byt_get {s:ByteArray} {k:Nat} (h:k<s.size):(byt s)[k]?=some (s[k]'h).toNat:=by
 rw[zV (by simpa using h)]
 simp only[byt,List.getElem_map,Array.getElem_toList];rfl
theorem upto_any (s st:ByteArray) (w:World) (hs:s.size≤maxLen) (hst:st.size≤maxLen):Calls Tryz.prog 88 #[.string s,.string st] w fun e w'=>∃ x y,e=.returned (.tuple #[.string x,.string y]) ∧
  byt x=(uptoL (byt st) (byt s)).1∧byt y=(uptoL (byt st) (byt s)).2∧Below w.heap.size w w':=by
 simp only[maxLen] at hs hst
 have HN:=zZ (fun h=>uptoL_no (st:=byt st) (a:=byt s) h)
 have HS:=zZ (fun i c=>uptoL_at (st:=byt st) (l:=byt s) (i:=i) (c:=c))
 generalize uptoL (byt st) (byt s)=r at *
 go_enter Tryz.func88,Tryz.ntmps88
 go_wp2
 go_loopw [6] (fun iv w'=>∃ i:Nat,i≤s.size∧iv=.int .i64 (i:Int)∧Hid (∀ x∈(byt s).take i,x ∉ byt st)∧Below w.heap.size w w') (fun iv _=>s.size - (intOf iv).toNat)
 case atStart=>exact⟨0,by omega,rfl,zZ (by simp),zA _ _⟩
 case round=>
  rename World=>wr
  obtain⟨i,hi,rfl,hno,hB⟩:=hrel
  by_cases hil:i<s.size
  ·have hi1:(i:Int)<(s.size:Int):=by omega
   have hi0:(0:Int)≤(i:Int):=by omega
   have hgi:=byt_get hil
   have Hgi:=zZ hgi
   clear hgi
   go_wp2
   go_loopw [7] (fun kv w'=>∃ k:Nat,k≤st.size∧kv=.int .i64 (k:Int)∧Hid (∀ x∈(byt st).take k,x≠(s[i]'hil).toNat)∧Below w.heap.size w w') (fun kv _=>st.size - (intOf kv).toNat)
   case atStart=>exact⟨0,by omega,rfl,zZ (by simp),hB⟩
   case round=>
    rename World=>v0
    obtain⟨k,hk,rfl,hnk,hC⟩:=hrel
    clear hB
    by_cases hkl:k<st.size
    ·have hk1:(k:Int)<(st.size:Int):=by omega
     have hk0:(0:Int)≤(k:Int):=by omega
     have hgk:=byt_get hkl
     by_cases he:(s[i]'hil).toNat=(st[k]'hkl).toNat
     ·have he':(((s[i]'hil).toNat:Int) == ((st[k]'hkl).toNat:Int))=true:=by rw[he];simp
      have hmem:(s[i]'hil).toNat∈byt st:=by rw[he];exact List.mem_of_getElem? hgk
      obtain rfl:=HS.out i _ hno.out Hgi.out hmem
      have Hx:Hid (byt (s.extract 0 i)=(byt s).take i):=zZ (by rw[byt_extract,List.drop_zero])
      have Hy:Hid (byt (s.extract i s.size)=(byt s).drop i):=zZ (by rw[byt_extract,List.take_of_length_le (by simp)])
      have hi2:(i:Int)≤(s.size:Int):=by omega
      clear HN HS hno hgk he hmem hnk
      go_wp2
      go_quiet (fail)
      go_wp2
      go_quiet (fail)
      go_wp2
      go_ret2
      exact⟨_,_,rfl,Hx.out,Hy.out,below_drewN hC _⟩
     ·have he':(((s[i]'hil).toNat:Int) == ((st[k]'hkl).toNat:Int))=false:=by simp;omega
      have Hn:Hid (∀ x∈(byt st).take (k+1),x≠(s[i]'hil).toNat):=zZ (fun x hx=>by
       rw[List.take_add_one,hgk,List.mem_append] at hx
       rcases hx with hx | hx
       ·exact hnk.out x hx
       ·simp at hx;subst hx;exact fun e=>he e.symm)
      clear HN HS hgk he hnk
      go_wp2
      go_quiet (fail)
      go_wp2
      go_roundw
      case rel=>exact⟨k+1,by omega,by go_num,Hn,below_drewN hC _⟩
      case measure=>simp[intOf];omega
    ·obtain rfl:k=st.size:=by omega
     have Hn:Hid (∀ x∈(byt s).take (i+1),x ∉ byt st):=zZ (fun x hx=>by
      rw[List.take_add_one,Hgi.out,List.mem_append] at hx
      rcases hx with hx | hx
      ·exact hno.out x hx
      ·simp at hx
       subst hx
       intro hm
       have:=hnk.out _ (by rw[List.take_of_length_le (by simp)];exact hm)
       exact this rfl)
     clear HN HS hnk
     go_wp2
     go_roundw
     case rel=>exact⟨i+1,by omega,by go_num,Hn,hC⟩
     case measure=>simp[intOf];omega
  ·obtain rfl:i=s.size:=by omega
   have hno':=hno.out
   rw[List.take_of_length_le (by simp)] at hno'
   obtain rfl:=HN.out hno'
   clear HN HS hno hno'
   go_wp2
   go_ret2
   exact⟨_,_,rfl,rfl,rfl,hB⟩
def fieldK (k:List Nat):Int × List Nat:=
 if k=kindT 0 then (0,[]) else if k=kindT 1 then (1,[]) else if k=kindT 2 then (2,[]) else if k=kindT 3 then (3,[]) else if k=kindT 4 then (4,[])
 else if k.getD 0 0=42 then (5,k.drop 1) else (-1,[])
def fieldJ (j:Nat) (k:List Nat):Int × List Nat:=
 if j=0∧k=kindT 0 then (0,[]) else if j≤1∧k=kindT 1 then (1,[]) else if j≤2∧k=kindT 2 then (2,[]) else if j≤3∧k=kindT 3 then (3,[]) else if j≤4∧k=kindT 4 then (4,[])
 else if k.getD 0 0=42 then (5,k.drop 1) else (-1,[])
theorem fieldK_full {k:Int} {a:List Nat} (hk:0≤k∧k<6) (h5:k≠5→a=[]):fieldK (kindT k++a)=(k,a):=by
 have h6:k=0∨k=1∨k=2∨k=3∨k=4∨k=5:=by omega
 rcases h6 with rfl | rfl | rfl | rfl | rfl | rfl
 ·rw[h5 (by omega)];rfl
 ·rw[h5 (by omega)];rfl
 ·rw[h5 (by omega)];rfl
 ·rw[h5 (by omega)];rfl
 ·rw[h5 (by omega)];rfl
 ·simp[fieldK,kindT]
theorem fieldK_small (k:List Nat):-1≤(fieldK k).1∧(fieldK k).1<6∧(fieldK k).2.length≤k.length:=by
 unfold fieldK
 (repeat' split) <;> simp
theorem info_fld3:(Tryz.prog.info? 81).map (fun i=>(i.zero,i.size))=some (some (.agg #[.string ⟨#[]⟩,.int .i64 0,.string ⟨#[]⟩]),3):=by kernel_rfl
theorem rfldk_any (s t:ByteArray) (w:World) (ht:t.size≤maxLen):Calls Tryz.prog 89 #[.string s,.string t] w fun e w'=>∃ y,e=.returned (.agg #[.string s,.int .i64 (fieldK (byt t)).1,.string y])∧byt y=(fieldK (byt t)).2∧Below w.heap.size w w':=by
 simp only[maxLen] at ht
 obtain⟨hz,hsz⟩:=zero_of_info info_fld3
 have hB0:Below w.heap.size w ((w.alloc (.cells #[.string ⟨#[]⟩,.int .i64 0,.string ⟨#[]⟩] 81)).alloc (.cells #[.string ⟨#[105,56]⟩,.string ⟨#[105,49,54]⟩,.string ⟨#[105,51,50]⟩,.string ⟨#[105,54,52]⟩,.string ⟨#[116]⟩] 9)):=((zA _ w).alloc (zW _) _).alloc (by simp) _
 have b0:=(Blk.new w 81 [.string ⟨#[]⟩,.int .i64 0,.string ⟨#[]⟩]).alloc (.cells #[.string ⟨#[105,56]⟩,.string ⟨#[105,49,54]⟩,.string ⟨#[105,51,50]⟩,.string ⟨#[105,54,52]⟩,.string ⟨#[116]⟩] 9)
 have k0:=Blk.new (w.alloc (.cells #[.string ⟨#[]⟩,.int .i64 0,.string ⟨#[]⟩] 81)) 9 [.string ⟨#[105,56]⟩,.string ⟨#[105,49,54]⟩,.string ⟨#[105,51,50]⟩,.string ⟨#[105,54,52]⟩,.string ⟨#[116]⟩]
 simp only[World.size_alloc] at k0
 have Hk:Hid (fieldK (byt t)=fieldJ 0 (byt t)):=zZ (by simp[fieldK,fieldJ])
 have x0:=b0.cell (j:=0) rfl
 have x1:=b0.cell (j:=1) rfl
 have x2:=b0.cell (j:=2) rfl
 have f0:=b0.frozen 0
 have f1:=b0.frozen 1
 have f2:=b0.frozen 2
 have y0:=k0.cell (j:=0) rfl
 have y1:=k0.cell (j:=1) rfl
 have y2:=k0.cell (j:=2) rfl
 have y3:=k0.cell (j:=3) rfl
 have y4:=k0.cell (j:=4) rfl
 generalize fieldK (byt t)=r at *
 go_enter Tryz.func89,Tryz.ntmps89
 go_wp2
 generalize (w.alloc (.cells #[.string ⟨#[]⟩,.int .i64 0,.string ⟨#[]⟩] 81)).alloc (.cells #[.string ⟨#[105,56]⟩,.string ⟨#[105,49,54]⟩,.string ⟨#[105,51,50]⟩,.string ⟨#[105,54,52]⟩,.string ⟨#[116]⟩] 9)=w1 at *
 go_loop [6] (fun iv=>∃ i:Nat,i≤5∧iv=.int .i64 (i:Int)∧Hid (r=fieldJ i (byt t))) (fun iv=>5 - (intOf iv).toNat)
 case atStart=>exact⟨0,by omega,rfl,Hk⟩
 case round=>
  obtain⟨i,hi,rfl,hr⟩:=hrel
  clear Hk
  have h6:i=0∨i=1∨i=2∨i=3∨i=4∨i=5:=by omega
  rcases h6 with rfl | rfl | rfl | rfl | rfl | rfl
  ·have hq:=str_beq ⟨#[105,56]⟩ t
   rw[show (⟨#[105,56]⟩:ByteArray).toList=[105,56] by rw[ByteArray.toList_eq]] at hq
   have ek:byt ⟨#[105,56]⟩=kindT 0:=rfl
   rw[ek] at hq
   by_cases he:kindT 0=byt t
   ·rw[zJ he] at hq
    have Hr:Hid (r=(0,[])):=zZ (by rw[hr.out,← he];rfl)
    have Hrw:=zZ (((b0.set 0 (.string s)).set 1 (.int .i64 0)).set 2 (.string ⟨#[]⟩))
    have HBr:=zZ (((hB0.setCell (p:=⟨w.heap.size,0,none⟩) (zW w.heap.size) (.string s)).setCell (p:=⟨w.heap.size,1,none⟩) (zW w.heap.size) (.int .i64 0)).setCell (p:=⟨w.heap.size,2,none⟩) (zW w.heap.size) (.string ⟨#[]⟩))
    clear hr ek he
    go_wp2
    refine ret_cell0 rfl Hrw.out Tryz.underlying81 rfl hsz rfl rfl ?_
    exact⟨⟨#[]⟩,by rw[Hr.out];rfl,by rw[Hr.out];rfl,HBr.out⟩
   ·rw[zK he] at hq
    have Hr:Hid (r=fieldJ 1 (byt t)):=zZ (by
     have h2:byt t≠kindT 0:=fun e=>he e.symm
     rw[hr.out]
     simp[fieldJ,h2])
    clear hr ek he
    go_wp2
    go_round
    case rel=>exact⟨1,by omega,by go_num,Hr⟩
    case measure=>simp[intOf]
  ·have hq:=str_beq ⟨#[105,49,54]⟩ t
   rw[show (⟨#[105,49,54]⟩:ByteArray).toList=[105,49,54] by rw[ByteArray.toList_eq]] at hq
   have ek:byt ⟨#[105,49,54]⟩=kindT 1:=rfl
   rw[ek] at hq
   by_cases he:kindT 1=byt t
   ·rw[zJ he] at hq
    have Hr:Hid (r=(1,[])):=zZ (by rw[hr.out,← he];rfl)
    have Hrw:=zZ (((b0.set 0 (.string s)).set 1 (.int .i64 1)).set 2 (.string ⟨#[]⟩))
    have HBr:=zZ (((hB0.setCell (p:=⟨w.heap.size,0,none⟩) (zW w.heap.size) (.string s)).setCell (p:=⟨w.heap.size,1,none⟩) (zW w.heap.size) (.int .i64 1)).setCell (p:=⟨w.heap.size,2,none⟩) (zW w.heap.size) (.string ⟨#[]⟩))
    clear hr ek he
    go_wp2
    refine ret_cell0 rfl Hrw.out Tryz.underlying81 rfl hsz rfl rfl ?_
    exact⟨⟨#[]⟩,by rw[Hr.out];rfl,by rw[Hr.out];rfl,HBr.out⟩
   ·rw[zK he] at hq
    have Hr:Hid (r=fieldJ 2 (byt t)):=zZ (by
     have h2:byt t≠kindT 1:=fun e=>he e.symm
     rw[hr.out]
     simp[fieldJ,h2])
    clear hr ek he
    go_wp2
    go_round
    case rel=>exact⟨2,by omega,by go_num,Hr⟩
    case measure=>simp[intOf]
  ·have hq:=str_beq ⟨#[105,51,50]⟩ t
   rw[show (⟨#[105,51,50]⟩:ByteArray).toList=[105,51,50] by rw[ByteArray.toList_eq]] at hq
   have ek:byt ⟨#[105,51,50]⟩=kindT 2:=rfl
   rw[ek] at hq
   by_cases he:kindT 2=byt t
   ·rw[zJ he] at hq
    have Hr:Hid (r=(2,[])):=zZ (by rw[hr.out,← he];rfl)
    have Hrw:=zZ (((b0.set 0 (.string s)).set 1 (.int .i64 2)).set 2 (.string ⟨#[]⟩))
    have HBr:=zZ (((hB0.setCell (p:=⟨w.heap.size,0,none⟩) (zW w.heap.size) (.string s)).setCell (p:=⟨w.heap.size,1,none⟩) (zW w.heap.size) (.int .i64 2)).setCell (p:=⟨w.heap.size,2,none⟩) (zW w.heap.size) (.string ⟨#[]⟩))
    clear hr ek he
    go_wp2
    refine ret_cell0 rfl Hrw.out Tryz.underlying81 rfl hsz rfl rfl ?_
    exact⟨⟨#[]⟩,by rw[Hr.out];rfl,by rw[Hr.out];rfl,HBr.out⟩
   ·rw[zK he] at hq
    have Hr:Hid (r=fieldJ 3 (byt t)):=zZ (by
     have h2:byt t≠kindT 2:=fun e=>he e.symm
     rw[hr.out]
     simp[fieldJ,h2])
    clear hr ek he
    go_wp2
    go_round
    case rel=>exact⟨3,by omega,by go_num,Hr⟩
    case measure=>simp[intOf]
  ·have hq:=str_beq ⟨#[105,54,52]⟩ t
   rw[show (⟨#[105,54,52]⟩:ByteArray).toList=[105,54,52] by rw[ByteArray.toList_eq]] at hq
   have ek:byt ⟨#[105,54,52]⟩=kindT 3:=rfl
   rw[ek] at hq
   by_cases he:kindT 3=byt t
   ·rw[zJ he] at hq
    have Hr:Hid (r=(3,[])):=zZ (by rw[hr.out,← he];rfl)
    have Hrw:=zZ (((b0.set 0 (.string s)).set 1 (.int .i64 3)).set 2 (.string ⟨#[]⟩))
    have HBr:=zZ (((hB0.setCell (p:=⟨w.heap.size,0,none⟩) (zW w.heap.size) (.string s)).setCell (p:=⟨w.heap.size,1,none⟩) (zW w.heap.size) (.int .i64 3)).setCell (p:=⟨w.heap.size,2,none⟩) (zW w.heap.size) (.string ⟨#[]⟩))
    clear hr ek he
    go_wp2
    refine ret_cell0 rfl Hrw.out Tryz.underlying81 rfl hsz rfl rfl ?_
    exact⟨⟨#[]⟩,by rw[Hr.out];rfl,by rw[Hr.out];rfl,HBr.out⟩
   ·rw[zK he] at hq
    have Hr:Hid (r=fieldJ 4 (byt t)):=zZ (by
     have h2:byt t≠kindT 3:=fun e=>he e.symm
     rw[hr.out]
     simp[fieldJ,h2])
    clear hr ek he
    go_wp2
    go_round
    case rel=>exact⟨4,by omega,by go_num,Hr⟩
    case measure=>simp[intOf]
  ·have hq:=str_beq ⟨#[116]⟩ t
   rw[show (⟨#[116]⟩:ByteArray).toList=[116] by rw[ByteArray.toList_eq]] at hq
   have ek:byt ⟨#[116]⟩=kindT 4:=rfl
   rw[ek] at hq
   by_cases he:kindT 4=byt t
   ·rw[zJ he] at hq
    have Hr:Hid (r=(4,[])):=zZ (by rw[hr.out,← he];rfl)
    have Hrw:=zZ (((b0.set 0 (.string s)).set 1 (.int .i64 4)).set 2 (.string ⟨#[]⟩))
    have HBr:=zZ (((hB0.setCell (p:=⟨w.heap.size,0,none⟩) (zW w.heap.size) (.string s)).setCell (p:=⟨w.heap.size,1,none⟩) (zW w.heap.size) (.int .i64 4)).setCell (p:=⟨w.heap.size,2,none⟩) (zW w.heap.size) (.string ⟨#[]⟩))
    clear hr ek he
    go_wp2
    refine ret_cell0 rfl Hrw.out Tryz.underlying81 rfl hsz rfl rfl ?_
    exact⟨⟨#[]⟩,by rw[Hr.out];rfl,by rw[Hr.out];rfl,HBr.out⟩
   ·rw[zK he] at hq
    have Hr:Hid (r=fieldJ 5 (byt t)):=zZ (by
     have h2:byt t≠kindT 4:=fun e=>he e.symm
     rw[hr.out]
     simp[fieldJ,h2])
    clear hr ek he
    go_wp2
    go_round
    case rel=>exact⟨5,by omega,by go_num,Hr⟩
    case measure=>simp[intOf]
  ·have hr':r=if (byt t).getD 0 0=42 then (5,(byt t).drop 1) else (-1,[]):=by rw[hr.out];simp[fieldJ]
   have Hr:=zZ hr'
   clear hr hr'
   by_cases h0:t.size=0
   ·have h0':decide ((0:Int)<(t.size:Int))=false:=zK (by omega)
    have hb:byt t=[]:=List.eq_nil_of_length_eq_zero (by rw[byt_length];exact h0)
    have Hr2:Hid (r=(-1,[])):=zZ (by rw[Hr.out,hb];rfl)
    have Hrw:=zZ (((b0.set 0 (.string s)).set 1 (.int .i64 (-1))).set 2 (.string ⟨#[]⟩))
    have HBr:=zZ (((hB0.setCell (p:=⟨w.heap.size,0,none⟩) (zW w.heap.size) (.string s)).setCell (p:=⟨w.heap.size,1,none⟩) (zW w.heap.size) (.int .i64 (-1))).setCell (p:=⟨w.heap.size,2,none⟩) (zW w.heap.size) (.string ⟨#[]⟩))
    clear hb Hr
    go_wp2
    refine ret_cell0 rfl Hrw.out Tryz.underlying81 rfl hsz rfl rfl ?_
    exact⟨⟨#[]⟩,by rw[Hr2.out];rfl,by rw[Hr2.out];rfl,HBr.out⟩
   ·have h0':decide ((0:Int)<(t.size:Int))=true:=zJ (by omega)
    have hlt:0<t.size:=by omega
    have h1:(0:Int)<(t.size:Int):=by omega
    have h2:(1:Int)≤(t.size:Int):=by omega
    have hg:(byt t).getD 0 0=(t[0]'hlt).toNat:=by rw[List.getD_eq_getElem?_getD,byt_get hlt];rfl
    by_cases h42:(t[0]'hlt).toNat=42
    ·have h42':(((t[0]'hlt).toNat:Int) == 42)=true:=by rw[h42];rfl
     have Hr2:Hid (r=(5,(byt t).drop 1)):=zZ (by rw[Hr.out,hg,if_pos h42])
     have Hy:Hid (byt (t.extract 1 t.size)=(byt t).drop 1):=zZ (by rw[byt_extract,List.take_of_length_le (by simp)])
     have Hrw:=zZ (((b0.set 0 (.string s)).set 1 (.int .i64 5)).set 2 (.string (t.extract 1 t.size)))
     have HBr:=zZ (((hB0.setCell (p:=⟨w.heap.size,0,none⟩) (zW w.heap.size) (.string s)).setCell (p:=⟨w.heap.size,1,none⟩) (zW w.heap.size) (.int .i64 5)).setCell (p:=⟨w.heap.size,2,none⟩) (zW w.heap.size) (.string (t.extract 1 t.size)))
     clear hg Hr h42
     go_wp2
     refine ret_cell0 rfl Hrw.out Tryz.underlying81 rfl hsz rfl rfl ?_
     exact⟨t.extract 1 t.size,by rw[Hr2.out];rfl,by rw[Hr2.out,Hy.out],HBr.out⟩
    ·have h42':(((t[0]'hlt).toNat:Int) == 42)=false:=by simp;omega
     have Hr2:Hid (r=(-1,[])):=zZ (by rw[Hr.out,hg,if_neg h42])
     have Hrw:=zZ (((b0.set 0 (.string s)).set 1 (.int .i64 (-1))).set 2 (.string ⟨#[]⟩))
     have HBr:=zZ (((hB0.setCell (p:=⟨w.heap.size,0,none⟩) (zW w.heap.size) (.string s)).setCell (p:=⟨w.heap.size,1,none⟩) (zW w.heap.size) (.int .i64 (-1))).setCell (p:=⟨w.heap.size,2,none⟩) (zW w.heap.size) (.string ⟨#[]⟩))
     clear hg Hr h42
     go_wp2
     refine ret_cell0 rfl Hrw.out Tryz.underlying81 rfl hsz rfl rfl ?_
     exact⟨⟨#[]⟩,by rw[Hr2.out];rfl,by rw[Hr2.out];rfl,HBr.out⟩
end Go.Proofs.YtdlkmjfbmenedaaGreatDoor
namespace Go.Proofs.YtdlkmjfbmenedaaGreatDoor
def Whole (l:List Nat) (x:Sch):Prop:=mayS x=true∧sText x=l
def OI (l:List Nat) (pre:Sch) (rest:List Nat):Prop:=∀ x,Whole l x→∃ suf,x=pre++suf∧sText suf=rest
def RestIs (gs:List Fld) (suf:Sch) (rest:List Nat):Prop:=
 (gs=[]∧rest=125 :: sText suf)∨rest=123 :: (fsText gs++125 :: sText suf)∨(gs≠[]∧rest=44 :: (fsText gs++125 :: sText suf))
def II (l:List Nat) (pre:Sch) (nm:List Nat) (fs:List Fld) (rest:List Nat):Prop:=
 ∀ x,Whole l x→∃ t suf gs,x=pre++t :: suf∧t.1=nm∧t.2=fs++gs∧RestIs gs suf rest
theorem oi_start (l:List Nat):OI l [] l:=fun x h=>⟨x,rfl,h.2⟩
theorem whole_good {l:List Nat} {x pre suf:Sch} {t:Typ} (h:Whole l x) (e:x=pre++t :: suf):goodT t∧t.2.length≤5:=by
 have hm:t∈x:=by rw[e];simp
 refine⟨mayS_good h.1 t hm,?_⟩
 obtain⟨i,hi⟩:=List.getElem?_of_mem hm
 exact ((mayT_iff x i t).1 (((mayS_iff x).1 h.1).2 i t hi)).2.2.1
theorem ii_start {l:List Nat} {pre:Sch} {rest:List Nat} (h:OI l pre rest) (hr:rest≠[]):II l pre (uptoL [123] rest).1 [] (uptoL [123] rest).2:=fun x hx=>by
 obtain⟨suf,e,hs⟩:=h x hx
 cases suf with
 | nil=>exact absurd hs.symm hr
 | cons t suf=>
  obtain⟨hg,_⟩:=whole_good hx e
  have h1:rest=t.1++123 :: (fsText t.2++125 :: sText suf):=by rw[← hs,sText,tText,List.append_assoc,List.cons_append,List.append_assoc,List.singleton_append]
  have h2:uptoL [123] rest=(t.1,123 :: (fsText t.2++125 :: sText suf)):=by
   rw[h1]
   exact uptoL_yes (by simp) _ fun y hy=>by simpa using (hg.1.2 y hy).2.2.1
  rw[h2]
  exact⟨t,suf,t.2,e,rfl,rfl,.inr (.inl rfl)⟩
theorem fsText_head {gs:List Fld} (hg:∀ f∈gs,goodF f) (h:gs≠[]):∃ c r,fsText gs=c :: r∧c≠125:=by
 match gs,h with
 | f :: r,_=>
  have h1:=hg f (by simp)
  obtain⟨c,q,hq⟩:=List.exists_cons_of_ne_nil h1.1.1
  have hc:=(h1.1.2 c (by rw[hq];simp)).2.2.2
  cases r with
  | nil=>exact⟨c,q++58 :: (kindT f.2.1++f.2.2),by rw[fsText_one,fText,hq];rfl,hc⟩
  | cons g r=>exact⟨c,q++58 :: (kindT f.2.1++f.2.2)++44 :: fsText (g :: r),by rw[fsText_two,fText,hq];rfl,hc⟩
theorem ii_none {l:List Nat} {pre:Sch} {nm:List Nat} {fs:List Fld} {r:List Nat} (h:II l pre nm fs (123 :: 125 :: r)):II l pre nm fs (125 :: r):=fun x hx=>by
 obtain⟨t,suf,gs,e,h1,h2,h3⟩:=h x hx
 obtain⟨hg,_⟩:=whole_good hx e
 refine⟨t,suf,gs,e,h1,h2,?_⟩
 rcases h3 with⟨_,h3⟩ | h3 | ⟨_,h3⟩
 ·simp at h3
 ·simp only[List.cons.injEq,true_and] at h3
  by_cases hgs:gs=[]
  ·subst hgs
   simp[fsText] at h3
   exact .inl ⟨rfl,by rw[h3]⟩
  ·obtain⟨c,q,hq,hc⟩:=fsText_head (fun f hf=>hg.2 f (by rw[h2];simp[hf])) hgs
   rw[hq] at h3
   simp at h3
   exact absurd h3.1.symm hc
 ·simp at h3
def seenF (r:List Nat):Fld:=((uptoL [58] r).1,fieldK ((uptoL [44,125] (uptoL [58] r).2).1.drop 1))
def seenR (r:List Nat):List Nat:=(uptoL [44,125] (uptoL [58] r).2).2
theorem seen_good {g:Fld} (hg:goodF g) {c:Nat} {q:List Nat} (hc:c=44∨c=125):seenF (fText g++c :: q)=g∧seenR (fText g++c :: q)=c :: q:=by
 have h1:uptoL [58] (fText g++c :: q)=(g.1,58 :: (kindT g.2.1++g.2.2)++c :: q):=by
  rw[fText,List.append_assoc]
  exact uptoL_yes (by simp) _ fun y hy=>by simpa using (hg.1.2 y hy).2.1
 have h2:uptoL [44,125] (58 :: (kindT g.2.1++g.2.2)++c :: q)=(58 :: (kindT g.2.1++g.2.2),c :: q):=by
  refine uptoL_yes (by simpa using hc) _ fun y hy=>?_
  have:y≠44∧y≠125:=by
   rw[List.mem_cons,List.mem_append] at hy
   rcases hy with rfl | hy | hy
   ·omega
   ·have:=kindT_no _ y hy;omega
   ·have:=goodF_to hg y hy;omega
  simpa using this
 rw[seenF,seenR,h1]
 simp only[h2,List.drop_succ_cons,List.drop_zero]
 rw[fieldK_full hg.2.1 hg.2.2.2]
 exact⟨rfl,trivial⟩
theorem ii_field {l:List Nat} {pre:Sch} {nm:List Nat} {fs:List Fld} {c:Nat} {r:List Nat} (h:II l pre nm fs (c :: r)) (hc:c≠125) (hr:¬ (c=123∧r.getD 0 0=125)):II l pre nm (fs++[seenF r]) (seenR r):=fun x hx=>by
 obtain⟨t,suf,gs,e,h1,h2,h3⟩:=h x hx
 obtain⟨hg,_⟩:=whole_good hx e
 have h4:gs≠[]∧r=fsText gs++125 :: sText suf:=by
  rcases h3 with⟨_,h3⟩ | h3 | ⟨h4,h3⟩
  ·simp at h3;exact absurd h3.1 hc
  ·simp only[List.cons.injEq] at h3
   refine⟨fun e=>hr ⟨h3.1,?_⟩,h3.2⟩
   rw[h3.2,e];rfl
  ·simp only[List.cons.injEq] at h3
   exact⟨h4,h3.2⟩
 obtain⟨g,gs',rfl⟩:=List.exists_cons_of_ne_nil h4.1
 have hgg:=hg.2 g (by rw[h2];simp)
 cases gs' with
 | nil=>
  rw[fsText_one] at h4
  obtain⟨s1,s2⟩:=seen_good hgg (c:=125) (q:=sText suf) (.inr rfl)
  rw[← h4.2] at s1 s2
  exact⟨t,suf,[],e,h1,by rw[h2,s1];simp,.inl ⟨rfl,s2⟩⟩
 | cons g' gs'=>
  rw[fsText_two,List.append_assoc,List.cons_append] at h4
  obtain⟨s1,s2⟩:=seen_good hgg (c:=44) (q:=fsText (g' :: gs')++125 :: sText suf) (.inl rfl)
  rw[← h4.2] at s1 s2
  exact⟨t,suf,g' :: gs',e,h1,by rw[h2,s1];simp,.inr (.inr ⟨by simp,s2⟩)⟩
theorem ii_end {l:List Nat} {pre:Sch} {nm:List Nat} {fs:List Fld} {rest:List Nat} (h:II l pre nm fs rest) (hend:rest.length≤1∨rest.getD 0 0=125∨5<fs.length):OI l (pre++[(nm,fs)]) (rest.drop 1):=fun x hx=>by
 obtain⟨t,suf,gs,e,h1,h2,h3⟩:=h x hx
 obtain⟨_,hl⟩:=whole_good hx e
 have h4:gs=[]∧rest=125 :: sText suf:=by
  have hlen:∀ c:Nat,c≠125→rest=c :: (fsText gs++125 :: sText suf)→False:=fun c hc he=>by
   rcases hend with h5 | h5 | h5
   ·rw[he] at h5;simp at h5
   ·rw[he] at h5;exact hc h5
   ·rw[h2,List.length_append] at hl;omega
  rcases h3 with h3 | h3 | ⟨_,h3⟩
  ·exact h3
  ·exact absurd h3 (hlen 123 (by omega))
  ·exact absurd h3 (hlen 44 (by omega))
 obtain⟨rfl,rfl⟩:=h4
 refine⟨suf,?_,rfl⟩
 have ht:t=(nm,fs):=Prod.ext h1 (by rw[h2];simp)
 rw[e,ht,List.append_assoc]
 rfl
theorem oi_end {l:List Nat} {pre:Sch} {rest:List Nat} (h:OI l pre rest) (hend:rest=[]∨4<pre.length) (x:Sch) (hx:Whole l x):x=pre:=by
 obtain⟨suf,e,hs⟩:=h x hx
 rcases hend with rfl | h5
 ·cases suf with
  | nil=>rw[e,List.append_nil]
  | cons t suf=>exact absurd hs (sText_ne (by simp))
 ·have:=((mayS_iff x).1 hx.1).1.2
  rw[e,List.length_append] at this
  omega
theorem read_guess {l:List Nat} {pre:Sch} (h:∀ x,Whole l x→x=pre):readS l=if mayS pre=true∧textS pre=l then some pre else none:=by
 by_cases hp:mayS pre=true∧textS pre=l
 ·rw[if_pos hp]
  exact (readS_iff _ _).2 ⟨hp.1,by rw[← textS_may hp.1];exact hp.2⟩
 ·rw[if_neg hp]
  cases hr:readS l with
  | none=>rfl
  | some x=>
   obtain⟨h1,h2⟩:=(readS_iff _ _).1 hr
   obtain rfl:=h x ⟨h1,h2⟩
   exact absurd ⟨h1,by rw[textS_may h1];exact h2⟩ hp
end Go.Proofs.YtdlkmjfbmenedaaGreatDoor
namespace Go.Proofs.YtdlkmjfbmenedaaGreatDoor
open Go.RowKit
theorem kt_at {w:World} {g:Nat} {ty:TypeId} (b:Blk w g ty kts) {k:Nat} (hk:k<6):∃ q:ByteArray,w.cell? ⟨g,k,none⟩=some (.string q)∧byt q=kindT (k:Int)∧q.size≤3:=by
 have h6:k=0∨k=1∨k=2∨k=3∨k=4∨k=5:=by omega
 rcases h6 with rfl | rfl | rfl | rfl | rfl | rfl
 ·exact⟨⟨#[105,56]⟩,b.cell rfl,rfl,by decide⟩
 ·exact⟨⟨#[105,49,54]⟩,b.cell rfl,rfl,by decide⟩
 ·exact⟨⟨#[105,51,50]⟩,b.cell rfl,rfl,by decide⟩
 ·exact⟨⟨#[105,54,52]⟩,b.cell rfl,rfl,by decide⟩
 ·exact⟨⟨#[116]⟩,b.cell rfl,rfl,by decide⟩
 ·exact⟨⟨#[42]⟩,b.cell rfl,rfl,by decide⟩
theorem rtext_any (A:Option Addr) (N c:Nat) (l:Sch) (w:World) (h:rSch (All w) w [.slice A N c] l) (htame:tameS l):
  Calls Tryz.prog 47 #[.agg #[.slice A N c]] w fun e w'=>∃ r,e=.returned (.string r)∧byt r=textS l∧Below w.heap.size w w':=by
 obtain⟨hN,hNc,hcm⟩:=sch_len h
 simp only[maxLen] at hcm
 have hB0:Below w.heap.size w (w.alloc (.cells #[.slice A N c] 24)):=(zA _ w).alloc (zW _) _
 have b0:=Blk.new w 24 [.slice A N c]
 have T0:=zZ (rsmay_any A N c l (w.alloc (.cells #[.slice A N c] 24)) (sch_below hB0 h) htame)
 have Ht:=zZ (fun h=>textS_may (s:=l) h)
 have Hf:=zZ (fun h=>textS_not (s:=l) h)
 have Hs:=zZ (fun h=>mayS_small (s:=l) h)
 generalize mayS l=m at *
 go_enter Tryz.func47,Tryz.ntmps47
 go_wp2_with fail
 refine T0.out.mono ?_
 rintro e w1 ⟨rfl,hB1⟩
 have hBB:=hB0.trans (hB1.mono hB0.size)
 cases m
 ·go_wp2
  go_ret
  exact⟨_,rfl,by rw[Hf.out (by simp)];rfl,hBB⟩
 have b1:Blk w1 w.heap.size 24 [.slice A N c]:=b0.to hB1
 obtain⟨hl4,hsm⟩:=Hs.out (by simp)
 have hte:=Ht.out (by simp)
 have Hte:=zZ hte
 have hB2:=hBB.alloc hBB.size (.cells kts.toArray 9)
 have b2:=b1.alloc (.cells kts.toArray 9)
 have k2:=Blk.new w1 9 kts
 clear hte Ht Hf Hs T0 hB0 hB1 b0 hBB b1
 have hkts:kts.toArray=#[.string ⟨#[105,56]⟩,.string ⟨#[105,49,54]⟩,.string ⟨#[105,51,50]⟩,.string ⟨#[105,54,52]⟩,.string ⟨#[116]⟩,.string ⟨#[42]⟩]:=rfl
 rw[hkts] at hB2 b2 k2
 clear hkts
 go_wp2
 go_loopw [5,6] (fun ov iv w'=>∃ (i:Nat) (r:ByteArray),i≤N∧iv=.int .i64 (i:Int)∧ov=.string r∧r.size≤300 * i∧Hid (byt r=sText (l.take i))∧Below w.heap.size w w'∧Blk w' w.heap.size 24 [.slice A N c]∧Blk w' w1.heap.size 9 kts) (fun _ iv _=>N - (intOf iv).toNat)
 case atStart=>exact⟨0,⟨#[]⟩,by omega,rfl,rfl,zW _,zZ rfl,hB2,b2,k2⟩
 case round=>
  rename World=>wr
  obtain⟨i,r,hi,rfl,rfl,hrs,hr,hB,b3,k3⟩:=hrel
  clear hB2 b2 k2
  have c3:=b3.cell (j:=0) rfl
  by_cases hin:i<N
  ·have hfi:l[i]?=some l[i]:=zV (by omega)
   obtain⟨b,off,x,A2,c2,rfl,hb,p1,p2,e1,-,hfs⟩:=typ_at (sch_below hB h) hfi
   obtain⟨hs1,hs2,hs3⟩:=hsm l[i] (List.getElem_mem _)
   have hil:(i:Int)<(N:Int):=by omega
   have hi0:(0:Int)≤(i:Int):=by omega
   have htk:sText (l.take (i+1))=sText (l.take i)++tText l[i]:=by
    rw[List.take_add_one,hfi,Option.toList_some,sText_append,sText,sText,List.append_nil]
   have Htk:=zZ htk
   clear htk hfi
   generalize l[i]=t at *
   have hxs:x.size≤16:=by rw[← byt_length,e1];exact hs1
   have Hst:Hid (byt (r++x++⟨#[123]⟩)=sText (l.take i)++t.1++123 :: fsText (t.2.take 0)):=zZ (by rw[byt_append,byt_append,hr.out,e1];rfl)
   clear hr e1
   go_wp2
   go_loopw [5,7] (fun ov kv w'=>∃ (k:Nat) (q:ByteArray),k≤t.2.length∧kv=.int .i64 (k:Int)∧ov=.string q∧q.size≤300 * i+17+40 * k∧Hid (byt q=sText (l.take i)++t.1++123 :: fsText (t.2.take k))∧Below wr.heap.size wr w') (fun _ kv _=>t.2.length - (intOf kv).toNat)
   case atStart=>exact⟨0,_,by omega,rfl,rfl,by rw[ByteArray.size_append,ByteArray.size_append,show (⟨#[123]⟩:ByteArray).size=1 from rfl];omega,Hst,zA _ _⟩
   case round=>
    rename World=>v0
    obtain⟨k,q,hk,rfl,rfl,hqs,hq,hC⟩:=hrel
    clear Hst
    have hBv:=hB.trans (hC.mono hB.size)
    have b4:=b3.to hC
    have k4:=k3.to hC
    have c4:=b4.cell (j:=0) rfl
    have p2v:=(hC.cell (p:=⟨b,off+i * 2+1,none⟩) hb).trans p2
    by_cases hkl:k<t.2.length
    ·have hfk:t.2[k]?=some t.2[k]:=zV hkl
     obtain⟨bf,of,u,v,rfl,hbf,q1,q2,q3,hu,hv,-,-,-⟩:=fld_at (flds_below hC hfs) hfk
     obtain⟨⟨hk0,hk6⟩,hul,hvl⟩:=hs3 t.2[k] (List.getElem_mem _)
     have hkl2:(k:Int)<(t.2.length:Int):=by omega
     have hkl3:(0:Int)≤(k:Int):=by omega
     have htk:=fsText_take hfk
     have Htk2:=zZ htk
     clear htk hfk
     generalize t.2[k]=f at *
     obtain⟨kd,hkd⟩:=Int.eq_ofNat_of_zero_le hk0
     have hft:fText f=byt u++58 :: (kindT (kd:Int)++byt v):=by rw[fText,hu,hv,hkd]
     have Hft:=zZ hft
     rw[hkd] at q2 hk6
     have hus:u.size≤16:=by rw[← byt_length,hu];exact hul
     have hvs:v.size≤16:=by rw[← byt_length,hv];exact hvl
     have hD:Below v0.heap.size v0 (v0.alloc (.cells #[.string u,.int .i64 (kd:Int),.string v] 81)):=(zA _ v0).alloc (zW _) _
     obtain⟨kb,hkc,hkb,hkbs⟩:=kt_at (k4.to hD) (k:=kd) (by omega)
     have hkd1:(kd:Int)<6:=by omega
     have hkd0:(0:Int)≤(kd:Int):=by omega
     have HC:=zZ (hC.trans (hD.mono hC.size))
     have Hkb:=zZ hkb
     clear hft hu hv hul hvl hkd hk0 hkb hD b4 k4 hfs
     by_cases h0:k=0
     ·subst h0
      simp only[Nat.zero_mul,Nat.add_zero] at q1 q2 q3
      go_wp2
      go_quiet (fail)
      go_wp2
      go_roundw
      case rel=>exact⟨1,q++u++⟨#[58]⟩++kb++v,by omega,by go_num,rfl,by rw[ByteArray.size_append,ByteArray.size_append,ByteArray.size_append,ByteArray.size_append,show (⟨#[58]⟩:ByteArray).size=1 from rfl];omega,zZ (by rw[byt_append,byt_append,byt_append,byt_append,hq.out,Hkb.out,Htk2.out,List.take_zero,fsText];simp[Hft.out];rfl),below_drewN HC.out _⟩
      case measure=>simp[intOf];omega
     ·have h0':decide ((0:Int)<(k:Int))=true:=zJ (by omega)
      go_wp2
      go_quiet (fail)
      go_wp2
      go_roundw
      case rel=>exact⟨k+1,q++⟨#[44]⟩++u++⟨#[58]⟩++kb++v,by omega,by go_num,rfl,by rw[ByteArray.size_append,ByteArray.size_append,ByteArray.size_append,ByteArray.size_append,ByteArray.size_append,show (⟨#[58]⟩:ByteArray).size=1 from rfl,show (⟨#[44]⟩:ByteArray).size=1 from rfl];omega,zZ (by rw[byt_append,byt_append,byt_append,byt_append,byt_append,hq.out,Hkb.out,Htk2.out,if_neg h0];simp[Hft.out];rfl),below_drewN HC.out _⟩
      case measure=>simp[intOf];omega
    ·obtain rfl:k=t.2.length:=by omega
     have hq':=hq.out
     rw[List.take_length] at hq'
     have Hq:=zZ hq'
     clear hq hq'
     go_wp2
     go_roundw
     case rel=>exact⟨i+1,q++⟨#[125]⟩,by omega,by go_num,rfl,by rw[ByteArray.size_append,show (⟨#[125]⟩:ByteArray).size=1 from rfl];omega,zZ (by rw[byt_append,Hq.out,Htk.out,tText];simp;rfl),hBv,b4,k4⟩
     case measure=>simp[intOf];omega
  ·obtain rfl:i=N:=by omega
   have hr':=hr.out
   rw[List.take_of_length_le (by omega)] at hr'
   have Hr:=zZ hr'
   clear hr hr'
   go_wp2
   go_ret
   exact⟨r,rfl,Hr.out.trans Hte.out.symm,hB⟩
theorem own_keepB {w w':World} {base e size n:Nat} {v:Value} {xs:List Value} (h:w.ownsRow base e size v n xs) (hk:∀ b,v.ownBlock=some b→w'.heap[b]?=w.heap[b]?):w'.ownsRow base e size v n xs:=by
 refine⟨h.1,?_⟩
 rcases h.2 with h | ⟨g,cap,cur,h1,h2,h3,h4⟩
 ·exact .inl h
 ·exact .inr ⟨g,cap,cur,h1,h2,(hk g (by rw[h1];rfl)).trans h3,h4⟩
theorem Blk.grown {w w':World} {g:Nat} {t:TypeId} {cs:List Value} {base e size n:Nat} {v:Value} {xs:List Value} (h:Blk w g t cs) (ho:w.ownsRow base e size v n xs) (hg:w.grownBy w' v.ownBlock) (hlt:g<base):Blk w' g t cs:=
 (hg.block g h.lt (fun e=>by have:=(ho.lt g e.symm).1;omega)).trans h
structure RdAt (w:World) (l:List Nat) (N:Nat) (r:ByteArray) (pre:Sch) (vO:Value) (xs:List Value) (w':World):Prop where
 room:r.size≤N
 few:pre.length≤5
 tame:tameS pre
 bel:Below w.heap.size w w'
 bR:Blk w' w.heap.size 24 [.slice none 0 0]
 bO:Blk w' (w.heap.size+1) 24 [vO]
 own:w'.ownsRow (w.heap.size+1+1) 44 2 vO pre.length xs
 ahead:Chunks 2 (rTyp (Oth (w.heap.size+1+1) vO w') w') xs pre
 oi:OI l pre (byt r)
structure RfAt (wo:World) (l:List Nat) (N:Nat) (pre:Sch) (nm r:ByteArray) (fs:List Fld) (vF:Value) (ys:List Value) (w':World):Prop where
 room:r.size≤N
 few:fs.length≤6
 tame:∀ f∈fs,tame f.1
 bel:Below wo.heap.size wo w'
 bT:Blk w' wo.heap.size 44 [.string nm,vF]
 own:w'.ownsRow (wo.heap.size+1) 81 3 vF fs.length ys
 ahead:Chunks 3 (rFld (fun _=>False) wo) ys fs
 ii:II l pre (byt nm) fs (byt r)
theorem rread_any (s:ByteArray) (w:World) (hs:s.size≤1000):
  Calls Tryz.prog 59 #[.string s] w fun e w'=>∃ A n c b,e=.returned (.tuple #[.agg #[.slice A n c],.bool b])∧SIs (fun b=>w.heap.size≤b∧b<w'.heap.size) w' (readS (byt s)) A n c b∧Below w.heap.size w w':=by
 obtain⟨hz,hsz⟩:=zero_of_info info_sch
 obtain⟨hzt,hszt⟩:=zero_of_info info_typ
 obtain⟨i0,hi,hz0,hz1,hz2⟩:=info_parts info_typ4
 obtain⟨j0,hj,hy0,hy1,hy2⟩:=info_parts info_fld4
 have hB0:Below w.heap.size w ((w.alloc (.cells #[.slice none 0 0] 24)).alloc (.cells #[.slice none 0 0] 24)):=((zA _ w).alloc (zW _) _).alloc (by simp) _
 have bR0:=(Blk.new w 24 [.slice none 0 0]).alloc (.cells #[.slice none 0 0] 24)
 have bO0:=Blk.new (w.alloc (.cells #[.slice none 0 0] 24)) 24 [.slice none 0 0]
 simp only[World.size_alloc] at bO0
 have H0:RdAt w (byt s) s.size s [] (.slice none 0 0) [] ((w.alloc (.cells #[.slice none 0 0] 24)).alloc (.cells #[.slice none 0 0] 24)):=
  ⟨zW _,by simp,fun t ht=>by simp at ht,hB0,bR0,bO0,World.ownsRow_nil _ _ _ _,Chunks.nil,oi_start _⟩
 have Hg:=zZ (fun pre=>read_guess (l:=byt s) (pre:=pre))
 generalize readS (byt s)=ro at *
 go_enter Tryz.func59,Tryz.ntmps59
 go_wp2
 go_loopw [5] (fun rv w'=>∃ r pre vO xs,rv=.string r∧RdAt w (byt s) s.size r pre vO xs w') (fun rv _=>sizeS rv)
 case atStart=>exact⟨s,[],_,[],rfl,H0⟩
 case round=>
  rename World=>wo0
  obtain⟨r,pre,vO,xs,rfl,H⟩:=hrel
  clear H0 hB0 bR0 bO0
  obtain⟨hroom,hfew,htame,hBo0,bR0,bO0,hownO0,hchO0,hoi⟩:=H
  obtain⟨AO,cO,hvO⟩:∃ A c,vO=.slice A pre.length c:=by
   obtain⟨A,c,hv,_⟩:=own_in hownO0
   exact⟨A,c,hv⟩
  subst hvO
  have cO0:=bO0.cell (j:=0) rfl
  by_cases hr0:r.size=0
  ·have hr0':decide ((0:Int)<(r.size:Int))=false:=zK (by omega)
   have hrn:byt r=[]:=List.eq_nil_of_length_eq_zero (by rw[byt_length];exact hr0)
   have hoi2:=oi_end hoi (.inl hrn)
   have Ho:=zZ (Hg.out pre hoi2)
   obtain⟨A1,c1,hv1,hsl⟩:=own_rSlice' rTyp_stays hownO0 rfl hchO0
   injection hv1 with e1 e2 e3
   subst e1 e3
   have hslA:rSch (All wo0) wo0 [.slice AO pre.length cO] pre:=rSch_stays.to (Keeps.mono fun b hb=>hb.2) hsl
   have M1:=zZ (rsmay_any AO pre.length cO pre wo0 hslA htame)
   have X1:=zZ (fun W (hW:Below wo0.heap.size wo0 W)=>rtext_any AO pre.length cO pre W (sch_below hW hslA) htame)
   have hnil:∀ (S:Nat→Prop) (W:World),rSch S W [.slice none 0 0] []:=fun S W=>⟨none,0,[],rfl,zW _,Nat.zero_le _,.inl rfl,Chunks.nil⟩
   clear hoi2 hoi hchO0 hownO0 Hg htame
   have hko:∀ (W:World) (v:Value),Below wo0.heap.size wo0 W→Keeps (fun b=>w.heap.size+1+1≤b∧b<wo0.heap.size) (fun b=>w.heap.size≤b∧b<(W.setCell ⟨w.heap.size,0,none⟩ v).heap.size) wo0 (W.setCell ⟨w.heap.size,0,none⟩ v):=fun W v hW b hb=>by
    have h1:=Keeps.set (S:=fun b=>w.heap.size+1+1≤b∧b<wo0.heap.size) (w:=W) (g:=w.heap.size) (fun b hb=>by omega) 0 v b hb
    refine⟨⟨by omega,?_⟩,?_⟩
    ·have:=hW.size
     simp
     omega
    ·rw[h1.2]
     exact hW.block b hb.2
   have Hko:=zZ hko
   have Hsl:=zZ hsl
   clear hko hsl hslA
   generalize hmp:mayS pre=mp at *
   clear hmp
   go_wp2_with fail
   refine M1.out.mono ?_
   rintro e v1 ⟨rfl,hE1⟩
   have bR1:=bR0.to hE1
   have bO1:=bO0.to hE1
   have hBv1:=hBo0.trans (hE1.mono hBo0.size)
   cases mp
   ·have Hn:Hid (ro=none):=zZ (by rw[Ho.out,if_neg (by simp)])
    have x0:=bR1.cell (j:=0) rfl
    have f0:=bR1.frozen 0
    have Hrw:=zZ (bR1.set 0 (.slice none 0 0))
    have HBr:=zZ (hBv1.setCell (p:=⟨w.heap.size,0,none⟩) (zW w.heap.size) (.slice none 0 0))
    go_wp2
    refine ret_cell1 rfl Hrw.out Tryz.underlying24 rfl hsz rfl rfl ?_
    exact⟨_,_,_,_,rfl,by rw[Hn.out];exact⟨rfl,rfl,hnil _ _,fun _=>⟨rfl,rfl⟩⟩,HBr.out⟩
   ·have y0:=bO1.cell (j:=0) rfl
    go_wp2_with fail
    refine (X1.out _ hE1).mono ?_
    rintro e v2 ⟨tx,rfl,htx,hE2⟩
    have bR2:=bR1.to hE2
    have bO2:=bO1.to hE2
    have hBv2:=hBv1.trans (hE2.mono hBv1.size)
    have hE12:=hE1.trans (hE2.mono hE1.size)
    have x0:=bR2.cell (j:=0) rfl
    have f0:=bR2.frozen 0
    have y1:=bO2.cell (j:=0) rfl
    have hq:=str_beq tx s
    rw[htx] at hq
    by_cases he:textS pre=byt s
    ·rw[zJ he] at hq
     have Hn:Hid (ro=some pre):=zZ (by rw[Ho.out,if_pos ⟨by simp,he⟩])
     have Hrw:=zZ (bR2.set 0 (.slice AO pre.length cO))
     have HBr:=zZ (hBv2.setCell (p:=⟨w.heap.size,0,none⟩) (zW w.heap.size) (.slice AO pre.length cO))
     clear he htx
     go_wp2
     refine ret_cell1 rfl Hrw.out Tryz.underlying24 rfl hsz rfl rfl ?_
     exact⟨_,_,_,_,rfl,by rw[Hn.out];exact⟨rfl,rfl,rSch_stays.to (Hko.out _ _ hE12) Hsl.out,fun h=>by cases h⟩,HBr.out⟩
    ·rw[zK he] at hq
     have Hn:Hid (ro=none):=zZ (by rw[Ho.out,if_neg (fun h=>he h.2)])
     have Hrw:=zZ (bR2.set 0 (.slice none 0 0))
     have HBr:=zZ (hBv2.setCell (p:=⟨w.heap.size,0,none⟩) (zW w.heap.size) (.slice none 0 0))
     clear he htx
     go_wp2
     refine ret_cell1 rfl Hrw.out Tryz.underlying24 rfl hsz rfl rfl ?_
     exact⟨_,_,_,_,rfl,by rw[Hn.out];exact⟨rfl,rfl,hnil _ _,fun _=>⟨rfl,rfl⟩⟩,HBr.out⟩
  by_cases hp4:pre.length≤4
  ·have hr0':decide ((0:Int)<(r.size:Int))=true:=zJ (by omega)
   have hp4':decide ((pre.length:Int)≤4)=true:=zJ (by omega)
   have hne:byt r≠[]:=fun e=>by have:=congrArg List.length e;rw[byt_length,List.length_nil] at this;omega
   have T1:=zZ (upto_any r ⟨#[123]⟩ wo0 (by simp only[maxLen];omega) (by decide))
   rw[show byt ⟨#[123]⟩=[123] from rfl] at T1
   have hii:=ii_start hoi hne
   have hul:=uptoL_len [123] (byt r)
   rw[byt_length] at hul
   have Htame:=zZ htame
   have HchO0:=zZ hchO0
   clear hne hoi htame hchO0
   go_wp2_with fail
   refine T1.out.mono ?_
   rintro e wo ⟨nm,q0,rfl,hnm,hq0,hC1⟩
   rw[← hnm,← hq0] at hii
   have hnms:nm.size≤r.size:=by rw[← byt_length,hnm];exact hul.1
   have hq0s:q0.size≤r.size:=by rw[← byt_length,hq0];exact hul.2
   have hBo:=hBo0.trans (hC1.mono hBo0.size)
   have bR:=bR0.to hC1
   have bO:=bO0.to hC1
   have hownO:=own_below hownO0 hC1
   have HchO:=zZ (HchO0.out.imp fun cs a h=>rTyp_stays.to (S':=Oth (w.heap.size+1+1) (.slice AO pre.length cO) wo) (fun b hb=>⟨⟨⟨hb.1.1,Nat.lt_of_lt_of_le hb.1.2 hC1.size⟩,hb.2⟩,hC1.block b hb.1.2⟩) h)
   clear T1 hC1 hBo0 bR0 bO0 hownO0 HchO0 hnm hq0 hul cO0
   have hBt:Below wo.heap.size wo (wo.alloc (.cells #[.string nm,.slice none 0 0] 44)):=(zA _ wo).alloc (zW _) _
   have HF0:Hid (RfAt wo (byt s) r.size pre nm q0 [] (.slice none 0 0) [] (wo.alloc (.cells #[.string nm,.slice none 0 0] 44))):=zZ
    ⟨hq0s,by simp,by simp,hBt,Blk.new wo 44 [.string nm,.slice none 0 0],World.ownsRow_nil _ _ _ _,Chunks.nil,hii⟩
   clear hBt hii
   go_wp2
   go_loopw [5] (fun rv w'=>∃ q fs vF ys,rv=.string q∧Hid (RfAt wo (byt s) r.size pre nm q fs vF ys w')) (fun rv _=>sizeS rv)
   case atStart=>exact⟨q0,[],_,[],rfl,HF0⟩
   case round=>
    rename World=>v0
    obtain⟨q,fs,vF,ys,rfl,HR⟩:=hrel
    clear HF0
    obtain⟨hqr,hfs6,htameF,hC,bT,hownF,hchF,hII⟩:=HR.out
    clear HR
    have HtameF:=zZ htameF
    have HchF:=zZ hchF
    have HI:=zZ hII
    clear htameF hchF hII
    obtain⟨AF,cF,hvF,hnF,hmF,hrdF⟩:=own_in hownF
    subst hvF
    by_cases h1:1<q.size
    ·have h1':decide ((1:Int)<(q.size:Int))=true:=zJ (by omega)
     have h1a:(0:Int)<(q.size:Int):=by omega
     have h1b:(1:Int)<(q.size:Int):=by omega
     have h1c:(1:Int)≤(q.size:Int):=by omega
     have h0':decide ((0:Int)<(q.size:Int))=true:=zJ (by omega)
     have h0lt:0<q.size:=by omega
     have hb0:=byt_get h0lt
     have hb1:=byt_get h1
     have hsplit:byt q=(q[0]'h0lt).toNat :: (byt q).drop 1:=by
      cases hb:byt q with
      | nil=>rw[hb] at hb0;simp at hb0
      | cons a l=>rw[hb] at hb0;simp at hb0;rw[hb0];rfl
     have hd1:((byt q).drop 1).getD 0 0=(q[1]'h1).toNat:=by rw[List.getD_eq_getElem?_getD,List.getElem?_drop,hb1];rfl
     have hex:byt (q.extract 1 q.size)=(byt q).drop 1:=by rw[byt_extract,List.take_of_length_le (by simp)]
     have hexs:(q.extract 1 q.size).size=q.size - 1:=by simp
     have hg0:(byt q).getD 0 0=(q[0]'h0lt).toNat:=by rw[List.getD_eq_getElem?_getD,hb0];rfl
     clear hb0 hb1
     by_cases h125:(q[0]'h0lt).toNat=125
     ·have h125':(((q[0]'h0lt).toNat:Int) != 125)=false:=by rw[h125];rfl
      have bTc0:=bT.cell (j:=0) rfl
      have bTc1:=bT.cell (j:=1) rfl
      have hBW:=hBo.trans (hC.mono hBo.size)
      have hOlt:=bO.lt
      have bO2:=bO.to hC
      have bR2:=bR.to hC
      have cO2:=bO2.cell (j:=0) rfl
      have fO2:=bO2.frozen 0
      have hltO:=hownO.lt
      have hownO2:=own_below hownO hC
      have hA:Below v0.heap.size v0 (v0.alloc (.cells #[.string nm,.slice AF fs.length cF] 44)):=(zA _ v0).alloc (zW _) _
      have hbx:Rd (v0.alloc (.cells #[.string nm,.slice AF fs.length cF] 44)) (some ⟨v0.heap.size,0,none⟩) [.string nm,.slice AF fs.length cF]:=(Blk.new v0 44 [.string nm,.slice AF fs.length cF]).rd
      have hown3:=own_below hownO2 hA
      have hB3:=hBW.trans (hA.mono hBW.size)
      have hsz3:w.heap.size+1+1≤(v0.alloc (.cells #[.string nm,.slice AF fs.length cF] 44)).heap.size:=by
       have h1:=hC.size
       have h2:=hA.size
       omega
      have bO3:=bO2.to hA
      have bR3:=bR2.to hA
      have hsizes:wo.heap.size+1≤v0.heap.size:=bT.lt
      have hkn:Keeps (fun b=>wo.heap.size+1≤b∧b<v0.heap.size) (Oth (w.heap.size+1+1) (.slice AO pre.length cO) (v0.alloc (.cells #[.string nm,.slice AF fs.length cF] 44))) v0 _:=fun b ⟨h1,h2⟩=>
       ⟨⟨⟨by omega,Nat.lt_of_lt_of_le h2 hA.size⟩,fun e=>by have:=(hltO b e.symm).2;omega⟩,hA.block b h2⟩
      have hko:Keeps (Oth (w.heap.size+1+1) (.slice AO pre.length cO) wo) (Oth (w.heap.size+1+1) (.slice AO pre.length cO) (v0.alloc (.cells #[.string nm,.slice AF fs.length cF] 44))) wo _:=fun b ⟨⟨h1,h2⟩,h3⟩=>
       ⟨⟨⟨h1,by have:=hC.size;have:=hA.size;omega⟩,h3⟩,(hA.block b (by have:=hC.size;omega)).trans (hC.block b h2)⟩
      have Hch3:=zZ ((HchO.out.imp (fun cs a h=>rTyp_stays.to hko h)).append (Chunks.one (size:=2) rfl (rTyp_mk (t:=(byt nm,fs)) rfl (by simp only[maxLen];omega) (rFlds_stays.to hkn (cs:=[.slice AF fs.length cF]) ⟨AF,cF,ys,rfl,hnF,hmF,hrdF,HchF.out.imp fun cs a h=>rFld_free h⟩))))
      have Hoi:=zZ (ii_end HI.out (.inr (.inl (by rw[hg0];exact h125))))
      clear hkn hko HchO HchF hA hownO2 hownO hltO hownF hrdF HI hC hBo bO bR bT
      go_wp2_with (first
       | (at_builtin;refine wpList_apps rfl (.tmp 87) (.tmp 89) 22 rfl (w.heap.size+1+1) 44 i0 (.agg #[.string ⟨#[]⟩,.slice none 0 0]) 2 40 Tryz.underlying22 hi hz0 hz1 hz2 rfl (by omega) (.slice AO pre.length cO) pre.length xs rfl hown3 (some ⟨v0.heap.size,0,none⟩) 1 1 [.string nm,.slice AF fs.length cF] rfl rfl hbx (by simp[Value.oneCell']) (by simp only[maxLen];omega) (by omega) hsz3 ?_;intro v4 w4 hown4 hg4 hv4;obtain⟨A4,c4,hv4e,-⟩:=own_in hown4;subst hv4e;have bO4:Blk w4 (w.heap.size+1) 24 [.slice AO pre.length cO]:=(Blk.grown bO3 hown3 hg4 (by omega));have cO4:=bO4.cell (j:=0) rfl;have fO4:=bO4.frozen 0)
       | fail)
      go_roundw
      case rel=>
       have bR4:=Blk.grown bR3 hown3 hg4 (by omega)
       have hB4:=hB3.grown hg4 hB3.size (fun k hk=>by have:=(hown3.lt k hk).1;omega)
       refine⟨q.extract 1 q.size,pre++[(byt nm,fs)],.slice A4 (pre.length+1) c4,xs++[.string nm,.slice AF fs.length cF],rfl,?_⟩
       refine⟨?_,by rw[List.length_append,List.length_cons,List.length_nil];omega,?_,hB4.setCell (p:=⟨w.heap.size+1,0,none⟩) (by show w.heap.size≤w.heap.size+1;omega) (.slice A4 (pre.length+1) c4),bR4.other ⟨w.heap.size+1,0,none⟩ (.slice A4 (pre.length+1) c4) (by show w.heap.size≠w.heap.size+1;omega),bO4.set 0 (.slice A4 (pre.length+1) c4),?_,?_,?_⟩
       ·rw[hexs];omega
       ·intro t ht
        rcases List.mem_append.1 ht with ht | ht
        ·exact Htame.out t ht
        ·simp at ht
         subst ht
         exact⟨by unfold tame;show (byt nm).length≤_;rw[byt_length];omega,HtameF.out⟩
       ·rw[List.length_append]
        exact own_keepB hown4 fun b hb=>heap_setCell_other w4 ⟨w.heap.size+1,0,none⟩ b (.slice A4 (pre.length+1) c4) (by have:=(hown4.lt b hb).1;show b≠w.heap.size+1;omega)
       ·exact (Hch3.out.imp fun cs a h=>rTyp_stays.to (Keeps.oth hg4 hv4) h).imp fun cs a h=>rTyp_stays.to (S':=Oth (w.heap.size+1+1) (.slice A4 (pre.length+1) c4) (w4.setCell ⟨w.heap.size+1,0,none⟩ (.slice A4 (pre.length+1) c4))) (fun b hb=>⟨⟨⟨hb.1.1,by have:=hb.1.2;simpa using this⟩,hb.2⟩,heap_setCell_other w4 ⟨w.heap.size+1,0,none⟩ b (.slice A4 (pre.length+1) c4) (by have:=hb.1.1;show b≠w.heap.size+1;omega)⟩) h
       ·exact by rw[hex];exact Hoi.out
      case measure=>
       show (q.extract 1 q.size).size<r.size;rw[hexs];omega
     ·have h125':(((q[0]'h0lt).toNat:Int) != 125)=true:=by rw[bne_iff_ne];omega
      have cT1:=bT.cell (j:=1) rfl
      have cT0:=bT.cell (j:=0) rfl
      by_cases h5:fs.length≤5
      ·have h5':decide ((fs.length:Int)≤5)=true:=zJ (by omega)
       by_cases hcc:(q[1]'h1).toNat=125∧(q[0]'h0lt).toNat=123
       ·have hc1:(((q[1]'h1).toNat:Int) == 125)=true:=by rw[hcc.1];rfl
        have hc0:(((q[0]'h0lt).toNat:Int) == 123)=true:=by rw[hcc.2];rfl
        have Hn:Hid (RfAt wo (byt s) r.size pre nm (q.extract 1 q.size) fs (.slice AF fs.length cF) ys v0):=zZ (by
         refine⟨by rw[hexs];omega,hfs6,HtameF.out,hC,bT,hownF,HchF.out,?_⟩
         rw[hex]
         have e1:(byt q).drop 1=125 :: (byt q).drop 2:=by
          have:(byt q).drop 1=(byt q).getD 1 0 :: (byt q).drop 2:=by
           rw[List.drop_eq_getElem_cons (by rw[byt_length];exact h1),List.getD_eq_getElem?_getD,zV (by rw[byt_length];exact h1)]
           rfl
          rw[this]
          rw[List.getD_eq_getElem?_getD,byt_get h1,hcc.1];rfl
         have:=HI.out
         rw[hsplit,hcc.2,e1] at this
         rw[e1]
         exact ii_none this)
        clear HI hsplit hd1 hex hcc hownF bT HchF HtameF hg0
        go_wp2
        go_roundw
        case rel=>exact⟨q.extract 1 q.size,fs,_,ys,rfl,Hn⟩
        case measure=>
         show (q.extract 1 q.size).size<q.size
         rw[hexs];omega
       ·by_cases hq1:(q[1]'h1).toNat=125
        ·have hc1:(((q[1]'h1).toNat:Int) == 125)=true:=by rw[hq1];rfl
         have hc0:(((q[0]'h0lt).toNat:Int) == 123)=false:=by rw[beq_eq_false_iff_ne];intro e;exact hcc ⟨hq1,by omega⟩
         have h58:byt ⟨#[58]⟩=[58]:=rfl
         have h44:byt ⟨#[44,125]⟩=[44,125]:=rfl
         have U1:=zZ (fun W=>upto_any (q.extract 1 q.size) ⟨#[58]⟩ W (by rw[hexs];simp only[maxLen];omega) (by decide))
         rw[h58,hex] at U1
         have HSF:Hid (seenF ((byt q).drop 1)=((uptoL [58] ((byt q).drop 1)).1,fieldK ((uptoL [44,125] (uptoL [58] ((byt q).drop 1)).2).1.drop 1))):=zZ rfl
         have HSR:Hid (seenR ((byt q).drop 1)=(uptoL [44,125] (uptoL [58] ((byt q).drop 1)).2).2):=zZ rfl
         have hul1:=uptoL_len [58] ((byt q).drop 1)
         rw[List.length_drop,byt_length] at hul1
         have HII:=zZ (ii_field (by have:=HI.out;rwa [hsplit] at this) h125 (fun e=>hcc ⟨by rw[← hd1];exact e.2,e.1⟩))
         clear HI hsplit hd1 hg0 hcc
         go_wp2_with fail
         refine (U1.out _).mono ?_
         rintro e v1 ⟨fN,beh,rfl,hfN,hbeh,hE1⟩
         have hfNs:fN.size≤q.size - 1:=by rw[← byt_length,hfN];exact hul1.1
         have hbehs:beh.size≤q.size - 1:=by rw[← byt_length,hbeh];exact hul1.2
         have U2:=zZ (fun W=>upto_any beh ⟨#[44,125]⟩ W (by simp only[maxLen];omega) (by decide))
         rw[h44] at U2
         have hul2:=uptoL_len [44,125] (byt beh)
         rw[byt_length] at hul2
         rw[← hfN,← hbeh] at HSF
         rw[← hbeh] at HSR
         clear U1 hul1 hfN hbeh h58 h44
         go_wp2_with fail
         refine (U2.out _).mono ?_
         rintro e v2 ⟨kd,nx,rfl,hkd,hnx,hE2⟩
         have hkds:kd.size≤beh.size:=by rw[← byt_length,hkd];exact hul2.1
         have hnxs:nx.size≤beh.size:=by rw[← byt_length,hnx];exact hul2.2
         rw[← hkd] at HSF
         rw[← hnx] at HSR
         clear U2 hul2 hkd hnx
         have hE:Below v0.heap.size v0 v2:=hE1.trans (hE2.mono hE1.size)
         have hDr:Below v2.heap.size v2 v2.drew:=(zA _ v2).drew
         have hEd:=hE.trans (hDr.mono hE.size)
         have bTd:=bT.to hEd
         have hownd:=own_below hownF hEd
         have cTd:=bTd.cell (j:=1) rfl
         clear hE1 hE2 bT hownF hrdF cT0 cT1
         by_cases hk0:kd.size=0
         ·have hk1:decide ((0:Int)<(kd.size:Int))=false:=zK (by omega)
          have hkb:byt kd=(byt kd).drop 1:=by rw[List.eq_nil_of_length_eq_zero (by rw[byt_length];exact hk0:(byt kd).length=0)];rfl
          have TK:=zZ (fun W=>rfldk_any fN kd W (by simp only[maxLen];omega))
          conv at TK=>enter [1,W];rw[hkb]
          have hfs:=fieldK_small ((byt kd).drop 1)
          have HSF2:Hid (seenF ((byt q).drop 1)=(byt fN,(fieldK ((byt kd).drop 1)).1,(fieldK ((byt kd).drop 1)).2)):=zZ HSF.out
          clear HSF hkb
          generalize fieldK ((byt kd).drop 1)=FK at *
          obtain⟨K1,K2⟩:=FK
          have hwf:(Lit.int .i64 K1).wf=true:=by
           have h1:=hfs.1
           have h2:=hfs.2.1
           simp only at h1 h2
           simp[Lit.wf,IntKind.min,IntKind.max,IntKind.signed,IntKind.bits]
           omega
          have hK2:K2.length≤kd.size:=by have:=hfs.2.2;rw[List.length_drop,byt_length] at this;simp only at this;omega
          clear hfs
          go_wp2_with fail
          refine scl_start 8 [(0,true),(1,true),(2,true),(3,true),(4,false),(5,false),(6,false),(7,true),(8,false)]
           (fun W=>W.cell? ⟨wo.heap.size,1,none⟩=some (.slice AF fs.length cF)) (by kernel_rfl) rfl (by kernel_rfl) (fun _ _ _ _ _ h=>h) cTd (fun hH=>?_)
          generalize v2.drew=vd at *
          repeat (first | (refine scl_yes (v:=?_) rfl rfl ?_ hH ?_;rotate_left;(focus ((intro W hW;go_simp) <;> with_reducible rfl));simp only[Act.put,zY,zX,zQ]) | (refine scl_no rfl rfl hH ?_;simp only[Act.put,zY,zX,zQ]))
          refine scl_call rfl rfl (fun K hK=>?_)
          go_wp2_with (go_at_call 89;refine (TK.out _).mono ?_;rintro e v3 ⟨y,rfl,hy,hE3⟩)
          have hEv3:=hEd.trans (hE3.mono hEd.size)
          have bT3:=bTd.to hE3
          have hown3:=own_below hownd hE3
          refine hK.out _ _ (fun _=>bT3.cell (j:=1) rfl) ?_
          clear hK hH
          have hA:Below v3.heap.size v3 (v3.alloc (.cells #[.string fN,.int .i64 K1,.string y] 81)):=(zA _ v3).alloc (zW _) _
          have hbx:Rd (v3.alloc (.cells #[.string fN,.int .i64 K1,.string y] 81)) (some ⟨v3.heap.size,0,none⟩) [.string fN,.int .i64 K1,.string y]:=(Blk.new v3 81 [.string fN,.int .i64 K1,.string y]).rd
          have bT4:=bT3.to hA
          have hown4:=own_below hown3 hA
          have hEv4:=hEv3.trans (hA.mono hEv3.size)
          have hsz4:wo.heap.size+1≤(v3.alloc (.cells #[.string fN,.int .i64 K1,.string y] 81)).heap.size:=bT4.lt
          refine scl_call rfl rfl (fun K hK=>?_)
          go_wp2
          refine hK.out _ _ (fun _=>bT4.cell (j:=1) rfl) ?_
          clear hK
          generalize v3.alloc (.cells #[.string fN,.int .i64 K1,.string y] 81)=v4 at *
          refine scl_call rfl rfl (fun K hK=>?_)
          refine wp_apps (.tmp 74) (.tmp 78) 42 rfl (wo.heap.size+1) 81 j0 (.agg #[.string ⟨#[]⟩,.int .i64 0,.string ⟨#[]⟩]) 3 40 Tryz.underlying42 hj hy0 hy1 hy2 rfl (by omega) (.slice AF fs.length cF) fs.length ys rfl hown4 (some ⟨v3.heap.size,0,none⟩) 1 1 [.string fN,.int .i64 K1,.string y] rfl rfl hbx (by simp[Value.oneCell']) (by simp only[maxLen];omega) (by omega) hsz4 ?_
          intro v5 w5 hown5 hg5 hv5
          obtain⟨A5,c5,hv5e,-⟩:=own_in hown5
          subst hv5e
          have bT5:=Blk.grown bT4 hown4 hg5 (Nat.lt_succ_self _)
          have cT5:=bT5.cell (j:=1) rfl
          have fT5:=bT5.frozen 1
          have hH:=cT5
          refine hK.out _ _ (fun _=>cT5) ?_
          clear hK
          repeat (first | (refine scl_yes (v:=?_) rfl rfl ?_ hH ?_;rotate_left;(focus ((intro W hW;go_simp) <;> with_reducible rfl));simp only[Act.put,zY,zX,zQ]) | (refine scl_no rfl rfl hH ?_;simp only[Act.put,zY,zX,zQ]))
          refine scl_call rfl rfl (fun K hK=>?_)
          go_wp2
          refine hK.out _ _ (fun e=>absurd rfl e) ?_
          clear hK hH
          refine scl_done ?_
          have hlo4:=hown4.lt
          have hsz0:wo.heap.size≤v0.heap.size:=by have:=hC.size;omega
          have Hn:Hid (RfAt wo (byt s) r.size pre nm nx (fs++[seenF ((byt q).drop 1)]) (.slice A5 (fs.length+1) c5) (ys++[.string fN,.int .i64 K1,.string y]) (w5.setCell ⟨wo.heap.size,1,none⟩ (.slice A5 (fs.length+1) c5))):=zZ (by
           refine⟨by omega,by rw[List.length_append,List.length_cons,List.length_nil];omega,?_,?_,bT5.set 1 (.slice A5 (fs.length+1) c5),?_,?_,by rw[← HSR.out];exact HII.out⟩
           ·intro f hf
            rcases List.mem_append.1 hf with hf | hf
            ·exact HtameF.out f hf
            ·rw[List.mem_singleton] at hf
             subst hf
             rw[HSF2.out]
             unfold tame
             show (byt fN).length≤_
             rw[byt_length];omega
           ·have h1:=hC.trans (hEv4.mono hC.size)
            exact (h1.grown hg5 h1.size (fun k hk=>by have:=(hlo4 k hk).1;omega)).setCell (p:=⟨wo.heap.size,1,none⟩) (zW _) _
           ·rw[List.length_append]
            exact own_keepB hown5 fun b hb=>heap_setCell_other w5 ⟨wo.heap.size,1,none⟩ b (.slice A5 (fs.length+1) c5) (by have:=(hown5.lt b hb).1;show b≠wo.heap.size;omega)
           ·refine HchF.out.append ?_
            rw[HSF2.out]
            exact Chunks.one (size:=3) rfl (rFld_mk (f:=(byt fN,K1,K2)) rfl hy (by simp only[maxLen];omega) (by rw[← byt_length,hy];show K2.length≤_;simp only[maxLen];omega) hwf))
          clear HSR HII HSF2 HchF HtameF hown5 hg5 hv5 hbx hown4 bT4 hown3 bT3 hlo4
          go_wp2
          go_roundw
          case rel=>exact⟨nx,_,_,_,rfl,Hn⟩
          case measure=>
           show nx.size<q.size
           omega
         ·have hk1:decide ((0:Int)<(kd.size:Int))=true:=zJ (by omega)
          have hk2:(1:Int)≤(kd.size:Int):=by omega
          have hkb:byt (kd.extract 1 kd.size)=(byt kd).drop 1:=by rw[byt_extract,List.take_of_length_le (by simp)]
          have hkx:(kd.extract 1 kd.size).size=kd.size - 1:=by simp
          have TK:=zZ (fun W=>rfldk_any fN (kd.extract 1 kd.size) W (by rw[hkx];simp only[maxLen];omega))
          rw[hkb] at TK
          have hfs:=fieldK_small ((byt kd).drop 1)
          have HSF2:Hid (seenF ((byt q).drop 1)=(byt fN,(fieldK ((byt kd).drop 1)).1,(fieldK ((byt kd).drop 1)).2)):=zZ HSF.out
          clear HSF hkb
          generalize fieldK ((byt kd).drop 1)=FK at *
          obtain⟨K1,K2⟩:=FK
          have hwf:(Lit.int .i64 K1).wf=true:=by
           have h1:=hfs.1
           have h2:=hfs.2.1
           simp only at h1 h2
           simp[Lit.wf,IntKind.min,IntKind.max,IntKind.signed,IntKind.bits]
           omega
          have hK2:K2.length≤kd.size:=by have:=hfs.2.2;rw[List.length_drop,byt_length] at this;simp only at this;omega
          clear hfs
          go_wp2_with fail
          refine scl_start 8 [(0,true),(1,true),(2,true),(3,true),(4,false),(5,false),(6,false),(7,true),(8,false)]
           (fun W=>W.cell? ⟨wo.heap.size,1,none⟩=some (.slice AF fs.length cF)) (by kernel_rfl) rfl (by kernel_rfl) (fun _ _ _ _ _ h=>h) cTd (fun hH=>?_)
          generalize v2.drew=vd at *
          repeat (first | (refine scl_yes (v:=?_) rfl rfl ?_ hH ?_;rotate_left;(focus ((intro W hW;go_simp) <;> with_reducible rfl));simp only[Act.put,zY,zX,zQ]) | (refine scl_no rfl rfl hH ?_;simp only[Act.put,zY,zX,zQ]))
          refine scl_call rfl rfl (fun K hK=>?_)
          go_wp2_with (go_at_call 89;refine (TK.out _).mono ?_;rintro e v3 ⟨y,rfl,hy,hE3⟩)
          have hEv3:=hEd.trans (hE3.mono hEd.size)
          have bT3:=bTd.to hE3
          have hown3:=own_below hownd hE3
          refine hK.out _ _ (fun _=>bT3.cell (j:=1) rfl) ?_
          clear hK hH
          have hA:Below v3.heap.size v3 (v3.alloc (.cells #[.string fN,.int .i64 K1,.string y] 81)):=(zA _ v3).alloc (zW _) _
          have hbx:Rd (v3.alloc (.cells #[.string fN,.int .i64 K1,.string y] 81)) (some ⟨v3.heap.size,0,none⟩) [.string fN,.int .i64 K1,.string y]:=(Blk.new v3 81 [.string fN,.int .i64 K1,.string y]).rd
          have bT4:=bT3.to hA
          have hown4:=own_below hown3 hA
          have hEv4:=hEv3.trans (hA.mono hEv3.size)
          have hsz4:wo.heap.size+1≤(v3.alloc (.cells #[.string fN,.int .i64 K1,.string y] 81)).heap.size:=bT4.lt
          refine scl_call rfl rfl (fun K hK=>?_)
          go_wp2
          refine hK.out _ _ (fun _=>bT4.cell (j:=1) rfl) ?_
          clear hK
          generalize v3.alloc (.cells #[.string fN,.int .i64 K1,.string y] 81)=v4 at *
          refine scl_call rfl rfl (fun K hK=>?_)
          refine wp_apps (.tmp 74) (.tmp 78) 42 rfl (wo.heap.size+1) 81 j0 (.agg #[.string ⟨#[]⟩,.int .i64 0,.string ⟨#[]⟩]) 3 40 Tryz.underlying42 hj hy0 hy1 hy2 rfl (by omega) (.slice AF fs.length cF) fs.length ys rfl hown4 (some ⟨v3.heap.size,0,none⟩) 1 1 [.string fN,.int .i64 K1,.string y] rfl rfl hbx (by simp[Value.oneCell']) (by simp only[maxLen];omega) (by omega) hsz4 ?_
          intro v5 w5 hown5 hg5 hv5
          obtain⟨A5,c5,hv5e,-⟩:=own_in hown5
          subst hv5e
          have bT5:=Blk.grown bT4 hown4 hg5 (Nat.lt_succ_self _)
          have cT5:=bT5.cell (j:=1) rfl
          have fT5:=bT5.frozen 1
          have hH:=cT5
          refine hK.out _ _ (fun _=>cT5) ?_
          clear hK
          repeat (first | (refine scl_yes (v:=?_) rfl rfl ?_ hH ?_;rotate_left;(focus ((intro W hW;go_simp) <;> with_reducible rfl));simp only[Act.put,zY,zX,zQ]) | (refine scl_no rfl rfl hH ?_;simp only[Act.put,zY,zX,zQ]))
          refine scl_call rfl rfl (fun K hK=>?_)
          go_wp2
          refine hK.out _ _ (fun e=>absurd rfl e) ?_
          clear hK hH
          refine scl_done ?_
          have hlo4:=hown4.lt
          have hsz0:wo.heap.size≤v0.heap.size:=by have:=hC.size;omega
          have Hn:Hid (RfAt wo (byt s) r.size pre nm nx (fs++[seenF ((byt q).drop 1)]) (.slice A5 (fs.length+1) c5) (ys++[.string fN,.int .i64 K1,.string y]) (w5.setCell ⟨wo.heap.size,1,none⟩ (.slice A5 (fs.length+1) c5))):=zZ (by
           refine⟨by omega,by rw[List.length_append,List.length_cons,List.length_nil];omega,?_,?_,bT5.set 1 (.slice A5 (fs.length+1) c5),?_,?_,by rw[← HSR.out];exact HII.out⟩
           ·intro f hf
            rcases List.mem_append.1 hf with hf | hf
            ·exact HtameF.out f hf
            ·rw[List.mem_singleton] at hf
             subst hf
             rw[HSF2.out]
             unfold tame
             show (byt fN).length≤_
             rw[byt_length];omega
           ·have h1:=hC.trans (hEv4.mono hC.size)
            exact (h1.grown hg5 h1.size (fun k hk=>by have:=(hlo4 k hk).1;omega)).setCell (p:=⟨wo.heap.size,1,none⟩) (zW _) _
           ·rw[List.length_append]
            exact own_keepB hown5 fun b hb=>heap_setCell_other w5 ⟨wo.heap.size,1,none⟩ b (.slice A5 (fs.length+1) c5) (by have:=(hown5.lt b hb).1;show b≠wo.heap.size;omega)
           ·refine HchF.out.append ?_
            rw[HSF2.out]
            exact Chunks.one (size:=3) rfl (rFld_mk (f:=(byt fN,K1,K2)) rfl hy (by simp only[maxLen];omega) (by rw[← byt_length,hy];show K2.length≤_;simp only[maxLen];omega) hwf))
          clear HSR HII HSF2 HchF HtameF hown5 hg5 hv5 hbx hown4 bT4 hown3 bT3 hlo4
          go_wp2
          go_roundw
          case rel=>exact⟨nx,_,_,_,rfl,Hn⟩
          case measure=>
           show nx.size<q.size
           omega
        ·have hc1:(((q[1]'h1).toNat:Int) == 125)=false:=by rw[beq_eq_false_iff_ne];omega
         have h58:byt ⟨#[58]⟩=[58]:=rfl
         have h44:byt ⟨#[44,125]⟩=[44,125]:=rfl
         have U1:=zZ (fun W=>upto_any (q.extract 1 q.size) ⟨#[58]⟩ W (by rw[hexs];simp only[maxLen];omega) (by decide))
         rw[h58,hex] at U1
         have HSF:Hid (seenF ((byt q).drop 1)=((uptoL [58] ((byt q).drop 1)).1,fieldK ((uptoL [44,125] (uptoL [58] ((byt q).drop 1)).2).1.drop 1))):=zZ rfl
         have HSR:Hid (seenR ((byt q).drop 1)=(uptoL [44,125] (uptoL [58] ((byt q).drop 1)).2).2):=zZ rfl
         have hul1:=uptoL_len [58] ((byt q).drop 1)
         rw[List.length_drop,byt_length] at hul1
         have HII:=zZ (ii_field (by have:=HI.out;rwa [hsplit] at this) h125 (fun e=>hcc ⟨by rw[← hd1];exact e.2,e.1⟩))
         clear HI hsplit hd1 hg0 hcc
         go_wp2_with fail
         refine (U1.out _).mono ?_
         rintro e v1 ⟨fN,beh,rfl,hfN,hbeh,hE1⟩
         have hfNs:fN.size≤q.size - 1:=by rw[← byt_length,hfN];exact hul1.1
         have hbehs:beh.size≤q.size - 1:=by rw[← byt_length,hbeh];exact hul1.2
         have U2:=zZ (fun W=>upto_any beh ⟨#[44,125]⟩ W (by simp only[maxLen];omega) (by decide))
         rw[h44] at U2
         have hul2:=uptoL_len [44,125] (byt beh)
         rw[byt_length] at hul2
         rw[← hfN,← hbeh] at HSF
         rw[← hbeh] at HSR
         clear U1 hul1 hfN hbeh h58 h44
         go_wp2_with fail
         refine (U2.out _).mono ?_
         rintro e v2 ⟨kd,nx,rfl,hkd,hnx,hE2⟩
         have hkds:kd.size≤beh.size:=by rw[← byt_length,hkd];exact hul2.1
         have hnxs:nx.size≤beh.size:=by rw[← byt_length,hnx];exact hul2.2
         rw[← hkd] at HSF
         rw[← hnx] at HSR
         clear U2 hul2 hkd hnx
         have hE:Below v0.heap.size v0 v2:=hE1.trans (hE2.mono hE1.size)
         have hDr:Below v2.heap.size v2 v2.drew:=(zA _ v2).drew
         have hEd:=hE.trans (hDr.mono hE.size)
         have bTd:=bT.to hEd
         have hownd:=own_below hownF hEd
         have cTd:=bTd.cell (j:=1) rfl
         clear hE1 hE2 bT hownF hrdF cT0 cT1
         by_cases hk0:kd.size=0
         ·have hk1:decide ((0:Int)<(kd.size:Int))=false:=zK (by omega)
          have hkb:byt kd=(byt kd).drop 1:=by rw[List.eq_nil_of_length_eq_zero (by rw[byt_length];exact hk0:(byt kd).length=0)];rfl
          have TK:=zZ (fun W=>rfldk_any fN kd W (by simp only[maxLen];omega))
          conv at TK=>enter [1,W];rw[hkb]
          have hfs:=fieldK_small ((byt kd).drop 1)
          have HSF2:Hid (seenF ((byt q).drop 1)=(byt fN,(fieldK ((byt kd).drop 1)).1,(fieldK ((byt kd).drop 1)).2)):=zZ HSF.out
          clear HSF hkb
          generalize fieldK ((byt kd).drop 1)=FK at *
          obtain⟨K1,K2⟩:=FK
          have hwf:(Lit.int .i64 K1).wf=true:=by
           have h1:=hfs.1
           have h2:=hfs.2.1
           simp only at h1 h2
           simp[Lit.wf,IntKind.min,IntKind.max,IntKind.signed,IntKind.bits]
           omega
          have hK2:K2.length≤kd.size:=by have:=hfs.2.2;rw[List.length_drop,byt_length] at this;simp only at this;omega
          clear hfs
          go_wp2_with fail
          refine scl_start 8 [(0,true),(1,true),(2,true),(3,true),(4,false),(5,false),(6,false),(7,true),(8,false)]
           (fun W=>W.cell? ⟨wo.heap.size,1,none⟩=some (.slice AF fs.length cF)) (by kernel_rfl) rfl (by kernel_rfl) (fun _ _ _ _ _ h=>h) cTd (fun hH=>?_)
          generalize v2.drew=vd at *
          repeat (first | (refine scl_yes (v:=?_) rfl rfl ?_ hH ?_;rotate_left;(focus ((intro W hW;go_simp) <;> with_reducible rfl));simp only[Act.put,zY,zX,zQ]) | (refine scl_no rfl rfl hH ?_;simp only[Act.put,zY,zX,zQ]))
          refine scl_call rfl rfl (fun K hK=>?_)
          go_wp2_with (go_at_call 89;refine (TK.out _).mono ?_;rintro e v3 ⟨y,rfl,hy,hE3⟩)
          have hEv3:=hEd.trans (hE3.mono hEd.size)
          have bT3:=bTd.to hE3
          have hown3:=own_below hownd hE3
          refine hK.out _ _ (fun _=>bT3.cell (j:=1) rfl) ?_
          clear hK hH
          have hA:Below v3.heap.size v3 (v3.alloc (.cells #[.string fN,.int .i64 K1,.string y] 81)):=(zA _ v3).alloc (zW _) _
          have hbx:Rd (v3.alloc (.cells #[.string fN,.int .i64 K1,.string y] 81)) (some ⟨v3.heap.size,0,none⟩) [.string fN,.int .i64 K1,.string y]:=(Blk.new v3 81 [.string fN,.int .i64 K1,.string y]).rd
          have bT4:=bT3.to hA
          have hown4:=own_below hown3 hA
          have hEv4:=hEv3.trans (hA.mono hEv3.size)
          have hsz4:wo.heap.size+1≤(v3.alloc (.cells #[.string fN,.int .i64 K1,.string y] 81)).heap.size:=bT4.lt
          refine scl_call rfl rfl (fun K hK=>?_)
          go_wp2
          refine hK.out _ _ (fun _=>bT4.cell (j:=1) rfl) ?_
          clear hK
          generalize v3.alloc (.cells #[.string fN,.int .i64 K1,.string y] 81)=v4 at *
          refine scl_call rfl rfl (fun K hK=>?_)
          refine wp_apps (.tmp 74) (.tmp 78) 42 rfl (wo.heap.size+1) 81 j0 (.agg #[.string ⟨#[]⟩,.int .i64 0,.string ⟨#[]⟩]) 3 40 Tryz.underlying42 hj hy0 hy1 hy2 rfl (by omega) (.slice AF fs.length cF) fs.length ys rfl hown4 (some ⟨v3.heap.size,0,none⟩) 1 1 [.string fN,.int .i64 K1,.string y] rfl rfl hbx (by simp[Value.oneCell']) (by simp only[maxLen];omega) (by omega) hsz4 ?_
          intro v5 w5 hown5 hg5 hv5
          obtain⟨A5,c5,hv5e,-⟩:=own_in hown5
          subst hv5e
          have bT5:=Blk.grown bT4 hown4 hg5 (Nat.lt_succ_self _)
          have cT5:=bT5.cell (j:=1) rfl
          have fT5:=bT5.frozen 1
          have hH:=cT5
          refine hK.out _ _ (fun _=>cT5) ?_
          clear hK
          repeat (first | (refine scl_yes (v:=?_) rfl rfl ?_ hH ?_;rotate_left;(focus ((intro W hW;go_simp) <;> with_reducible rfl));simp only[Act.put,zY,zX,zQ]) | (refine scl_no rfl rfl hH ?_;simp only[Act.put,zY,zX,zQ]))
          refine scl_call rfl rfl (fun K hK=>?_)
          go_wp2
          refine hK.out _ _ (fun e=>absurd rfl e) ?_
          clear hK hH
          refine scl_done ?_
          have hlo4:=hown4.lt
          have hsz0:wo.heap.size≤v0.heap.size:=by have:=hC.size;omega
          have Hn:Hid (RfAt wo (byt s) r.size pre nm nx (fs++[seenF ((byt q).drop 1)]) (.slice A5 (fs.length+1) c5) (ys++[.string fN,.int .i64 K1,.string y]) (w5.setCell ⟨wo.heap.size,1,none⟩ (.slice A5 (fs.length+1) c5))):=zZ (by
           refine⟨by omega,by rw[List.length_append,List.length_cons,List.length_nil];omega,?_,?_,bT5.set 1 (.slice A5 (fs.length+1) c5),?_,?_,by rw[← HSR.out];exact HII.out⟩
           ·intro f hf
            rcases List.mem_append.1 hf with hf | hf
            ·exact HtameF.out f hf
            ·rw[List.mem_singleton] at hf
             subst hf
             rw[HSF2.out]
             unfold tame
             show (byt fN).length≤_
             rw[byt_length];omega
           ·have h1:=hC.trans (hEv4.mono hC.size)
            exact (h1.grown hg5 h1.size (fun k hk=>by have:=(hlo4 k hk).1;omega)).setCell (p:=⟨wo.heap.size,1,none⟩) (zW _) _
           ·rw[List.length_append]
            exact own_keepB hown5 fun b hb=>heap_setCell_other w5 ⟨wo.heap.size,1,none⟩ b (.slice A5 (fs.length+1) c5) (by have:=(hown5.lt b hb).1;show b≠wo.heap.size;omega)
           ·refine HchF.out.append ?_
            rw[HSF2.out]
            exact Chunks.one (size:=3) rfl (rFld_mk (f:=(byt fN,K1,K2)) rfl hy (by simp only[maxLen];omega) (by rw[← byt_length,hy];show K2.length≤_;simp only[maxLen];omega) hwf))
          clear HSR HII HSF2 HchF HtameF hown5 hg5 hv5 hbx hown4 bT4 hown3 bT3 hlo4
          go_wp2
          go_roundw
          case rel=>exact⟨nx,_,_,_,rfl,Hn⟩
          case measure=>
           show nx.size<q.size
           omega
         ·have hk1:decide ((0:Int)<(kd.size:Int))=true:=zJ (by omega)
          have hk2:(1:Int)≤(kd.size:Int):=by omega
          have hkb:byt (kd.extract 1 kd.size)=(byt kd).drop 1:=by rw[byt_extract,List.take_of_length_le (by simp)]
          have hkx:(kd.extract 1 kd.size).size=kd.size - 1:=by simp
          have TK:=zZ (fun W=>rfldk_any fN (kd.extract 1 kd.size) W (by rw[hkx];simp only[maxLen];omega))
          rw[hkb] at TK
          have hfs:=fieldK_small ((byt kd).drop 1)
          have HSF2:Hid (seenF ((byt q).drop 1)=(byt fN,(fieldK ((byt kd).drop 1)).1,(fieldK ((byt kd).drop 1)).2)):=zZ HSF.out
          clear HSF hkb
          generalize fieldK ((byt kd).drop 1)=FK at *
          obtain⟨K1,K2⟩:=FK
          have hwf:(Lit.int .i64 K1).wf=true:=by
           have h1:=hfs.1
           have h2:=hfs.2.1
           simp only at h1 h2
           simp[Lit.wf,IntKind.min,IntKind.max,IntKind.signed,IntKind.bits]
           omega
          have hK2:K2.length≤kd.size:=by have:=hfs.2.2;rw[List.length_drop,byt_length] at this;simp only at this;omega
          clear hfs
          go_wp2_with fail
          refine scl_start 8 [(0,true),(1,true),(2,true),(3,true),(4,false),(5,false),(6,false),(7,true),(8,false)]
           (fun W=>W.cell? ⟨wo.heap.size,1,none⟩=some (.slice AF fs.length cF)) (by kernel_rfl) rfl (by kernel_rfl) (fun _ _ _ _ _ h=>h) cTd (fun hH=>?_)
          generalize v2.drew=vd at *
          repeat (first | (refine scl_yes (v:=?_) rfl rfl ?_ hH ?_;rotate_left;(focus ((intro W hW;go_simp) <;> with_reducible rfl));simp only[Act.put,zY,zX,zQ]) | (refine scl_no rfl rfl hH ?_;simp only[Act.put,zY,zX,zQ]))
          refine scl_call rfl rfl (fun K hK=>?_)
          go_wp2_with (go_at_call 89;refine (TK.out _).mono ?_;rintro e v3 ⟨y,rfl,hy,hE3⟩)
          have hEv3:=hEd.trans (hE3.mono hEd.size)
          have bT3:=bTd.to hE3
          have hown3:=own_below hownd hE3
          refine hK.out _ _ (fun _=>bT3.cell (j:=1) rfl) ?_
          clear hK hH
          have hA:Below v3.heap.size v3 (v3.alloc (.cells #[.string fN,.int .i64 K1,.string y] 81)):=(zA _ v3).alloc (zW _) _
          have hbx:Rd (v3.alloc (.cells #[.string fN,.int .i64 K1,.string y] 81)) (some ⟨v3.heap.size,0,none⟩) [.string fN,.int .i64 K1,.string y]:=(Blk.new v3 81 [.string fN,.int .i64 K1,.string y]).rd
          have bT4:=bT3.to hA
          have hown4:=own_below hown3 hA
          have hEv4:=hEv3.trans (hA.mono hEv3.size)
          have hsz4:wo.heap.size+1≤(v3.alloc (.cells #[.string fN,.int .i64 K1,.string y] 81)).heap.size:=bT4.lt
          refine scl_call rfl rfl (fun K hK=>?_)
          go_wp2
          refine hK.out _ _ (fun _=>bT4.cell (j:=1) rfl) ?_
          clear hK
          generalize v3.alloc (.cells #[.string fN,.int .i64 K1,.string y] 81)=v4 at *
          refine scl_call rfl rfl (fun K hK=>?_)
          refine wp_apps (.tmp 74) (.tmp 78) 42 rfl (wo.heap.size+1) 81 j0 (.agg #[.string ⟨#[]⟩,.int .i64 0,.string ⟨#[]⟩]) 3 40 Tryz.underlying42 hj hy0 hy1 hy2 rfl (by omega) (.slice AF fs.length cF) fs.length ys rfl hown4 (some ⟨v3.heap.size,0,none⟩) 1 1 [.string fN,.int .i64 K1,.string y] rfl rfl hbx (by simp[Value.oneCell']) (by simp only[maxLen];omega) (by omega) hsz4 ?_
          intro v5 w5 hown5 hg5 hv5
          obtain⟨A5,c5,hv5e,-⟩:=own_in hown5
          subst hv5e
          have bT5:=Blk.grown bT4 hown4 hg5 (Nat.lt_succ_self _)
          have cT5:=bT5.cell (j:=1) rfl
          have fT5:=bT5.frozen 1
          have hH:=cT5
          refine hK.out _ _ (fun _=>cT5) ?_
          clear hK
          repeat (first | (refine scl_yes (v:=?_) rfl rfl ?_ hH ?_;rotate_left;(focus ((intro W hW;go_simp) <;> with_reducible rfl));simp only[Act.put,zY,zX,zQ]) | (refine scl_no rfl rfl hH ?_;simp only[Act.put,zY,zX,zQ]))
          refine scl_call rfl rfl (fun K hK=>?_)
          go_wp2
          refine hK.out _ _ (fun e=>absurd rfl e) ?_
          clear hK hH
          refine scl_done ?_
          have hlo4:=hown4.lt
          have hsz0:wo.heap.size≤v0.heap.size:=by have:=hC.size;omega
          have Hn:Hid (RfAt wo (byt s) r.size pre nm nx (fs++[seenF ((byt q).drop 1)]) (.slice A5 (fs.length+1) c5) (ys++[.string fN,.int .i64 K1,.string y]) (w5.setCell ⟨wo.heap.size,1,none⟩ (.slice A5 (fs.length+1) c5))):=zZ (by
           refine⟨by omega,by rw[List.length_append,List.length_cons,List.length_nil];omega,?_,?_,bT5.set 1 (.slice A5 (fs.length+1) c5),?_,?_,by rw[← HSR.out];exact HII.out⟩
           ·intro f hf
            rcases List.mem_append.1 hf with hf | hf
            ·exact HtameF.out f hf
            ·rw[List.mem_singleton] at hf
             subst hf
             rw[HSF2.out]
             unfold tame
             show (byt fN).length≤_
             rw[byt_length];omega
           ·have h1:=hC.trans (hEv4.mono hC.size)
            exact (h1.grown hg5 h1.size (fun k hk=>by have:=(hlo4 k hk).1;omega)).setCell (p:=⟨wo.heap.size,1,none⟩) (zW _) _
           ·rw[List.length_append]
            exact own_keepB hown5 fun b hb=>heap_setCell_other w5 ⟨wo.heap.size,1,none⟩ b (.slice A5 (fs.length+1) c5) (by have:=(hown5.lt b hb).1;show b≠wo.heap.size;omega)
           ·refine HchF.out.append ?_
            rw[HSF2.out]
            exact Chunks.one (size:=3) rfl (rFld_mk (f:=(byt fN,K1,K2)) rfl hy (by simp only[maxLen];omega) (by rw[← byt_length,hy];show K2.length≤_;simp only[maxLen];omega) hwf))
          clear HSR HII HSF2 HchF HtameF hown5 hg5 hv5 hbx hown4 bT4 hown3 bT3 hlo4
          go_wp2
          go_roundw
          case rel=>exact⟨nx,_,_,_,rfl,Hn⟩
          case measure=>
           show nx.size<q.size
           omega
      ·have h5':decide ((fs.length:Int)≤5)=false:=zK (by omega)
       have bTc0:=bT.cell (j:=0) rfl
       have bTc1:=bT.cell (j:=1) rfl
       have hBW:=hBo.trans (hC.mono hBo.size)
       have hOlt:=bO.lt
       have bO2:=bO.to hC
       have bR2:=bR.to hC
       have cO2:=bO2.cell (j:=0) rfl
       have fO2:=bO2.frozen 0
       have hltO:=hownO.lt
       have hownO2:=own_below hownO hC
       have hA:Below v0.heap.size v0 (v0.alloc (.cells #[.string nm,.slice AF fs.length cF] 44)):=(zA _ v0).alloc (zW _) _
       have hbx:Rd (v0.alloc (.cells #[.string nm,.slice AF fs.length cF] 44)) (some ⟨v0.heap.size,0,none⟩) [.string nm,.slice AF fs.length cF]:=(Blk.new v0 44 [.string nm,.slice AF fs.length cF]).rd
       have hown3:=own_below hownO2 hA
       have hB3:=hBW.trans (hA.mono hBW.size)
       have hsz3:w.heap.size+1+1≤(v0.alloc (.cells #[.string nm,.slice AF fs.length cF] 44)).heap.size:=by
        have h1:=hC.size
        have h2:=hA.size
        omega
       have bO3:=bO2.to hA
       have bR3:=bR2.to hA
       have hsizes:wo.heap.size+1≤v0.heap.size:=bT.lt
       have hkn:Keeps (fun b=>wo.heap.size+1≤b∧b<v0.heap.size) (Oth (w.heap.size+1+1) (.slice AO pre.length cO) (v0.alloc (.cells #[.string nm,.slice AF fs.length cF] 44))) v0 _:=fun b ⟨h1,h2⟩=>
        ⟨⟨⟨by omega,Nat.lt_of_lt_of_le h2 hA.size⟩,fun e=>by have:=(hltO b e.symm).2;omega⟩,hA.block b h2⟩
       have hko:Keeps (Oth (w.heap.size+1+1) (.slice AO pre.length cO) wo) (Oth (w.heap.size+1+1) (.slice AO pre.length cO) (v0.alloc (.cells #[.string nm,.slice AF fs.length cF] 44))) wo _:=fun b ⟨⟨h1,h2⟩,h3⟩=>
        ⟨⟨⟨h1,by have:=hC.size;have:=hA.size;omega⟩,h3⟩,(hA.block b (by have:=hC.size;omega)).trans (hC.block b h2)⟩
       have Hch3:=zZ ((HchO.out.imp (fun cs a h=>rTyp_stays.to hko h)).append (Chunks.one (size:=2) rfl (rTyp_mk (t:=(byt nm,fs)) rfl (by simp only[maxLen];omega) (rFlds_stays.to hkn (cs:=[.slice AF fs.length cF]) ⟨AF,cF,ys,rfl,hnF,hmF,hrdF,HchF.out.imp fun cs a h=>rFld_free h⟩))))
       have Hoi:=zZ (ii_end HI.out (.inr (.inr (by omega))))
       clear hkn hko HchO HchF hA hownO2 hownO hltO hownF hrdF HI hC hBo bO bR bT
       go_wp2_with (first
        | (at_builtin;refine wpList_apps rfl (.tmp 87) (.tmp 89) 22 rfl (w.heap.size+1+1) 44 i0 (.agg #[.string ⟨#[]⟩,.slice none 0 0]) 2 40 Tryz.underlying22 hi hz0 hz1 hz2 rfl (by omega) (.slice AO pre.length cO) pre.length xs rfl hown3 (some ⟨v0.heap.size,0,none⟩) 1 1 [.string nm,.slice AF fs.length cF] rfl rfl hbx (by simp[Value.oneCell']) (by simp only[maxLen];omega) (by omega) hsz3 ?_;intro v4 w4 hown4 hg4 hv4;obtain⟨A4,c4,hv4e,-⟩:=own_in hown4;subst hv4e;have bO4:Blk w4 (w.heap.size+1) 24 [.slice AO pre.length cO]:=(Blk.grown bO3 hown3 hg4 (by omega));have cO4:=bO4.cell (j:=0) rfl;have fO4:=bO4.frozen 0)
        | fail)
       go_roundw
       case rel=>
        have bR4:=Blk.grown bR3 hown3 hg4 (by omega)
        have hB4:=hB3.grown hg4 hB3.size (fun k hk=>by have:=(hown3.lt k hk).1;omega)
        refine⟨q.extract 1 q.size,pre++[(byt nm,fs)],.slice A4 (pre.length+1) c4,xs++[.string nm,.slice AF fs.length cF],rfl,?_⟩
        refine⟨?_,by rw[List.length_append,List.length_cons,List.length_nil];omega,?_,hB4.setCell (p:=⟨w.heap.size+1,0,none⟩) (by show w.heap.size≤w.heap.size+1;omega) (.slice A4 (pre.length+1) c4),bR4.other ⟨w.heap.size+1,0,none⟩ (.slice A4 (pre.length+1) c4) (by show w.heap.size≠w.heap.size+1;omega),bO4.set 0 (.slice A4 (pre.length+1) c4),?_,?_,?_⟩
        ·rw[hexs];omega
        ·intro t ht
         rcases List.mem_append.1 ht with ht | ht
         ·exact Htame.out t ht
         ·simp at ht
          subst ht
          exact⟨by unfold tame;show (byt nm).length≤_;rw[byt_length];omega,HtameF.out⟩
        ·rw[List.length_append]
         exact own_keepB hown4 fun b hb=>heap_setCell_other w4 ⟨w.heap.size+1,0,none⟩ b (.slice A4 (pre.length+1) c4) (by have:=(hown4.lt b hb).1;show b≠w.heap.size+1;omega)
        ·exact (Hch3.out.imp fun cs a h=>rTyp_stays.to (Keeps.oth hg4 hv4) h).imp fun cs a h=>rTyp_stays.to (S':=Oth (w.heap.size+1+1) (.slice A4 (pre.length+1) c4) (w4.setCell ⟨w.heap.size+1,0,none⟩ (.slice A4 (pre.length+1) c4))) (fun b hb=>⟨⟨⟨hb.1.1,by have:=hb.1.2;simpa using this⟩,hb.2⟩,heap_setCell_other w4 ⟨w.heap.size+1,0,none⟩ b (.slice A4 (pre.length+1) c4) (by have:=hb.1.1;show b≠w.heap.size+1;omega)⟩) h
        ·exact by rw[hex];exact Hoi.out
       case measure=>
        show (q.extract 1 q.size).size<r.size;rw[hexs];omega
    ·have h1':decide ((1:Int)<(q.size:Int))=false:=zK (by omega)
     by_cases h0:q.size=0
     ·have h0':decide ((0:Int)<(q.size:Int))=false:=zK (by omega)
      have hqn:(byt q).drop 1=byt q:=by rw[List.eq_nil_of_length_eq_zero (by rw[byt_length];exact h0:(byt q).length=0)];rfl
      have bTc0:=bT.cell (j:=0) rfl
      have bTc1:=bT.cell (j:=1) rfl
      have hBW:=hBo.trans (hC.mono hBo.size)
      have hOlt:=bO.lt
      have bO2:=bO.to hC
      have bR2:=bR.to hC
      have cO2:=bO2.cell (j:=0) rfl
      have fO2:=bO2.frozen 0
      have hltO:=hownO.lt
      have hownO2:=own_below hownO hC
      have hA:Below v0.heap.size v0 (v0.alloc (.cells #[.string nm,.slice AF fs.length cF] 44)):=(zA _ v0).alloc (zW _) _
      have hbx:Rd (v0.alloc (.cells #[.string nm,.slice AF fs.length cF] 44)) (some ⟨v0.heap.size,0,none⟩) [.string nm,.slice AF fs.length cF]:=(Blk.new v0 44 [.string nm,.slice AF fs.length cF]).rd
      have hown3:=own_below hownO2 hA
      have hB3:=hBW.trans (hA.mono hBW.size)
      have hsz3:w.heap.size+1+1≤(v0.alloc (.cells #[.string nm,.slice AF fs.length cF] 44)).heap.size:=by
       have h1:=hC.size
       have h2:=hA.size
       omega
      have bO3:=bO2.to hA
      have bR3:=bR2.to hA
      have hsizes:wo.heap.size+1≤v0.heap.size:=bT.lt
      have hkn:Keeps (fun b=>wo.heap.size+1≤b∧b<v0.heap.size) (Oth (w.heap.size+1+1) (.slice AO pre.length cO) (v0.alloc (.cells #[.string nm,.slice AF fs.length cF] 44))) v0 _:=fun b ⟨h1,h2⟩=>
       ⟨⟨⟨by omega,Nat.lt_of_lt_of_le h2 hA.size⟩,fun e=>by have:=(hltO b e.symm).2;omega⟩,hA.block b h2⟩
      have hko:Keeps (Oth (w.heap.size+1+1) (.slice AO pre.length cO) wo) (Oth (w.heap.size+1+1) (.slice AO pre.length cO) (v0.alloc (.cells #[.string nm,.slice AF fs.length cF] 44))) wo _:=fun b ⟨⟨h1,h2⟩,h3⟩=>
       ⟨⟨⟨h1,by have:=hC.size;have:=hA.size;omega⟩,h3⟩,(hA.block b (by have:=hC.size;omega)).trans (hC.block b h2)⟩
      have Hch3:=zZ ((HchO.out.imp (fun cs a h=>rTyp_stays.to hko h)).append (Chunks.one (size:=2) rfl (rTyp_mk (t:=(byt nm,fs)) rfl (by simp only[maxLen];omega) (rFlds_stays.to hkn (cs:=[.slice AF fs.length cF]) ⟨AF,cF,ys,rfl,hnF,hmF,hrdF,HchF.out.imp fun cs a h=>rFld_free h⟩))))
      have Hoi:=zZ (ii_end HI.out (.inl (by rw[byt_length];omega)))
      clear hkn hko HchO HchF hA hownO2 hownO hltO hownF hrdF HI hC hBo bO bR bT
      go_wp2_with (first
       | (at_builtin;refine wpList_apps rfl (.tmp 87) (.tmp 89) 22 rfl (w.heap.size+1+1) 44 i0 (.agg #[.string ⟨#[]⟩,.slice none 0 0]) 2 40 Tryz.underlying22 hi hz0 hz1 hz2 rfl (by omega) (.slice AO pre.length cO) pre.length xs rfl hown3 (some ⟨v0.heap.size,0,none⟩) 1 1 [.string nm,.slice AF fs.length cF] rfl rfl hbx (by simp[Value.oneCell']) (by simp only[maxLen];omega) (by omega) hsz3 ?_;intro v4 w4 hown4 hg4 hv4;obtain⟨A4,c4,hv4e,-⟩:=own_in hown4;subst hv4e;have bO4:Blk w4 (w.heap.size+1) 24 [.slice AO pre.length cO]:=(Blk.grown bO3 hown3 hg4 (by omega));have cO4:=bO4.cell (j:=0) rfl;have fO4:=bO4.frozen 0)
       | fail)
      go_roundw
      case rel=>
       have bR4:=Blk.grown bR3 hown3 hg4 (by omega)
       have hB4:=hB3.grown hg4 hB3.size (fun k hk=>by have:=(hown3.lt k hk).1;omega)
       refine⟨q,pre++[(byt nm,fs)],.slice A4 (pre.length+1) c4,xs++[.string nm,.slice AF fs.length cF],rfl,?_⟩
       refine⟨?_,by rw[List.length_append,List.length_cons,List.length_nil];omega,?_,hB4.setCell (p:=⟨w.heap.size+1,0,none⟩) (by show w.heap.size≤w.heap.size+1;omega) (.slice A4 (pre.length+1) c4),bR4.other ⟨w.heap.size+1,0,none⟩ (.slice A4 (pre.length+1) c4) (by show w.heap.size≠w.heap.size+1;omega),bO4.set 0 (.slice A4 (pre.length+1) c4),?_,?_,?_⟩
       ·omega
       ·intro t ht
        rcases List.mem_append.1 ht with ht | ht
        ·exact Htame.out t ht
        ·simp at ht
         subst ht
         exact⟨by unfold tame;show (byt nm).length≤_;rw[byt_length];omega,HtameF.out⟩
       ·rw[List.length_append]
        exact own_keepB hown4 fun b hb=>heap_setCell_other w4 ⟨w.heap.size+1,0,none⟩ b (.slice A4 (pre.length+1) c4) (by have:=(hown4.lt b hb).1;show b≠w.heap.size+1;omega)
       ·exact (Hch3.out.imp fun cs a h=>rTyp_stays.to (Keeps.oth hg4 hv4) h).imp fun cs a h=>rTyp_stays.to (S':=Oth (w.heap.size+1+1) (.slice A4 (pre.length+1) c4) (w4.setCell ⟨w.heap.size+1,0,none⟩ (.slice A4 (pre.length+1) c4))) (fun b hb=>⟨⟨⟨hb.1.1,by have:=hb.1.2;simpa using this⟩,hb.2⟩,heap_setCell_other w4 ⟨w.heap.size+1,0,none⟩ b (.slice A4 (pre.length+1) c4) (by have:=hb.1.1;show b≠w.heap.size+1;omega)⟩) h
       ·exact by have:=Hoi.out;rw[hqn] at this;exact this
      case measure=>
       show q.size<r.size;omega
     ·have h0':decide ((0:Int)<(q.size:Int))=true:=zJ (by omega)
      have h1c:(1:Int)≤(q.size:Int):=by omega
      have hex:byt (q.extract 1 q.size)=(byt q).drop 1:=by rw[byt_extract,List.take_of_length_le (by simp)]
      have hexs:(q.extract 1 q.size).size=q.size - 1:=by simp
      have bTc0:=bT.cell (j:=0) rfl
      have bTc1:=bT.cell (j:=1) rfl
      have hBW:=hBo.trans (hC.mono hBo.size)
      have hOlt:=bO.lt
      have bO2:=bO.to hC
      have bR2:=bR.to hC
      have cO2:=bO2.cell (j:=0) rfl
      have fO2:=bO2.frozen 0
      have hltO:=hownO.lt
      have hownO2:=own_below hownO hC
      have hA:Below v0.heap.size v0 (v0.alloc (.cells #[.string nm,.slice AF fs.length cF] 44)):=(zA _ v0).alloc (zW _) _
      have hbx:Rd (v0.alloc (.cells #[.string nm,.slice AF fs.length cF] 44)) (some ⟨v0.heap.size,0,none⟩) [.string nm,.slice AF fs.length cF]:=(Blk.new v0 44 [.string nm,.slice AF fs.length cF]).rd
      have hown3:=own_below hownO2 hA
      have hB3:=hBW.trans (hA.mono hBW.size)
      have hsz3:w.heap.size+1+1≤(v0.alloc (.cells #[.string nm,.slice AF fs.length cF] 44)).heap.size:=by
       have h1:=hC.size
       have h2:=hA.size
       omega
      have bO3:=bO2.to hA
      have bR3:=bR2.to hA
      have hsizes:wo.heap.size+1≤v0.heap.size:=bT.lt
      have hkn:Keeps (fun b=>wo.heap.size+1≤b∧b<v0.heap.size) (Oth (w.heap.size+1+1) (.slice AO pre.length cO) (v0.alloc (.cells #[.string nm,.slice AF fs.length cF] 44))) v0 _:=fun b ⟨h1,h2⟩=>
       ⟨⟨⟨by omega,Nat.lt_of_lt_of_le h2 hA.size⟩,fun e=>by have:=(hltO b e.symm).2;omega⟩,hA.block b h2⟩
      have hko:Keeps (Oth (w.heap.size+1+1) (.slice AO pre.length cO) wo) (Oth (w.heap.size+1+1) (.slice AO pre.length cO) (v0.alloc (.cells #[.string nm,.slice AF fs.length cF] 44))) wo _:=fun b ⟨⟨h1,h2⟩,h3⟩=>
       ⟨⟨⟨h1,by have:=hC.size;have:=hA.size;omega⟩,h3⟩,(hA.block b (by have:=hC.size;omega)).trans (hC.block b h2)⟩
      have Hch3:=zZ ((HchO.out.imp (fun cs a h=>rTyp_stays.to hko h)).append (Chunks.one (size:=2) rfl (rTyp_mk (t:=(byt nm,fs)) rfl (by simp only[maxLen];omega) (rFlds_stays.to hkn (cs:=[.slice AF fs.length cF]) ⟨AF,cF,ys,rfl,hnF,hmF,hrdF,HchF.out.imp fun cs a h=>rFld_free h⟩))))
      have Hoi:=zZ (ii_end HI.out (.inl (by rw[byt_length];omega)))
      clear hkn hko HchO HchF hA hownO2 hownO hltO hownF hrdF HI hC hBo bO bR bT
      go_wp2_with (first
       | (at_builtin;refine wpList_apps rfl (.tmp 87) (.tmp 89) 22 rfl (w.heap.size+1+1) 44 i0 (.agg #[.string ⟨#[]⟩,.slice none 0 0]) 2 40 Tryz.underlying22 hi hz0 hz1 hz2 rfl (by omega) (.slice AO pre.length cO) pre.length xs rfl hown3 (some ⟨v0.heap.size,0,none⟩) 1 1 [.string nm,.slice AF fs.length cF] rfl rfl hbx (by simp[Value.oneCell']) (by simp only[maxLen];omega) (by omega) hsz3 ?_;intro v4 w4 hown4 hg4 hv4;obtain⟨A4,c4,hv4e,-⟩:=own_in hown4;subst hv4e;have bO4:Blk w4 (w.heap.size+1) 24 [.slice AO pre.length cO]:=(Blk.grown bO3 hown3 hg4 (by omega));have cO4:=bO4.cell (j:=0) rfl;have fO4:=bO4.frozen 0)
       | fail)
      go_roundw
      case rel=>
       have bR4:=Blk.grown bR3 hown3 hg4 (by omega)
       have hB4:=hB3.grown hg4 hB3.size (fun k hk=>by have:=(hown3.lt k hk).1;omega)
       refine⟨q.extract 1 q.size,pre++[(byt nm,fs)],.slice A4 (pre.length+1) c4,xs++[.string nm,.slice AF fs.length cF],rfl,?_⟩
       refine⟨?_,by rw[List.length_append,List.length_cons,List.length_nil];omega,?_,hB4.setCell (p:=⟨w.heap.size+1,0,none⟩) (by show w.heap.size≤w.heap.size+1;omega) (.slice A4 (pre.length+1) c4),bR4.other ⟨w.heap.size+1,0,none⟩ (.slice A4 (pre.length+1) c4) (by show w.heap.size≠w.heap.size+1;omega),bO4.set 0 (.slice A4 (pre.length+1) c4),?_,?_,?_⟩
       ·rw[hexs];omega
       ·intro t ht
        rcases List.mem_append.1 ht with ht | ht
        ·exact Htame.out t ht
        ·simp at ht
         subst ht
         exact⟨by unfold tame;show (byt nm).length≤_;rw[byt_length];omega,HtameF.out⟩
       ·rw[List.length_append]
        exact own_keepB hown4 fun b hb=>heap_setCell_other w4 ⟨w.heap.size+1,0,none⟩ b (.slice A4 (pre.length+1) c4) (by have:=(hown4.lt b hb).1;show b≠w.heap.size+1;omega)
       ·exact (Hch3.out.imp fun cs a h=>rTyp_stays.to (Keeps.oth hg4 hv4) h).imp fun cs a h=>rTyp_stays.to (S':=Oth (w.heap.size+1+1) (.slice A4 (pre.length+1) c4) (w4.setCell ⟨w.heap.size+1,0,none⟩ (.slice A4 (pre.length+1) c4))) (fun b hb=>⟨⟨⟨hb.1.1,by have:=hb.1.2;simpa using this⟩,hb.2⟩,heap_setCell_other w4 ⟨w.heap.size+1,0,none⟩ b (.slice A4 (pre.length+1) c4) (by have:=hb.1.1;show b≠w.heap.size+1;omega)⟩) h
       ·exact by rw[hex];exact Hoi.out
      case measure=>
       show (q.extract 1 q.size).size<r.size;rw[hexs];omega
  ·have hr0':decide ((0:Int)<(r.size:Int))=true:=zJ (by omega)
   have hp4':decide ((pre.length:Int)≤4)=false:=zK (by omega)
   have hoi2:=oi_end hoi (.inr (by omega))
   have Ho:=zZ (Hg.out pre hoi2)
   obtain⟨A1,c1,hv1,hsl⟩:=own_rSlice' rTyp_stays hownO0 rfl hchO0
   injection hv1 with e1 e2 e3
   subst e1 e3
   have hslA:rSch (All wo0) wo0 [.slice AO pre.length cO] pre:=rSch_stays.to (Keeps.mono fun b hb=>hb.2) hsl
   have M1:=zZ (rsmay_any AO pre.length cO pre wo0 hslA htame)
   have X1:=zZ (fun W (hW:Below wo0.heap.size wo0 W)=>rtext_any AO pre.length cO pre W (sch_below hW hslA) htame)
   have hnil:∀ (S:Nat→Prop) (W:World),rSch S W [.slice none 0 0] []:=fun S W=>⟨none,0,[],rfl,zW _,Nat.zero_le _,.inl rfl,Chunks.nil⟩
   clear hoi2 hoi hchO0 hownO0 Hg htame
   have hko:∀ (W:World) (v:Value),Below wo0.heap.size wo0 W→Keeps (fun b=>w.heap.size+1+1≤b∧b<wo0.heap.size) (fun b=>w.heap.size≤b∧b<(W.setCell ⟨w.heap.size,0,none⟩ v).heap.size) wo0 (W.setCell ⟨w.heap.size,0,none⟩ v):=fun W v hW b hb=>by
    have h1:=Keeps.set (S:=fun b=>w.heap.size+1+1≤b∧b<wo0.heap.size) (w:=W) (g:=w.heap.size) (fun b hb=>by omega) 0 v b hb
    refine⟨⟨by omega,?_⟩,?_⟩
    ·have:=hW.size
     simp
     omega
    ·rw[h1.2]
     exact hW.block b hb.2
   have Hko:=zZ hko
   have Hsl:=zZ hsl
   clear hko hsl hslA
   generalize hmp:mayS pre=mp at *
   clear hmp
   go_wp2_with fail
   refine M1.out.mono ?_
   rintro e v1 ⟨rfl,hE1⟩
   have bR1:=bR0.to hE1
   have bO1:=bO0.to hE1
   have hBv1:=hBo0.trans (hE1.mono hBo0.size)
   cases mp
   ·have Hn:Hid (ro=none):=zZ (by rw[Ho.out,if_neg (by simp)])
    have x0:=bR1.cell (j:=0) rfl
    have f0:=bR1.frozen 0
    have Hrw:=zZ (bR1.set 0 (.slice none 0 0))
    have HBr:=zZ (hBv1.setCell (p:=⟨w.heap.size,0,none⟩) (zW w.heap.size) (.slice none 0 0))
    go_wp2
    refine ret_cell1 rfl Hrw.out Tryz.underlying24 rfl hsz rfl rfl ?_
    exact⟨_,_,_,_,rfl,by rw[Hn.out];exact⟨rfl,rfl,hnil _ _,fun _=>⟨rfl,rfl⟩⟩,HBr.out⟩
   ·have y0:=bO1.cell (j:=0) rfl
    go_wp2_with fail
    refine (X1.out _ hE1).mono ?_
    rintro e v2 ⟨tx,rfl,htx,hE2⟩
    have bR2:=bR1.to hE2
    have bO2:=bO1.to hE2
    have hBv2:=hBv1.trans (hE2.mono hBv1.size)
    have hE12:=hE1.trans (hE2.mono hE1.size)
    have x0:=bR2.cell (j:=0) rfl
    have f0:=bR2.frozen 0
    have y1:=bO2.cell (j:=0) rfl
    have hq:=str_beq tx s
    rw[htx] at hq
    by_cases he:textS pre=byt s
    ·rw[zJ he] at hq
     have Hn:Hid (ro=some pre):=zZ (by rw[Ho.out,if_pos ⟨by simp,he⟩])
     have Hrw:=zZ (bR2.set 0 (.slice AO pre.length cO))
     have HBr:=zZ (hBv2.setCell (p:=⟨w.heap.size,0,none⟩) (zW w.heap.size) (.slice AO pre.length cO))
     clear he htx
     go_wp2
     refine ret_cell1 rfl Hrw.out Tryz.underlying24 rfl hsz rfl rfl ?_
     exact⟨_,_,_,_,rfl,by rw[Hn.out];exact⟨rfl,rfl,rSch_stays.to (Hko.out _ _ hE12) Hsl.out,fun h=>by cases h⟩,HBr.out⟩
    ·rw[zK he] at hq
     have Hn:Hid (ro=none):=zZ (by rw[Ho.out,if_neg (fun h=>he h.2)])
     have Hrw:=zZ (bR2.set 0 (.slice none 0 0))
     have HBr:=zZ (hBv2.setCell (p:=⟨w.heap.size,0,none⟩) (zW w.heap.size) (.slice none 0 0))
     clear he htx
     go_wp2
     refine ret_cell1 rfl Hrw.out Tryz.underlying24 rfl hsz rfl rfl ?_
     exact⟨_,_,_,_,rfl,by rw[Hn.out];exact⟨rfl,rfl,hnil _ _,fun _=>⟨rfl,rfl⟩⟩,HBr.out⟩
end Go.Proofs.YtdlkmjfbmenedaaGreatDoor
