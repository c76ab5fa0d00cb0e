/- The contracts of the document's own text and Roots (layer 10): a text, and roots, as bytes. Conditions: what each lemma names. -/
import Derived.Test.YtdlkmjfbmenedaaGreatDoorCoPart
import Derived.Test.YtdlkmjfbmenedaaGreatDoorGVlRef
import Derived.Test.YtdlkmjfbmenedaaGreatDoorAl
set_option maxRecDepth 100000
set_option maxHeartbeats 1000000
namespace Go.Proofs.YtdlkmjfbmenedaaGreatDoor
open Go.RowKit
theorem rtextb_any (s:ByteArray) (w:World) (hs:s.size≤1000000):
  Calls Tryz.prog 46 #[.string s] w fun r w'=>∃ v,r=.returned v∧w'.ownsRow w.heap.size 5 1 v (byt s).length (u8s (byt s))∧Below w.heap.size w w':=by
 obtain⟨i0,hi,hz0,hz1,hz2⟩:=info_parts info_u8
 go_enter Tryz.func46,Tryz.ntmps46
 go_wp2
 go_loopw [3,4] (fun v iv wr=>∃ (i:Nat) (pre:List Nat),i≤s.size∧iv=.int .i64 (i:Int)∧pre=(byt s).take i∧wr.ownsRow w.heap.size 5 1 v pre.length (u8s pre)∧Below w.heap.size w wr) (fun _ iv _=>s.size - (intOf iv).toNat)
 case atStart=>exact⟨0,[],by omega,rfl,by simp,World.ownsRow_nil _ _ _ _,zA _ _⟩
 case round=>
  rename World=>wr
  obtain⟨i,pre,hi1,rfl,hpre,hown,hBr⟩:=hrel
  have hsz:=hBr.size
  have hprel:pre.length≤1000000:=by rw[hpre,List.length_take,byt_length];omega
  have Hpre:=zZ hpre
  clear hpre
  by_cases hin:i<s.size
  ·have hd:decide ((i:Int)<(s.size:Int))=true:=zJ (by omega)
   have Hnext:=zZ (byt_take_succ s i hin)
   go_wp2_with (at_builtin;refine wpList_append_own _ rfl _ _ 29 rfl w.heap.size 5 i0 (.int .u8 0) 1 1 Tryz.underlying29 hi hz0 hz1 hz2 rfl (by decide) _ _ _ rfl (hown.alloc _) ⟨wr.heap.size,0,none⟩ 1 1 [.int .u8 (((s[i]'hin).toNat:Nat):Int)] rfl rfl (cell_one_new _ _ _) (by simp[Value.oneCell']) (by simp only[maxLen];omega) (by omega) (by simp;omega) ?_;intro v' w4 hown' hgrow _)
   have R:=own_step hBr hown hsz hown' hgrow
   refine⟨⟨i+1,pre++[(s[i]'hin).toNat],by omega,by go_num,by rw[Hpre.out,Hnext.out],R.1,R.2⟩,?_⟩
   simp[intOf];omega
  ·have hd:decide ((i:Int)<(s.size:Int))=false:=zK (by omega)
   go_wp2
   go_ret
   have he:pre=byt s:=by rw[Hpre.out,List.take_of_length_le (by rw[byt_length];omega)]
   rw[he] at hown
   exact⟨_,rfl,hown,hBr⟩
theorem rroots_any (C:Option Addr) (K e:Nat) (l:List Int) (w:World) (h:rIds (All w) w [.slice C K e] l) (hb:∀ r∈l,-1≤r∧r≤1073741824) (hK3:K≤100):
  Calls Tryz.prog 48 #[.slice C K e] w fun r w'=>∃ v,r=.returned v∧w'.ownsRow w.heap.size 5 1 v (rootsB l).length (u8s (rootsB l))∧Below w.heap.size w w':=by
 obtain⟨hK,-,-⟩:=slice_len h
 obtain⟨i0,hi,hz0,hz1,hz2⟩:=info_parts info_u8
 have hlen:∀ i,(rootsB (l.take i)).length≤5 * K:=fun i=>by
  have:=catV_len5 (l:=(l.take i).map fun r=>(r+1).toNat) (fun n hn=>by
   obtain⟨r,hr,rfl⟩:=List.mem_map.1 hn
   have:=hb r (List.mem_of_mem_take hr)
   omega)
  rw[List.length_map,List.length_take] at this
  rw[rootsB]
  omega
 have Hh:=zZ h
 have Hb:=zZ hb
 have Hlen:=zZ hlen
 clear h hb hlen
 go_enter Tryz.func48,Tryz.ntmps48
 go_wp2
 go_loopw [3,4] (fun v iv wr=>∃ i:Nat,i≤K∧iv=.int .i64 (i:Int)∧wr.ownsRow w.heap.size 5 1 v (rootsB (l.take i)).length (u8s (rootsB (l.take i)))∧Below w.heap.size w wr) (fun _ iv _=>K - (intOf iv).toNat)
 case atStart=>exact⟨0,by omega,rfl,World.ownsRow_nil _ _ _ _,zA _ _⟩
 case round=>
  rename World=>wr
  obtain⟨i,hi',rfl,hown,hB⟩:=hrel
  by_cases hin:i<K
  ·obtain⟨x,hx⟩:∃ x,l[i]?=some x:=⟨_,zV (by omega)⟩
   obtain⟨b,off,rfl,hbb,x0,hxb⟩:=id_at Hh.out hx
   have x0':=(hB.cell (p:=⟨b,off+i,none⟩) hbb).trans x0
   have htk:=rootsB_take hx
   have hxr:=Hb.out x (List.mem_of_getElem? hx)
   obtain⟨n,hn⟩:=Int.eq_ofNat_of_zero_le (show 0≤x+1 by omega)
   rw[hn,Int.toNat_natCast] at htk
   have hl1:=Hlen.out i
   have hl2:=putL_len10 n (by omega)
   have e1:wrap64 (x+1)=(n:Int):=by rw[hn];unfold wrap64;omega
   have P1:=zZ (fun W=>vrput_any n W (by omega))
   have Htk:=zZ htk
   have HB:=zZ hB
   have hil:(i:Int)<(K:Int):=by omega
   have hi0:(0:Int)≤(i:Int):=by omega
   clear htk hB x0 hx
   generalize rootsB (l.take i)=pre at *
   go_wp2_with fail
   refine (P1.out wr).mono ?_
   rintro r w3 ⟨v3,rfl,hv3,hB3⟩
   obtain⟨A3,c3,rfl,hc3,hr3,-⟩:=own_slice hv3
   have hown3:=own_below hown hB3
   have HB3:=zZ (HB.out.trans (hB3.mono HB.out.size))
   have hsz:=HB3.out.size
   clear P1 hown hv3 hB3
   go_wp2_with (first
    | (at_builtin;refine wpList_app rfl (.tmp 11) (.tmp 18) 29 rfl w.heap.size 5 i0 (.int .u8 0) 1 Tryz.underlying29 hi hz0 hz1 hz2 rfl _ pre.length (u8s pre) rfl hown3 A3 (vputL n).length c3 (u8s (vputL n)) rfl (by simp) hr3 (u8s_one _) (by simp only[maxLen];omega) (by omega) hsz ?_;intro v5 w5 hown5 hg5 _)
    | fail)
   go_roundw
   case rel=>
    refine⟨i+1,by omega,by go_num,?_,HB3.out.grown hg5 hsz (fun k hk=>(hown3.lt k hk).1)⟩
    rw[Htk.out,u8s_append,List.length_append]
    exact hown5
   case measure=>simp[intOf];omega
  ·have hiK:i=K:=by omega
   rw[List.take_of_length_le (by omega)] at hown
   clear hiK
   go_wp2
   go_ret
   exact⟨_,rfl,hown,hB⟩
end Go.Proofs.YtdlkmjfbmenedaaGreatDoor
