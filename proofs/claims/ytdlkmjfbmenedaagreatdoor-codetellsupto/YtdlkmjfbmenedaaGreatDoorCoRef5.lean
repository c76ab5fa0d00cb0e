/- The contract of the document's own List (layer 10): roots of bytes. Condition: at most 1048576 bytes. -/
import Derived.Test.YtdlkmjfbmenedaaGreatDoorCoRootsOf
import Derived.Test.YtdlkmjfbmenedaaGreatDoorGFlRef
import Derived.Test.YtdlkmjfbmenedaaGreatDoorAl
set_option maxRecDepth 100000
set_option maxHeartbeats 1000000
namespace Go.Proofs.YtdlkmjfbmenedaaGreatDoor
open Go.RowKit
theorem rootsL_some {bs ls:List Nat} (h:vallL bs=some ls) (hs:∀ n∈ls,n≤1073741825):rootsL bs=some (ls.map fun n:Nat=>(n:Int) - 1):=by rw[rootsL,h];exact if_pos hs
theorem rootsL_big {bs ls:List Nat} {x:Nat} (h:vallL bs=some ls) (hx:x∈ls) (hb:1073741825<x):rootsL bs=none:=by
 rw[rootsL,h]
 exact if_neg fun hs=>by have:=hs x hx;omega
theorem rootsL_none {bs:List Nat} (h:vallL bs=none):rootsL bs=none:=by rw[rootsL,h];rfl
theorem wrap_root {x:Nat} (h:x≤1073741825):wrap64 (wrap64 (x:Int) - 1)=(x:Int) - 1:=by
 have h1:wrap64 (x:Int)=(x:Int):=by unfold wrap64;omega
 rw[h1]
 unfold wrap64
 omega
structure SmallR (l:List Nat):Prop where
 all:∀ n∈l,n≤1073741825
theorem SmallR.take0 (ls:List Nat):SmallR (ls.take 0):=⟨fun _ h=>by simp at h⟩
theorem SmallR.more {ls:List Nat} {i x:Nat} (hx:ls[i]?=some x) (h:SmallR (ls.take i)) (hb:¬ 1073741825<x):SmallR (ls.take (i+1)):=by
 refine⟨fun m hm=>?_⟩
 have e:=take_at hx
 rcases List.mem_append.1 (e ▸ hm) with h1 | h1
 ·exact h.all m h1
 ·have h2:=List.mem_singleton.1 h1
  omega
theorem SmallR.full {ls:List Nat} {i:Nat} (h:SmallR (ls.take i)) (hi:ls.length≤i):SmallR ls:=⟨fun m hm=>h.all m (by rw[List.take_of_length_le hi];exact hm)⟩
theorem rootsL_big2 {bs:List Nat} {x:Nat} (hx:x∈(vallL bs).getD []) (hb:1073741825<x):rootsL bs=none:=by
 cases hv:vallL bs with
 | none=>rw[hv] at hx;cases hx
 | some ls=>rw[hv] at hx;exact rootsL_big hv hx hb
theorem rootsL_end {bs:List Nat} (h:SmallR ((vallL bs).getD [])):((vallL bs).isSome=true∧rootsL bs=some (((vallL bs).getD []).map fun n:Nat=>(n:Int) - 1))∨((vallL bs).isSome=false∧rootsL bs=none):=by
 cases hv:vallL bs with
 | none=>exact .inr ⟨rfl,rootsL_none hv⟩
 | some ls=>rw[hv] at h;exact .inl ⟨rfl,rootsL_some hv h.all⟩
theorem rlist_any (A:Option Addr) (n c:Nat) (bs:List Nat) (w:World) (hn:bs.length=n) (hc:n≤c) (hb:∀ x∈bs,x<256) (hlen:n≤1048576) (hr:Rd w A (u8s bs)):
  Calls Tryz.prog 60 #[.slice A n c] w fun r w'=>∃ v b,r=.returned (.tuple #[v,.bool b])∧Below w.heap.size w w'∧((∃ l,rootsL bs=some l∧b=true∧w'.ownsRow w.heap.size 3 1 v l.length (ints l))∨(rootsL bs=none∧b=false)):=by
 subst hn
 obtain⟨j0,hj,hy0,hy1,hy2⟩:=info_parts info_int
 have T1:=zZ (vrall_any A c bs w hc hb hr hlen)
 have Hss:=zZ (fun x hx hb=>rootsL_big2 (bs:=bs) (x:=x) hx hb)
 have Hll:Hid (((vallL bs).getD []).length≤1048576):=zZ (by
  cases hv:vallL bs with
  | none=>simp
  | some ls=>have:=vallL_len _ (zW _) hv;simpa using (by omega:ls.length≤1048576))
 have Hend:=zZ (rootsL_end (bs:=bs))
 clear hr hb
 generalize bs.length=n at *
 generalize (vallL bs).getD []=ls at *
 generalize (vallL bs).isSome=ok at *
 generalize rootsL bs=rl at *
 go_enter Tryz.func60,Tryz.ntmps60
 go_wp2_with fail
 refine T1.out.mono ?_
 rintro r w1 ⟨v,rfl,hown,hB1⟩
 obtain⟨A1,c1,rfl,hc1,hr1,-⟩:=own_slice hown
 have HB:=zZ hB1
 have HR:=zZ hr1
 have hLL:=Hll.out
 clear T1 hown hB1 hr1
 generalize hL:ls.length=L at *
 go_wp2
 go_loopw [6,7] (fun v iv wr=>∃ i:Nat,i≤L∧iv=.int .i64 (i:Int)∧Hid (SmallR (ls.take i))∧Hid (wr.ownsRow w1.heap.size 3 1 v i (ints ((ls.take i).map fun n:Nat=>(n:Int) - 1)))∧Hid (Below w1.heap.size w1 wr)) (fun _ iv _=>L - (intOf iv).toNat)
 case atStart=>exact⟨0,by omega,rfl,zZ (SmallR.take0 ls),zZ (World.ownsRow_nil _ _ _ _),zZ (zA _ _)⟩
 case round=>
  rename World=>wr
  obtain⟨i,hi',rfl,hsm,hown,hB⟩:=hrel
  have hsr:=hB.out.size
  by_cases hin:i<L
  ·obtain⟨x,hx⟩:∃ x,ls[i]?=some x:=⟨_,zV (by omega)⟩
   have hxu:(u64s ls)[i]?=some (.int .u64 (x:Int)):=by simp[u64s,hx]
   obtain⟨b,off,rfl,hbb,hcell⟩:=HR.out.at (k:=i) (by simp;omega)
   have x0:=(hB.out.cell (p:=⟨b,off+i,none⟩) hbb).trans (hcell i _ hxu)
   have Htk:=zZ (show (ls.take (i+1)).map (fun n:Nat=>(n:Int) - 1)=(ls.take i).map (fun n:Nat=>(n:Int) - 1)++[(x:Int) - 1] by rw[take_at hx,List.map_append];rfl)
   have Hx0:=zZ hx
   have Hmem:=zZ (List.mem_of_getElem? hx)
   have hil:(i:Int)<(L:Int):=by omega
   have hi0:(0:Int)≤(i:Int):=by omega
   have Hin:=zZ hin
   clear hx hxu hcell hL
   by_cases hbig:1073741825<x
   ·have hd:decide ((1073741825:Int)<(x:Int))=true:=zJ (by omega)
    have HN:=zZ (Hss.out x Hmem.out hbig)
    have HB9:=zZ (HB.out.trans (hB.out.mono HB.out.size))
    have HZ:=zZ (And.intro HB9.out HN.out)
    clear hbig hown hB hsm Hss Hend HN Htk Hx0 Hmem HB9
    go_wp2
    go_ret2
    exact⟨.slice none 0 0,false,rfl,HZ.out.1,.inr ⟨HZ.out.2,rfl⟩⟩
   ·have hd:decide ((1073741825:Int)<(x:Int))=false:=zK (by omega)
    have hw:wrap64 (wrap64 (x:Int) - 1)=(x:Int) - 1:=wrap_root (by omega)
    have Hw:=zZ hw
    have Hsm2:=zZ (SmallR.more Hx0.out hsm.out hbig)
    clear hbig hw Hss Hend Hx0 Hmem hsm
    generalize (ls.take i).map (fun n:Nat=>(n:Int) - 1)=pre at *
    obtain⟨Av,cv,hvv⟩:=own_slice3 hown.out
    subst hvv
    have t2:i+1≤maxLen:=by simp only[maxLen];omega
    have t3:w1.heap.size≤(wr.alloc (.cells #[.int .i64 (wrap64 (wrap64 (x:Int) - 1))] 3)).heap.size:=by simp only[World.size_alloc];omega
    have t4:=lit_ints wr [wrap64 (wrap64 (x:Int) - 1)]
    have t5:=hown.out.alloc (.cells #[.int .i64 (wrap64 (wrap64 (x:Int) - 1))] 3)
    have HB4:=zZ (hB.out.alloc hsr (.cells #[.int .i64 (wrap64 (wrap64 (x:Int) - 1))] 3))
    go_wp2_with (first
     | (at_builtin;refine wpList_app rfl (.tmp 24) (.tmp 31) 26 rfl w1.heap.size 3 j0 (.int .i64 0) 8 Tryz.underlying26 hj hy0 hy1 hy2 rfl (.slice Av i cv) i (ints pre) rfl t5 (some ⟨wr.heap.size,0,none⟩) 1 1 (ints [wrap64 (wrap64 (x:Int) - 1)]) rfl rfl t4 (ints_one _) t2 (by omega) t3 ?_;intro v5 w5 hown5 hg5 _)
     | fail)
    go_roundw
    case rel=>exact⟨i+1,Hin.out,by have:=Hin.out;go_num,Hsm2,zZ (by rw[Htk.out,ints_append,← Hw.out];exact hown5),zZ (HB4.out.grown hg5 t3 (fun k hk=>(t5.lt k hk).1))⟩
    case measure=>have:=Hin.out;simp[intOf];omega
  ·have hiK:i=L:=by omega
   have HX:=zZ (Hend.out (SmallR.full hsm.out (by omega)))
   rw[List.take_of_length_le (by omega)] at hown
   obtain⟨Av,cv,hvv⟩:=own_slice3 hown.out
   subst hvv hiK
   have hil:¬ ((i:Int)<(i:Int)):=by omega
   have HY:Hid (wr.ownsRow w.heap.size 3 1 (.slice Av i cv) (ls.map fun n:Nat=>(n:Int) - 1).length (ints (ls.map fun n:Nat=>(n:Int) - 1))):=zZ (by
    have h1:=own_mono hown.out HB.out.size
    rw[List.length_map,hL]
    exact h1)
   have HB9:=zZ (HB.out.trans (hB.out.mono HB.out.size))
   clear hown hB hL hsm Hend Hss
   go_wp2
   go_ret2
   rcases HX.out with⟨h1,h2⟩ | ⟨h1,h2⟩
   ·subst h1
    exact⟨.slice Av i cv,.inr ⟨rfl,HB9.out,_,h2,HY.out⟩⟩
   ·subst h1
    exact⟨.slice Av i cv,.inl ⟨rfl,HB9.out,h2⟩⟩
end Go.Proofs.YtdlkmjfbmenedaaGreatDoor
