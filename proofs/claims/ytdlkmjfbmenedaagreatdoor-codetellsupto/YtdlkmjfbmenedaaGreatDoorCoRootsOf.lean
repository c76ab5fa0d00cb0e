/- The contract of code's rootsOf: the roots of bytes, as they wrap, or a panic. Condition: at most 1048576 bytes. -/
import Derived.Test.YtdlkmjfbmenedaaGreatDoorCoErr
import Derived.Test.YtdlkmjfbmenedaaGreatDoorCoSum
import Derived.Test.YtdlkmjfbmenedaaGreatDoorGVari
import Derived.Test.YtdlkmjfbmenedaaGreatDoorGCanon
import Derived.Test.YtdlkmjfbmenedaaGreatDoorAl
set_option maxRecDepth 100000
set_option maxHeartbeats 1000000
namespace Go.Proofs.YtdlkmjfbmenedaaGreatDoor
open Go.RowKit
theorem rootsQ_some {bs ls:List Nat} (h:vallL bs=some ls):rootsQ bs=some (ls.map rootQ):=by rw[rootsQ,h];rfl
theorem rootsQ_none {bs:List Nat} (h:vallL bs=none):rootsQ bs=none:=by rw[rootsQ,h];rfl
theorem vallL_len:∀ (n:Nat) {b ls:List Nat},b.length≤n→vallL b=some ls→ls.length≤b.length
 | 0,b,ls,hn,h=>by
  obtain rfl:b=[]:=List.eq_nil_of_length_eq_zero (by omega)
  rw[vallL_nil] at h
  injection h with h
  subst h
  simp
 | n+1,b,ls,hn,h=>by
  by_cases hb:b=[]
  ·subst hb
   rw[vallL_nil] at h
   injection h with h
   subst h
   simp
  ·have hbl:0<b.length:=by
    rcases Nat.eq_zero_or_pos b.length with h0 | h0
    ·exact absurd (List.eq_nil_of_length_eq_zero h0) hb
    ·exact h0
   by_cases h2:(getL b).2=0
   ·rw[allL_none b hb h2] at h;cases h
   ·rw[allL_some b h2] at h
    cases hv:vallL (b.drop (getL b).2) with
    | none=>rw[hv] at h;cases h
    | some l=>
     rw[hv] at h
     injection h with h
     subst h
     have:=vallL_len n (b:=b.drop (getL b).2) (by rw[List.length_drop];omega) hv
     rw[List.length_drop] at this
     rw[List.length_cons]
     omega
theorem rootsOf_any (A:Option Addr) (n c:Nat) (bs:List Nat) (w:World) (hn:bs.length=n) (hc:n≤c) (hb:∀ x∈bs,x<256) (hlen:n≤1048576) (hr:Rd w A (u8s bs)):
  Calls Tryz.prog 85 #[.slice A n c] w fun r w'=>Below w.heap.size w w'∧((∃ l v,rootsQ bs=some l∧r=.returned v∧w'.ownsRow w.heap.size 3 1 v l.length (ints l))∨(rootsQ bs=none∧r=Wrong 2)):=by
 subst hn
 obtain⟨j0,hj,hy0,hy1,hy2⟩:=info_parts info_int
 have T1:=zZ (vall_any A c bs w hc hb hlen hr)
 cases hv:vallL bs with
 | none=>
  have HN:=zZ (rootsQ_none hv)
  rw[hv] at T1
  clear hv hr hb
  go_enter Tryz.func85,Tryz.ntmps85
  go_wp2_with fail
  refine T1.out.mono ?_
  rintro r w1 ⟨v,rfl,hown,hB1⟩
  have HB:=zZ hB1
  clear T1 hown hB1
  go_wp2_with fail
  refine (must_no 2 _).mono ?_
  rintro r w2 ⟨rfl,rfl⟩
  unfold Wrong
  go_wp2_with fail
  exact⟨rfl,HB.out,.inr ⟨HN.out,rfl⟩⟩
 | some ls=>
  have HN:=zZ (rootsQ_some hv)
  have hll:ls.length≤1048576:=by
   have:=vallL_len _ (zW _) hv
   omega
  rw[hv] at T1
  clear hv hr hb
  generalize bs.length=n at *
  go_enter Tryz.func85,Tryz.ntmps85
  go_wp2_with fail
  refine T1.out.mono ?_
  rintro r w1 ⟨v,rfl,hown,hB1⟩
  obtain⟨A1,c1,rfl,hc1,hr1,-⟩:=own_slice hown
  simp only[Option.getD_some] at *
  have HB:=zZ hB1
  have HR:=zZ hr1
  clear T1 hown hB1 hr1
  generalize hL:ls.length=L at *
  go_wp2_with fail
  refine (must_yes 2 _).mono ?_
  rintro r w2 ⟨rfl,rfl⟩
  go_wp2
  go_loopw [5,17] (fun v iv wr=>∃ i:Nat,i≤L∧iv=.int .i64 (i:Int)∧Hid (wr.ownsRow w1.heap.size 3 1 v i (ints ((ls.take i).map rootQ)))∧Hid (Below w1.heap.size w1 wr)) (fun _ iv _=>L - (intOf iv).toNat)
  case atStart=>exact⟨0,by omega,rfl,zZ (World.ownsRow_nil _ _ _ _),zZ (zA _ _)⟩
  case round=>
   rename World=>wr
   obtain⟨i,hi',rfl,hown,hB⟩:=hrel
   have hsr:=hB.out.size
   by_cases hin:i<L
   ·obtain⟨x,hx⟩:∃ x,ls[i]?=some x:=⟨_,zV (by omega)⟩
    have hxu:(u64s ls)[i]?=some (.int .u64 (x:Int)):=by simp[u64s,hx]
    obtain⟨b,off,rfl,hbb,hcell⟩:=HR.out.at (k:=i) (by simp;omega)
    have x0:=(hB.out.cell (p:=⟨b,off+i,none⟩) hbb).trans (hcell i _ hxu)
    have Htk:=zZ (show (ls.take (i+1)).map rootQ=(ls.take i).map rootQ++[rootQ x] by rw[take_at hx,List.map_append];rfl)
    have hil:(i:Int)<(L:Int):=by omega
    have hi0:(0:Int)≤(i:Int):=by omega
    have Hin:=zZ hin
    clear hx hxu hcell hL
    generalize (ls.take i).map rootQ=pre at *
    obtain⟨Av,cv,hvv⟩:=own_slice3 hown.out
    subst hvv
    have t2:i+1≤maxLen:=by simp only[maxLen];omega
    have t3:w1.heap.size≤(wr.alloc (.cells #[.int .i64 (wrap64 (wrap64 (x:Int) - 1))] 3)).heap.size:=by simp only[World.size_alloc];omega
    have t4:=lit_ints wr [wrap64 (wrap64 (x:Int) - 1)]
    have t5:=hown.out.alloc (.cells #[.int .i64 (wrap64 (wrap64 (x:Int) - 1))] 3)
    have HB4:=zZ (hB.out.alloc hsr (.cells #[.int .i64 (wrap64 (wrap64 (x:Int) - 1))] 3))
    go_wp2_with (first
     | (at_builtin;refine wpList_app rfl (.tmp 21) (.tmp 25) 26 rfl w1.heap.size 3 j0 (.int .i64 0) 8 Tryz.underlying26 hj hy0 hy1 hy2 rfl (.slice Av i cv) i (ints pre) rfl t5 (some ⟨wr.heap.size,0,none⟩) 1 1 (ints [wrap64 (wrap64 (x:Int) - 1)]) rfl rfl t4 (ints_one _) t2 (by omega) t3 ?_;intro v5 w5 hown5 hg5 _)
     | fail)
    go_roundw
    case rel=>exact⟨i+1,Hin.out,by have:=Hin.out;go_num,zZ (by rw[Htk.out,ints_append];exact hown5),zZ (HB4.out.grown hg5 t3 (fun k hk=>(t5.lt k hk).1))⟩
    case measure=>have:=Hin.out;simp[intOf];omega
   ·have hiK:i=L:=by omega
    rw[List.take_of_length_le (by omega)] at hown
    have HX:Hid (wr.ownsRow w.heap.size 3 1 _ (ls.map rootQ).length (ints (ls.map rootQ))):=zZ (by
     have h1:=own_mono hown.out HB.out.size
     rw[hiK,← hL] at h1
     rw[List.length_map]
     exact h1)
    have HB9:=zZ (HB.out.trans (hB.out.mono HB.out.size))
    clear hiK hown hB hL
    go_wp2
    go_ret
    exact⟨HB9.out,.inl ⟨_,_,HN.out,rfl,HX.out⟩⟩
end Go.Proofs.YtdlkmjfbmenedaaGreatDoor
