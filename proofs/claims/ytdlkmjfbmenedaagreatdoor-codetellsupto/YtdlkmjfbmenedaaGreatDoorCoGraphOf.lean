/- The contract of code's graphOf: the graph of parts, or a panic. Conditions: at most 40 parts of at most 200 bytes; the table of kinds' texts is laid. -/
import Derived.Test.YtdlkmjfbmenedaaGreatDoorCoObjOf
import Derived.Test.YtdlkmjfbmenedaaGreatDoorCoRootsOf
import Derived.Test.YtdlkmjfbmenedaaGreatDoorGText
import Derived.Test.YtdlkmjfbmenedaaGreatDoorGFlow
import Derived.Test.YtdlkmjfbmenedaaGreatDoorGCanon
import Derived.Test.YtdlkmjfbmenedaaGreatDoorAl
set_option maxRecDepth 100000
set_option maxHeartbeats 4000000
namespace Go.Proofs.YtdlkmjfbmenedaaGreatDoor
open Go.RowKit
theorem own_slice_in {α:Type} {R:Reader α} (hR:Stays R) {w:World} {base e size n:Nat} {v:Value} {xs:List Value} {l:List α} (h:w.ownsRow base e size v n xs) (hn:l.length=n) (hc:Chunks size (R (fun b=>base≤b∧b<w.heap.size∧some b≠v.ownBlock) w) xs l):
  ∃ A c,v=.slice A n c∧rSlice size R (fun b=>base≤b∧b<w.heap.size) w [.slice A n c] l:=by
 obtain⟨A,c,rfl,h1,h2,h3⟩:=own_in h
 exact⟨A,c,rfl,A,c,xs,by rw[hn],by omega,h2,h3,hc.imp fun cs a hq=>hR.to (Keeps.mono fun b hb=>⟨hb.1,hb.2.1⟩) hq⟩
theorem objsQ_drop {s:Sch} {os:List (List Nat)} {i:Nat} {b:List Nat} (hb:os[i]?=some b):objsQ s i (os.drop i)=(objQ s i b).bind fun o=>(objsQ s (i+1) (os.drop (i+1))).map (o :: ·):=by
 have:os.drop i=b :: os.drop (i+1):=by
  have hk:=(List.getElem?_eq_some_iff.1 hb)
  rw[List.drop_eq_getElem_cons hk.1,hk.2]
 rw[this,objsQ]
theorem objsQ_more {s:Sch} {os:List (List Nat)} {i:Nat} {b:List Nat} {o:Ob} {pre:List Ob} (hb:os[i]?=some b) (h:objsQ s 0 os=(objsQ s i (os.drop i)).map (pre++·)) (ho:objQ s i b=some o):objsQ s 0 os=(objsQ s (i+1) (os.drop (i+1))).map ((pre++[o])++·):=by
 rw[h,objsQ_drop hb,ho]
 simp only[Option.bind_some,Option.map_map]
 congr 1
 funext q
 simp
theorem objsQ_stop {s:Sch} {os:List (List Nat)} {i:Nat} {b:List Nat} {pre:List Ob} (hb:os[i]?=some b) (h:objsQ s 0 os=(objsQ s i (os.drop i)).map (pre++·)) (ho:objQ s i b=none):objsQ s 0 os=none:=by
 rw[h,objsQ_drop hb,ho]
 rfl
theorem graphQ_sch {a b:List Nat} {os:List (List Nat)} (h:readS a=none):graphQ (a :: b :: os)=none:=by rw[graphQ,h];rfl
theorem graphQ_roots {a b:List Nat} {os:List (List Nat)} (h:rootsQ b=none):graphQ (a :: b :: os)=none:=by
 rw[graphQ,h]
 cases readS a <;> rfl
theorem graphQ_objs {a b:List Nat} {os:List (List Nat)} (h:∀ s,readS a=some s→objsQ s 0 os=none):graphQ (a :: b :: os)=none:=by
 rw[graphQ]
 cases hs:readS a with
 | none=>rfl
 | some s=>
  cases rootsQ b with
  | none=>rfl
  | some r=>
   simp only[Option.bind_some]
   rw[h s hs]
   rfl
theorem graphQ_all {a b:List Nat} {os:List (List Nat)} {s:Sch} {r:List Int} {l:List Ob} (h1:readS a=some s) (h2:rootsQ b=some r) (h3:objsQ s 0 os=some l):graphQ (a :: b :: os)=some (s,l,r):=by
 rw[graphQ,h1,h2]
 simp only[Option.bind_some]
 rw[h3]
 rfl
theorem rootQ_wf (n:Nat):(Lit.int .i64 (rootQ n)).wf=true:=wrap64_wf _
theorem rootsQ_wf {b:List Nat} {l:List Int} (h:rootsQ b=some l):∀ r∈l,(Lit.int .i64 r).wf=true:=fun r hr=>by
 rw[rootsQ] at h
 cases hv:vallL b with
 | none=>rw[hv] at h;cases h
 | some ls=>
  rw[hv] at h
  injection h with h
  subst h
  obtain⟨n,-,rfl⟩:=List.mem_map.1 hr
  exact rootQ_wf n
theorem strB_size {a:List Nat} (h:∀ x∈a,x<256):(strB a).size=a.length:=by rw[← byt_length,byt_strB h]
theorem info_ptG:(Tryz.prog.info? 29).map (fun i=>(i.zero,i.size,i.bytes))=some (some (.slice none 0 0),1,24):=by kernel_rfl
theorem run_rest2 (A:Option Addr) (n c:Nat) (hl:2≤n) (W:World):
  (Instr.sliceAt 56 (.slice A n c) (some (.int .i64 2)) none none).run Tryz.prog W=.ok (.slice (slA A c 2) (n - 2) (c - 2)) W:=by
 obtain⟨i0,hi,hz0,hz1,hz2⟩:=info_parts info_ptG
 have h3:(2:Int)≤(n:Int):=by omega
 simp[Instr.sliceAt,Sem.run_bind,Result.andThen,underlying,Tryz.underlying56,Instr.slice,Instr.sliceBounds,Instr.sliceBound,asIntOf,sizeOf,typeInfo,hi,hz1,h3,slA]
theorem pts_cut {S:Nat→Prop} {w:World} {A:Option Addr} {n c:Nat} {q:List (List Nat)} (h:rPts S w [.slice A n c] q) (k:Nat):rPts S w [.slice (slA A c k) (n - k) (c - k)] (q.drop k):=by
 obtain⟨A1,c1,xs,h1,h2,h3,h4,h5⟩:=h
 simp only[List.cons.injEq,Value.slice.injEq,and_true] at h1
 obtain⟨rfl,rfl,rfl⟩:=h1
 have hl:xs.length=q.length:=by rw[h5.1,Nat.mul_one]
 refine⟨slA A c k,c - k,xs.drop k,by rw[List.length_drop],by rw[List.length_drop];omega,by omega,h4.cut (by omega) k,?_⟩
 have:=h5.drop k
 rwa [Nat.mul_one] at this
theorem rootsOf_bad (A:Option Addr) (n c:Nat) (bs:List Nat) (w:World) (hn:bs.length=n) (hc:n≤c) (hb:∀ x∈bs,x<256) (hlen:n≤1048576) (hr:Rd w A (u8s bs)) (hq:rootsQ bs=none):
  Calls Tryz.prog 85 #[.slice A n c] w fun r w'=>r=Wrong 2∧Below w.heap.size w w':=
 (rootsOf_any A n c bs w hn hc hb hlen hr).mono fun r w' ⟨hB,h⟩=>by
  rcases h with⟨l,v,h1,-⟩ | ⟨-,h⟩
  ·rw[hq] at h1;cases h1
  ·exact⟨h,hB⟩
theorem rootsOf_good (A:Option Addr) (n c:Nat) (bs:List Nat) (w:World) (l:List Int) (hn:bs.length=n) (hc:n≤c) (hb:∀ x∈bs,x<256) (hlen:n≤1048576) (hr:Rd w A (u8s bs)) (hq:rootsQ bs=some l):
  Calls Tryz.prog 85 #[.slice A n c] w fun r w'=>∃ v,r=.returned v∧w'.ownsRow w.heap.size 3 1 v l.length (ints l)∧Below w.heap.size w w':=
 (rootsOf_any A n c bs w hn hc hb hlen hr).mono fun r w' ⟨hB,h⟩=>by
  rcases h with⟨l',v,h1,h2,h3⟩ | ⟨h,-⟩
  ·rw[hq] at h1
   injection h1 with h1
   subst h1
   exact⟨v,h2,h3,hB⟩
  ·rw[hq] at h;cases h
theorem objOf_bad (A P:Option Addr) (N c pn pc:Nat) (s:Sch) (id:Nat) (bs:List Nat) (w:World) (hs:rSch (All w) w [.slice A N c] s) (hid:id≤1000) (hn:bs.length=pn) (hpc:pn≤pc) (hb:∀ x∈bs,x<256) (hr:Rd w P (u8s bs)) (hlen:pn≤1048576)
  (hfew:∀ t,(fldsG s t).length≤5) (hN4:N≤100) (hq:objQ s id bs=none):
  Calls Tryz.prog 86 #[.agg #[.slice A N c],.int .i64 (id:Int),.slice P pn pc] w fun r w'=>r=Wrong 2∧Below w.heap.size w w':=
 (objOf_any A P N c pn pc s id bs w hs hid hn hpc hb hr hlen hfew hN4).mono fun r w' ⟨hB,h⟩=>by
  rcases h with⟨o,A1,n1,c1,h1,-⟩ | ⟨-,h⟩
  ·rw[hq] at h1;cases h1
  ·exact⟨h,hB⟩
theorem objOf_good (A P:Option Addr) (N c pn pc:Nat) (s:Sch) (id:Nat) (bs:List Nat) (w:World) (o:Ob) (hs:rSch (All w) w [.slice A N c] s) (hid:id≤1000) (hn:bs.length=pn) (hpc:pn≤pc) (hb:∀ x∈bs,x<256) (hr:Rd w P (u8s bs)) (hlen:pn≤1048576)
  (hfew:∀ t,(fldsG s t).length≤5) (hN4:N≤100) (hq:objQ s id bs=some o):
  Calls Tryz.prog 86 #[.agg #[.slice A N c],.int .i64 (id:Int),.slice P pn pc] w fun r w'=>∃ A1 n1 c1,r=.returned (.agg #[.int .i64 o.1,.int .i64 o.2.1,.slice A1 n1 c1])∧rOb (fun b=>w.heap.size≤b∧b<w'.heap.size) w' [.int .i64 o.1,.int .i64 o.2.1,.slice A1 n1 c1] o∧Below w.heap.size w w':=
 (objOf_any A P N c pn pc s id bs w hs hid hn hpc hb hr hlen hfew hN4).mono fun r w' ⟨hB,h⟩=>by
  rcases h with⟨o',A1,n1,c1,h1,h2,h3⟩ | ⟨h,-⟩
  ·rw[hq] at h1
   injection h1 with h1
   subst h1
   exact⟨A1,n1,c1,h2,h3,hB⟩
  ·rw[hq] at h;cases h
theorem graphOf_any (A:Option Addr) (n c:Nat) (ps:List (List Nat)) (w:World) (hKt:Kt w) (h:rPts (All w) w [.slice A n c] ps) (hsh:∀ p∈ps,p.length≤200) (hn40:n≤40):
  Calls Tryz.prog 55 #[.slice A n c] w fun r w'=>Below w.heap.size w w'∧((∃ g,graphQ ps=some g∧∃ A1 n1 c1 B1 m1 d1 C1 k1 e1,r=.returned (.agg #[.slice A1 n1 c1,.slice B1 m1 d1,.slice C1 k1 e1])∧rGr (fun b=>w.heap.size≤b∧b<w'.heap.size) w' [.slice A1 n1 c1,.slice B1 m1 d1,.slice C1 k1 e1] g)∨(graphQ ps=none∧r=Wrong 2)):=by
 obtain⟨i0,hi,hz0,hz1,hz2⟩:=info_parts info_obs
 obtain⟨hn,hnc,hcm⟩:=pts_len h
 have hB0:Below w.heap.size w (w.alloc (.cells #[.slice none 0 0,.slice none 0 0,.slice none 0 0] 28)):=(zA _ w).alloc (zW _) _
 have p0:=Blk.new w 28 [.slice none 0 0,.slice none 0 0,.slice none 0 0]
 have s0:(w.alloc (.cells #[.slice none 0 0,.slice none 0 0,.slice none 0 0] 28)).heap.size=w.heap.size+1:=by simp
 have H0:=zZ hB0
 have P0:=zZ p0
 have S0:=zZ s0
 have Hp:=zZ (rPts_stays.to (Keeps.below hB0) h)
 have HK0:=zZ (hKt.below hB0)
 have Hsh:=zZ hsh
 clear h hB0 p0 s0 hKt hsh
 match ps,hn with
 | [],hn=>
  have h2:decide ((2:Int)≤(n:Int))=false:=zK (by simp at hn;omega)
  simp only[List.length_nil] at hn
  subst hn
  go_enter Tryz.func55,Tryz.ntmps55
  go_wp2_with fail
  refine (must_no 2 _).mono ?_
  rintro r w2 ⟨rfl,rfl⟩
  unfold Wrong
  go_wp2_with fail
  exact⟨rfl,H0.out,.inr ⟨rfl,rfl⟩⟩
 | [p],hn=>
  simp only[List.length_cons,List.length_nil] at hn
  subst hn
  go_enter Tryz.func55,Tryz.ntmps55
  go_wp2_with fail
  refine (must_no 2 _).mono ?_
  rintro r w2 ⟨rfl,rfl⟩
  unfold Wrong
  go_wp2_with fail
  exact⟨rfl,H0.out,.inr ⟨rfl,rfl⟩⟩
 | a :: b :: os,hn=>
  obtain⟨bp,offp,A0,c0,hA,hbp,x0,h0c,h0m,hab,har⟩:=pts_at Hp.out (i:=0) rfl
  obtain⟨bp1,offp1,A9,c9,hA9,-,x1,h1c,h1m,hbb,hbr⟩:=pts_at Hp.out (i:=1) rfl
  subst hA
  injection hA9 with hA9
  injection hA9 with e1 e2
  subst e1 e2
  rw[Nat.add_zero] at x0
  have ha200:=Hsh.out a (by simp)
  have hb200:=Hsh.out b (by simp)
  have hn2:2≤n:=by simp only[List.length_cons] at hn;omega
  have h2:decide ((2:Int)≤(n:Int))=true:=zJ (by omega)
  have hol:os.length=n - 2:=by simp only[List.length_cons] at hn;omega
  have T1:=zZ (read_any (strB a) _ HK0.out (by rw[strB_size hab];omega))
  rw[byt_strB hab] at T1
  have Hx1:=zZ (fun W (hW:Below (w.alloc (.cells #[.slice none 0 0,.slice none 0 0,.slice none 0 0] 28)).heap.size (w.alloc (.cells #[.slice none 0 0,.slice none 0 0,.slice none 0 0] 28)) W)=>(hW.cell (p:=⟨bp,offp+1,none⟩) hbp).trans x1)
  have cv:=conv_str (P:=Tryz.prog) (w.alloc (.cells #[.slice none 0 0,.slice none 0 0,.slice none 0 0] 28)) _ _ _ Tryz.underlying29 Tryz.underlying5 Tryz.underlying9 A0 a a.length c0 rfl har
  have Hbr:=zZ hbr
  have Hn2:=zZ (And.intro hn2 hnc)
  have hn1:(1:Int)<(n:Int):=by omega
  have hn0:(0:Int)<(n:Int):=by omega
  have Hol:=zZ hol
  have HX:Hid (b.length≤c9∧b.length≤1048576∧∀ x∈b,x<256):=zZ ⟨h1c,by omega,hbb⟩
  clear hn hab har hbp x1 h0c h0m h1c h1m hbb hbr ha200 hb200 hol hn2
  go_enter Tryz.func55,Tryz.ntmps55
  go_wp2_with fail
  refine (must_yes 2 _).mono ?_
  rintro r w2 ⟨rfl,hw⟩
  subst hw
  go_wp2_with fail
  generalize w.alloc (.cells #[.slice none 0 0,.slice none 0 0,.slice none 0 0] 28)=w0 at *
  refine T1.out.mono ?_
  rintro r w1 ⟨A1,n1,c1,ok,rfl,hsi,hB1⟩
  obtain⟨hok,hn1',hrs1,-⟩:=hsi
  have HB1:=zZ hB1
  clear x0 cv T1 hB1
  cases hs:readS a with
  | none=>
   have HN:=zZ (graphQ_sch (b:=b) (os:=os) hs)
   rw[hs] at hok
   have hok2:ok=false:=hok
   subst hok2
   have HB9:=zZ (H0.out.trans ((HB1.out.alloc (o:=.cells #[.slice A1 n1 c1] 24) HB1.out.size).mono H0.out.size))
   clear hs hok hrs1 hn1'
   go_wp2_with fail
   refine (must_no 2 _).mono ?_
   rintro r w2 ⟨rfl,hw⟩
   subst hw
   unfold Wrong
   go_wp2_with fail
   exact⟨rfl,HB9.out,.inr ⟨HN.out,rfl⟩⟩
  | some s=>
   rw[hs] at hok hrs1 hn1'
   have hok2:ok=true:=hok
   subst hok2
   simp only[Option.getD_some] at hrs1 hn1'
   have hms:=((readS_iff _ _).1 hs).1
   have Hs:=zZ hs
   have Hfew:=zZ (fun t=>fldsG_few hms t)
   have HN4:Hid (n1≤100):=zZ (by have:=((mayS_iff s).1 hms).1;omega)
   have Hrs1:=zZ hrs1
   have Hn1:=zZ hn1'
   have hB2:=HB1.out.alloc (o:=.cells #[.slice A1 n1 c1] 24) HB1.out.size
   have p2:=Blk.new w1 24 [.slice A1 n1 c1]
   have s2:(w1.alloc (.cells #[.slice A1 n1 c1] 24)).heap.size=w1.heap.size+1:=by simp
   have HB2:=zZ hB2
   have P2:=zZ p2
   have S2:=zZ s2
   have HS12:Hid (Below w1.heap.size w1 (w1.alloc (.cells #[.slice A1 n1 c1] 24))):=zZ ((zA _ w1).alloc (zW _) _)
   have HRb:=zZ (fun W (hW:Below w0.heap.size w0 W)=>(show Rd W A9 (u8s b) from RdIn.rd (RdIn.keeps (Keeps.below hW) Hbr.out)))
   clear hs hok hrs1 hn1' hms hB2 p2 s2
   go_wp2_with fail
   generalize w1.alloc (.cells #[.slice A1 n1 c1] 24)=w2 at *
   refine (must_yes 2 _).mono ?_
   rintro r w3 ⟨rfl,hw⟩
   subst hw
   have HSF:=zZ (fun W (hW:Below w2.heap.size w2 W)=>And.intro ((P2.out.to hW).cell (j:=0) rfl) (Hx1.out W (HB2.out.trans (hW.mono HB2.out.size))))
   cases hq:rootsQ b with
   | none=>
    have HN:=zZ (graphQ_roots (a:=a) (os:=os) hq)
    have Hq:=zZ hq
    clear hq
    go_wp2_with fail
    refine fr_start (fun W=>Below w2.heap.size w2 W) 8 (by kernel_rfl) rfl (fun _ _ _ _ _ h=>h) ((zA _ w2).drew) (fun hH=>?_)
    (refine fr_yes 0 (v:=?_) rfl (by kernel_rfl) rfl ?_ hH ?_;rotate_left;(focus ((intro W hW;obtain⟨u0,u1⟩:=HSF.out W hW;go_simp) <;> with_reducible rfl));simp only[Act.put,zY,zX,zQ]);(refine fr_yes 1 (v:=?_) rfl (by kernel_rfl) rfl ?_ hH ?_;rotate_left;(focus ((intro W hW;obtain⟨u0,u1⟩:=HSF.out W hW;go_simp) <;> with_reducible rfl));simp only[Act.put,zY,zX,zQ]);(refine fr_yes 2 (v:=?_) rfl (by kernel_rfl) rfl ?_ hH ?_;rotate_left;(focus ((intro W hW;obtain⟨u0,u1⟩:=HSF.out W hW;go_simp) <;> with_reducible rfl));simp only[Act.put,zY,zX,zQ]);(refine fr_yes 3 (v:=?_) rfl (by kernel_rfl) rfl ?_ hH ?_;rotate_left;(focus ((intro W hW;obtain⟨u0,u1⟩:=HSF.out W hW;go_simp) <;> with_reducible rfl));simp only[Act.put,zY,zX,zQ])
    refine fr_op [4,6] (by kernel_rfl) (by simp) ?_;intro jj hjj;simp only[List.mem_cons,List.not_mem_nil,or_false] at hjj;rcases hjj with rfl | rfl
    ·refine⟨_,rfl,rfl,fun K hK=>?_⟩
     go_wp2_with (go_at_call 85;refine (rootsOf_bad A9 b.length c9 b _ rfl HX.out.1 HX.out.2.2 HX.out.2.1 (HRb.out _ (HB2.out.trans (hH.mono HB2.out.size))) Hq.out).mono ?_;rintro e w7 ⟨rfl,hB7⟩;have HB7:=zZ (hH.trans (hB7.mono hH.size));clear hB7;unfold Wrong)
     have HB9:=zZ (H0.out.trans ((HB2.out.trans (HB7.out.mono HB2.out.size)).mono H0.out.size))
     exact⟨rfl,HB9.out,.inr ⟨HN.out,rfl⟩⟩
    ·refine⟨_,rfl,rfl,fun K hK=>?_⟩
     go_wp2
     have hD:=hH.alloc (o:=.cells #[.slice none 0 0,.slice none 0 0,.slice none 0 0] 28) hH.size
     refine hK.out _ _ hD ?_
     clear hK hH
     have hH:=hD
     clear hD
     refine fr_op [4] (by kernel_rfl) (by simp) ?_;intro jj hjj;simp only[List.mem_cons,List.not_mem_nil,or_false] at hjj;subst hjj;refine⟨_,rfl,rfl,fun K hK=>?_⟩
     go_wp2_with (go_at_call 85;refine (rootsOf_bad A9 b.length c9 b _ rfl HX.out.1 HX.out.2.2 HX.out.2.1 (HRb.out _ (HB2.out.trans (hH.mono HB2.out.size))) Hq.out).mono ?_;rintro e w7 ⟨rfl,hB7⟩;have HB7:=zZ (hH.trans (hB7.mono hH.size));clear hB7;unfold Wrong)
     have HB9:=zZ (H0.out.trans ((HB2.out.trans (HB7.out.mono HB2.out.size)).mono H0.out.size))
     exact⟨rfl,HB9.out,.inr ⟨HN.out,rfl⟩⟩
   | some rts=>
    have Hq:=zZ hq
    have Hwf:=zZ (rootsQ_wf hq)
    clear hq
    go_wp2_with fail
    generalize hrl:rts.length=rl at *
    have Hrl:=zZ hrl
    clear hrl
    go_cut [5] (fun v5 wx=>∃ (gG:Nat) (C7:Option Addr) (e7:Nat),v5=.pointer (some ⟨gG,0,none⟩)∧Hid (Blk wx gG 28 [.slice A1 n1 c1,.slice none 0 0,.slice C7 rl e7])∧Hid (w2.heap.size≤gG)∧Hid (rIds (fun k=>w2.heap.size≤k∧k<wx.heap.size∧k≠gG) wx [.slice C7 rl e7] rts)∧Hid (Below w2.heap.size w2 wx))
    case first=>
     refine fr_start (fun W=>Below w2.heap.size w2 W) 8 (by kernel_rfl) rfl (fun _ _ _ _ _ h=>h) ((zA _ w2).drew) (fun hH=>?_)
     (refine fr_yes 0 (v:=?_) rfl (by kernel_rfl) rfl ?_ hH ?_;rotate_left;(focus ((intro W hW;obtain⟨u0,u1⟩:=HSF.out W hW;go_simp) <;> with_reducible rfl));simp only[Act.put,zY,zX,zQ]);(refine fr_yes 1 (v:=?_) rfl (by kernel_rfl) rfl ?_ hH ?_;rotate_left;(focus ((intro W hW;obtain⟨u0,u1⟩:=HSF.out W hW;go_simp) <;> with_reducible rfl));simp only[Act.put,zY,zX,zQ]);(refine fr_yes 2 (v:=?_) rfl (by kernel_rfl) rfl ?_ hH ?_;rotate_left;(focus ((intro W hW;obtain⟨u0,u1⟩:=HSF.out W hW;go_simp) <;> with_reducible rfl));simp only[Act.put,zY,zX,zQ]);(refine fr_yes 3 (v:=?_) rfl (by kernel_rfl) rfl ?_ hH ?_;rotate_left;(focus ((intro W hW;obtain⟨u0,u1⟩:=HSF.out W hW;go_simp) <;> with_reducible rfl));simp only[Act.put,zY,zX,zQ])
     refine fr_op [4,6] (by kernel_rfl) (by simp) ?_;intro jj hjj;simp only[List.mem_cons,List.not_mem_nil,or_false] at hjj;rcases hjj with rfl | rfl
     ·refine⟨_,rfl,rfl,fun K hK=>?_⟩
      go_wp2_with (go_at_call 85;refine (rootsOf_good A9 b.length c9 b _ rts rfl HX.out.1 HX.out.2.2 HX.out.2.1 (HRb.out _ (HB2.out.trans (hH.mono HB2.out.size))) Hq.out).mono ?_;rintro e w7 ⟨v7,rfl,hv7,hB7⟩)
      rw[Hrl.out] at hv7
      obtain⟨C7,e7,rfl⟩:=own_slice3 hv7
      have hD:=hH.trans (hB7.mono hH.size)
      have hsd:=hH.size
      have HV:=zZ (ids_own hv7 Hrl.out Hwf.out)
      refine hK.out _ _ hD ?_
      clear hK hB7 hv7
      have HD:=zZ hD
      have HS:=zZ hsd
      clear hH hsd
      have hH:=hD
      clear hD
      (refine fr_yes 5 (v:=?_) rfl (by kernel_rfl) rfl ?_ hH ?_;rotate_left;(focus ((intro W hW;go_simp) <;> with_reducible rfl));simp only[Act.put,zY,zX,zQ])
      refine fr_op [6] (by kernel_rfl) (by simp) ?_;intro jj hjj;simp only[List.mem_cons,List.not_mem_nil,or_false] at hjj;subst hjj;refine⟨_,rfl,rfl,fun K hK=>?_⟩
      go_wp2
      have hE:=hH.alloc (o:=.cells #[.slice none 0 0,.slice none 0 0,.slice none 0 0] 28) hH.size
      refine hK.out _ _ hE ?_
      clear hK hH
      have hH:=hE
      clear hE
      refine fr_op [7] (by kernel_rfl) (by simp) ?_;intro jj hjj;simp only[List.mem_cons,List.not_mem_nil,or_false] at hjj;subst hjj;refine⟨_,rfl,rfl,fun K hK=>?_⟩
      go_wp2
      have hF:=HD.out.alloc (o:=.cells #[.slice A1 n1 c1,.slice none 0 0,.slice C7 rl e7] 28) HD.out.size
      refine hK.out _ _ hF ?_
      clear hK hH
      have HF:=zZ hF
      have pG:=Blk.new w7 28 [.slice A1 n1 c1,.slice none 0 0,.slice C7 rl e7]
      have PG:=zZ pG
      clear pG hF
      refine fr_done (by kernel_rfl) ?_
      go_wp2
      go_meet
      case rel=>exact⟨w7.heap.size,C7,e7,rfl,PG,zZ HD.out.size,zZ (rIds_stays.to (fun k hk=>⟨⟨by have:=HS.out;have:=hk.1;omega,by have:=hk.2;simp only[World.size_alloc];omega,by have:=hk.2;omega⟩,Below.heap_alloc _ _ _ hk.2⟩) HV.out),HF⟩
     ·refine⟨_,rfl,rfl,fun K hK=>?_⟩
      go_wp2
      have hE:=hH.alloc (o:=.cells #[.slice none 0 0,.slice none 0 0,.slice none 0 0] 28) hH.size
      have hsd:=hH.size
      have HS:=zZ hsd
      have pz:Blk (w2.drew.alloc (.cells #[.slice none 0 0,.slice none 0 0,.slice none 0 0] 28)) w2.heap.size 28 [.slice none 0 0,.slice none 0 0,.slice none 0 0]:=Blk.new w2.drew 28 [.slice none 0 0,.slice none 0 0,.slice none 0 0]
      have sz:(w2.drew.alloc (.cells #[.slice none 0 0,.slice none 0 0,.slice none 0 0] 28)).heap.size=w2.heap.size+1:=by simp
      refine hK.out _ _ hE ?_
      clear hK hH hsd
      have hH:=hE
      clear hE
      have PZ:=zZ pz
      have SZ:=zZ sz
      clear pz sz
      refine fr_op [4] (by kernel_rfl) (by simp) ?_;intro jj hjj;simp only[List.mem_cons,List.not_mem_nil,or_false] at hjj;subst hjj;refine⟨_,rfl,rfl,fun K hK=>?_⟩
      go_wp2_with (go_at_call 85;refine (rootsOf_good A9 b.length c9 b (w2.drew.alloc (.cells #[.slice none 0 0,.slice none 0 0,.slice none 0 0] 28)) rts rfl HX.out.1 HX.out.2.2 HX.out.2.1 (HRb.out _ (HB2.out.trans (hH.mono HB2.out.size))) Hq.out).mono ?_;rintro e w7 ⟨v7,rfl,hv7,hB7⟩)
      rw[Hrl.out] at hv7
      obtain⟨C7,e7,rfl⟩:=own_slice3 hv7
      have hD:=hH.trans (hB7.mono hH.size)
      have HV:=zZ (ids_own hv7 Hrl.out Hwf.out)
      have p7:=PZ.out.to hB7
      have a0:=p7.cell (j:=0) rfl
      have a1:=p7.cell (j:=1) rfl
      have a2:=p7.cell (j:=2) rfl
      have z0:=p7.frozen 0
      have z1:=p7.frozen 1
      have z2:=p7.frozen 2
      have P7:=zZ p7
      refine hK.out _ _ hD ?_
      clear hK hB7 hv7 hH
      have HD:=zZ hD
      have hH:=hD
      clear hD p7
      (refine fr_yes 5 (v:=?_) rfl (by kernel_rfl) rfl ?_ hH ?_;rotate_left;(focus ((intro W hW;go_simp) <;> with_reducible rfl));simp only[Act.put,zY,zX,zQ])
      refine fr_op [7] (by kernel_rfl) (by simp) ?_;intro jj hjj;simp only[List.mem_cons,List.not_mem_nil,or_false] at hjj;subst hjj;refine⟨_,rfl,rfl,fun K hK=>?_⟩
      go_wp2
      have hF:=((HD.out.setCell (p:=⟨w2.heap.size,0,none⟩) (zW _) (.slice A1 n1 c1)).setCell (p:=⟨w2.heap.size,1,none⟩) (zW _) (.slice none 0 0)).setCell (p:=⟨w2.heap.size,2,none⟩) (zW _) (.slice C7 rl e7)
      refine hK.out _ _ hF ?_
      clear hK hH
      have HF:=zZ hF
      have PG:=zZ (((P7.out.set 0 (.slice A1 n1 c1)).set 1 (.slice none 0 0)).set 2 (.slice C7 rl e7))
      clear hF
      refine fr_done (by kernel_rfl) ?_
      go_wp2
      go_meet
      case rel=>exact⟨w2.heap.size,C7,e7,rfl,PG,zZ (zW _),zZ (rIds_stays.to (fun k hk=>⟨⟨by have:=SZ.out;have:=hk.1;omega,by have:=hk.2;simpa using this,by have:=SZ.out;have:=hk.1;omega⟩,by have hne:k≠w2.heap.size:=(by have:=SZ.out;have:=hk.1;omega);rw[Below.heap_setCell _ _ _ _ hne,Below.heap_setCell _ _ _ _ hne,Below.heap_setCell _ _ _ _ hne]⟩) HV.out),HF⟩
    case rest=>
     rename World=>wx
     obtain⟨gG,C7,e7,rfl,PG,HgG,HR7,HBx⟩:=hcut
     have hcut2:=run_rest2 (some ⟨bp,offp,none⟩) n c Hn2.out.1
     have HPo:Hid (rPts (All w0) w0 [.slice (slA (some ⟨bp,offp,none⟩) c 2) (n - 2) (c - 2)] os):=zZ (pts_cut Hp.out 2)
     have hgx:=PG.out.lt
     have hsx:=HBx.out.size
     have Hgx:=zZ hgx
     obtain⟨on,hon⟩:∃ on,on=n - 2:=⟨_,rfl⟩
     have hon40:on≤40:=by omega
     have Hon:=zZ hon40
     rw[← hon] at hcut2 HPo Hol
     clear hn0 hn1 h2 hgx hsx hn40 hnc hn hon40 hcm HSF hon
     go_wp2
     clear hcut2
     generalize slA (some ⟨bp,offp,none⟩) c 2=AR at *
     go_loopw [31] (fun iv wr=>∃ (i:Nat) (vO:Value) (xs:List Value) (objs:List Ob),i≤on∧iv=.int .i64 (i:Int)∧Hid (RowIn gG 1 28 50 3 [.slice A1 n1 c1,.slice none 0 0,.slice C7 rl e7] wx vO i xs wr)∧Hid (Chunks 3 (rOb (fun k=>wx.heap.size≤k∧k<wr.heap.size∧some k≠vO.ownBlock) wr) xs objs)∧Hid (objs.length=i)∧Hid (objsQ s 0 os=(objsQ s i (os.drop i)).map (objs++·))) (fun iv _=>on - (intOf iv).toNat)
     case atStart=>exact⟨0,.slice none 0 0,[],[],by omega,rfl,zZ (RowIn.start PG.out rfl),zZ Chunks.nil,zZ rfl,zZ (by simp)⟩
     case round=>
      rename World=>wr
      obtain⟨i,vO,xs,objs,hi',rfl,hO,hch,hol,hob⟩:=hrel
      have hsr:=hO.out.bel.size
      have hgx:=Hgx.out
      have hsx:=HBx.out.size
      have hgG:=HgG.out
      have hs2:=HB2.out.size
      have HBr:Hid (Below w2.heap.size w2 wr):=zZ (HBx.out.trans (hO.out.bel.mono hgG))
      obtain⟨AV,cV,hvO⟩:=own_slice3 hO.out.own
      subst hvO
      by_cases hin:i<on
      ·obtain⟨p,hp⟩:∃ p,os[i]?=some p:=⟨_,zV (by have:=Hol.out;omega)⟩
       obtain⟨bq,offq,Aq,cq,hAq,hbq,q0,hqc,hqm,hqb,hqr⟩:=pts_at HPo.out hp
       subst hAq
       have hp200:=Hsh.out p (by simp[List.mem_of_getElem? hp])
       have HB02:=zZ (HB2.out.trans (HBr.out.mono hs2))
       have hrd:=RdIn.rd (RdIn.keeps (Keeps.below HB02.out) hqr)
       have q1:=(HB02.out.cell (p:=⟨bq,offq+i,none⟩) hbq).trans q0
       have k0:=(P2.out.to HBr.out).cell (j:=0) rfl
       have k1:=hO.out.bx.cell (j:=1) rfl
       have hsch:rSch (All wr) wr [.slice A1 n1 c1] s:=rSch_stays.to (fun k hk=>⟨by show k<_;have:=hk.2;have:=S2.out;omega,by rw[HBr.out.block k (by have:=hk.2;have:=S2.out;omega)];exact HS12.out.block k hk.2⟩) Hrs1.out
       have hdr:Below wr.heap.size wr wr.drew:=(zA _ wr).drew
       have HSC:=zZ (sch_below hdr hsch)
       have HRD:=zZ (hrd.below hdr)
       have hid1:i≤1000:=by have:=Hon.out;omega
       have HBd:=zZ hdr
       have hc0:wr.drew.cell? ⟨gG,1,none⟩=some (.slice AV i cV):=k1
       have hc1:wr.drew.cell? ⟨w1.heap.size,0,none⟩=some (.slice A1 n1 c1):=k0
       have Hin:=zZ hin
       have hil:(i:Int)<(on:Int):=by omega
       have hi0:(0:Int)≤(i:Int):=by omega
       have hgr:gG<wr.heap.size:=by omega
       have hw1r:w1.heap.size<wr.heap.size:=by have:=S2.out;omega
       have Hw1:=zZ (show w1.heap.size<gG by have:=S2.out;omega)
       cases hoq:objQ s i p with
       | none=>
        have HN:=zZ (graphQ_objs (a:=a) (b:=b) (os:=os) (fun s' hs'=>by rw[Hs.out] at hs';injection hs' with hs';subst hs';exact objsQ_stop hp hob.out hoq))
        have T9:=zZ (objOf_bad A1 Aq n1 c1 p.length cq s i p _ HSC.out hid1 rfl hqc hqb HRD.out (by omega) Hfew.out HN4.out hoq)
        have HB9:=zZ (H0.out.trans (HB02.out.mono H0.out.size))
        clear hp hoq hsch hrd hqb hqr q0 k0 k1 hdr hbq hp200 hqm hsr hgx hsx hgG hs2
        go_wp2_with fail
        refine scl_start 9 [(0,true),(1,true),(2,true),(3,true),(4,true),(5,false),(6,false),(7,false),(8,true),(9,false)] (fun W=>W.cell? ⟨gG,1,none⟩=some (.slice AV i cV)∧W.cell? ⟨w1.heap.size,0,none⟩=some (.slice A1 n1 c1)) (by kernel_rfl) rfl (by kernel_rfl) (fun _ _ _ _ _ h=>h) ⟨hc0,hc1⟩ (fun hH=>?_)
        generalize wr.drew=wd at *
        repeat (first | (refine scl_yes (v:=?_) rfl rfl ?_ hH ?_;rotate_left;(focus ((rintro W ⟨hW1,hW2⟩;go_simp) <;> with_reducible rfl));simp only[Act.put,zY,zX,zQ]) | (refine scl_no rfl rfl hH ?_;simp only[Act.put,zY,zX,zQ]))
        refine scl_call rfl rfl (fun K hK=>?_)
        go_wp2_with (go_at_call 86;refine T9.out.mono ?_;rintro e w7 ⟨rfl,hB7⟩;have HB7:=zZ (HB9.out.trans ((HBd.out.trans (hB7.mono HBd.out.size)).mono HB9.out.size));clear hB7;unfold Wrong)
        exact⟨rfl,HB7.out,.inr ⟨HN.out,rfl⟩⟩
       | some o=>
        have Hmore:=zZ (objsQ_more hp hob.out hoq)
        have T9:=zZ (objOf_good A1 Aq n1 c1 p.length cq s i p _ o HSC.out hid1 rfl hqc hqb HRD.out (by omega) Hfew.out HN4.out hoq)
        have HW1:=zZ ((P2.out.to HBx.out).cell (j:=0) rfl)
        have t1:i+1≤maxLen:=by have:=Hon.out;simp only[maxLen];omega
        have t2:(i+1) * 40≤140737488355328:=by have:=Hon.out;omega
        clear hp hoq hsch hrd hqb hqr q0 k0 k1 hdr hbq hp200 hqm hgG hs2
        go_wp2_with fail
        refine scl_start 9 [(0,true),(1,true),(2,true),(3,true),(4,true),(5,false),(6,false),(7,false),(8,true),(9,false)] (fun W=>W.cell? ⟨gG,1,none⟩=some (.slice AV i cV)∧W.cell? ⟨w1.heap.size,0,none⟩=some (.slice A1 n1 c1)) (by kernel_rfl) rfl (by kernel_rfl) (fun _ _ _ _ _ h=>h) ⟨hc0,hc1⟩ (fun hH=>?_)
        generalize wr.drew=wd at *
        repeat (first | (refine scl_yes (v:=?_) rfl rfl ?_ hH ?_;rotate_left;(focus ((rintro W ⟨hW1,hW2⟩;go_simp) <;> with_reducible rfl));simp only[Act.put,zY,zX,zQ]) | (refine scl_no rfl rfl hH ?_;simp only[Act.put,zY,zX,zQ]))
        refine scl_call rfl rfl (fun K hK=>?_)
        go_wp2_with (go_at_call 86;refine T9.out.mono ?_;rintro e w7 ⟨A8,n8,c8,rfl,ho,hB7⟩)
        have hsd:=HBd.out.size
        have hB7r:=HBd.out.trans (hB7.mono hsd)
        have ho':rOb (fun k=>wr.heap.size≤k∧k<w7.heap.size) w7 [.int .i64 o.1,.int .i64 o.2.1,.slice A8 n8 c8] o:=rOb_stays.to (Keeps.mono fun k hk=>⟨by omega,hk.2⟩) ho
        have hs7:=hB7r.size
        have e0:=(hB7.cell (p:=⟨gG,1,none⟩) (by show gG<_;omega)).trans hc0
        have e1:=(hB7.cell (p:=⟨w1.heap.size,0,none⟩) (by show w1.heap.size<_;omega)).trans hc1
        have HB7r:=zZ hB7r
        have Ho:=zZ ho'
        refine hK.out _ _ (fun _=>⟨e0,e1⟩) ?_
        clear hK hH hB7 ho ho' hc0 hc1 T9
        refine scl_call rfl rfl (fun K hK=>?_)
        go_wp2
        have e2:=(World.cell?_alloc_lt w7 (.cells #[.int .i64 o.1,.int .i64 o.2.1,.slice A8 n8 c8] 50) ⟨gG,1,none⟩ (by show gG<_;omega)).trans e0
        have e3:=(World.cell?_alloc_lt w7 (.cells #[.int .i64 o.1,.int .i64 o.2.1,.slice A8 n8 c8] 50) ⟨w1.heap.size,0,none⟩ (by show w1.heap.size<_;omega)).trans e1
        refine hK.out _ _ (fun _=>⟨e2,e3⟩) ?_
        clear hK e0 e1 hB7r
        have t3:wx.heap.size≤(w7.alloc (.cells #[.int .i64 o.1,.int .i64 o.2.1,.slice A8 n8 c8] 50)).heap.size:=by simp only[World.size_alloc];omega
        have t4:=(Blk.new w7 50 [.int .i64 o.1,.int .i64 o.2.1,.slice A8 n8 c8]).rd
        have t5:=(hO.out.more hgx HB7r.out).own.alloc (.cells #[.int .i64 o.1,.int .i64 o.2.1,.slice A8 n8 c8] 50)
        refine scl_call rfl rfl (fun K hK=>?_)
        refine wp_apps (.tmp 37) (.tmp 42) 25 rfl wx.heap.size 50 i0 (.agg #[.int .i64 0,.int .i64 0,.slice none 0 0]) 3 40 Tryz.underlying25 hi hz0 hz1 hz2 rfl (by omega) (.slice AV i cV) i xs rfl t5 (some ⟨w7.heap.size,0,none⟩) 1 1 [.int .i64 o.1,.int .i64 o.2.1,.slice A8 n8 c8] rfl rfl t4 (by simp[Value.oneCell']) t1 t2 t3 ?_
        intro v4 w4 hown4 hg4 hv4
        obtain⟨bx4,hR4⟩:=hO.out.step hgx HB7r.out hg4 hown4
        have HC4:=zZ (hO.out.obs hgx hch.out HB7r.out Ho.out rfl hg4 hv4)
        obtain⟨A4,c4,rfl⟩:=own_slice3 hown4
        have e4:=bx4.cell (j:=1) rfl
        have f4:=bx4.frozen 1
        have e5:=(World.cell?_setCell_far w4 ⟨gG,1,none⟩ ⟨w1.heap.size,0,none⟩ (.slice A4 (i+1) c4) (by show gG≠w1.heap.size;have:=Hw1.out;omega)).symm.trans ((hR4.bel.cell (p:=⟨w1.heap.size,0,none⟩) Hw1.out).trans HW1.out)
        have HR4:=zZ hR4
        refine hK.out _ _ (fun _=>⟨e4,e5⟩) ?_
        have hH:=And.intro e4 e5
        clear hK hR4 hown4 hg4 hv4 bx4 t3 t4 t5 e2 e3
        repeat (first | (refine scl_yes (v:=?_) rfl rfl ?_ hH ?_;rotate_left;(focus ((rintro W ⟨hW1,hW2⟩;go_simp) <;> with_reducible rfl));simp only[Act.put,zY,zX,zQ]) | (refine scl_no rfl rfl hH ?_;simp only[Act.put,zY,zX,zQ]))
        refine scl_call rfl rfl (fun K hK=>?_)
        go_wp2
        refine hK.out _ _ (fun e=>absurd rfl e) ?_
        clear hK
        refine scl_done ?_
        go_wp2
        go_roundw
        case rel=>
         exact⟨i+1,_,_,objs++[o],Hin.out,by have:=Hin.out;have:=Hon.out;go_num,HR4,HC4,zZ (by rw[List.length_append,hol.out];rfl),Hmore⟩
        case measure=>have:=Hin.out;have:=Hon.out;simp[intOf];omega
      ·have hio:i=on:=by omega
       have hob9:=hob.out
       rw[List.drop_of_length_le (by have:=Hol.out;omega),objsQ] at hob9
       simp only[Option.map_some,List.append_nil] at hob9
       have HQ9:=zZ (graphQ_all (b:=b) Hs.out Hq.out hob9)
       have y0:=hO.out.bx.cell (j:=0) rfl
       have y1:=hO.out.bx.cell (j:=1) rfl
       have y2:=hO.out.bx.cell (j:=2) rfl
       have hB0r:Below w0.heap.size w0 wr:=HB2.out.trans (HBr.out.mono hs2)
       have q0:=P0.out.to hB0r
       have e0:=q0.cell (j:=0) rfl
       have e1:=q0.cell (j:=1) rfl
       have e2:=q0.cell (j:=2) rfl
       have z0:=q0.frozen 0
       have z1:=q0.frozen 1
       have z2:=q0.frozen 2
       have Q0:=zZ q0
       have HBw:=zZ (H0.out.trans (hB0r.mono H0.out.size))
       have HSz:=zZ (And.intro hsr (And.intro hgx (And.intro hsx (And.intro hgG hs2))))
       have hil:¬ ((i:Int)<(on:Int)):=by omega
       obtain⟨AO,cO,hAO,hsl⟩:=own_slice_in rOb_stays hO.out.own hol.out hch.out
       injection hAO with hA1 _ hA3
       subst hA1 hA3
       have Hsl:=zZ hsl
       clear hob9 hB0r q0 hsr hgx hsx hgG hs2 hin hi' hsl hio
       go_wp2
       have P9:=((Q0.out.set 0 (.slice A1 n1 c1)).set 1 (.slice AV i cV)).set 2 (.slice C7 rl e7)
       refine ret_cell0 (d:=.struct _) (cs:=[.slice A1 n1 c1,.slice AV i cV,.slice C7 rl e7]) rfl P9 rfl rfl rfl rfl rfl ?_
       have hne:∀ k,k≠w.heap.size→(((wr.setCell ⟨w.heap.size,0,none⟩ (.slice A1 n1 c1)).setCell ⟨w.heap.size,1,none⟩ (.slice AV i cV)).setCell ⟨w.heap.size,2,none⟩ (.slice C7 rl e7)).heap[k]?=wr.heap[k]?:=fun k hk=>by
        rw[Below.heap_setCell _ _ _ _ hk,Below.heap_setCell _ _ _ _ hk,Below.heap_setCell _ _ _ _ hk]
       have hsz:(((wr.setCell ⟨w.heap.size,0,none⟩ (.slice A1 n1 c1)).setCell ⟨w.heap.size,1,none⟩ (.slice AV i cV)).setCell ⟨w.heap.size,2,none⟩ (.slice C7 rl e7)).heap.size=wr.heap.size:=by simp
       obtain⟨m1,m2,m3,m4,m5⟩:=HSz.out
       have m6:=S0.out
       have m7:=S2.out
       have m8:=HS12.out.size
       refine⟨((HBw.out.setCell (p:=⟨w.heap.size,0,none⟩) (zW _) _).setCell (p:=⟨w.heap.size,1,none⟩) (zW _) _).setCell (p:=⟨w.heap.size,2,none⟩) (zW _) _,.inl ⟨s,objs,rts,HQ9.out,A1,n1,c1,AV,i,cV,C7,rl,e7,rfl,?_⟩⟩
       refine rGr_mk (g:=(s,objs,rts)) (rSch_stays.to (fun k hk=>?_) Hrs1.out) (rObs_stays.to (fun k hk=>?_) Hsl.out) (rIds_stays.to (fun k hk=>?_) HR7.out)
       ·obtain⟨k1,k2⟩:=hk
        refine⟨⟨by omega,by omega⟩,?_⟩
        rw[hne k (by omega),hO.out.bel.block k (by omega),HBx.out.block k (by omega)]
        exact HS12.out.block k k2
       ·obtain⟨k1,k2⟩:=hk
        exact⟨⟨by omega,by omega⟩,hne k (by omega)⟩
       ·obtain⟨k1,k2,k3⟩:=hk
        refine⟨⟨by omega,by omega⟩,?_⟩
        rw[hne k (by omega),hO.out.kept k k2 k3]
end Go.Proofs.YtdlkmjfbmenedaaGreatDoor
