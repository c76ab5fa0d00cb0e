/- The contract of the document's own graph (layer 10): the graph of parts, or none. Conditions: at most 40 parts of at most 200 bytes. -/
import Derived.Test.YtdlkmjfbmenedaaGreatDoorCoRef5
import Derived.Test.YtdlkmjfbmenedaaGreatDoorCoRef6
import Derived.Test.YtdlkmjfbmenedaaGreatDoorCoGraphOf
import Derived.Test.YtdlkmjfbmenedaaGreatDoorGScRef
import Derived.Test.YtdlkmjfbmenedaaGreatDoorAl
set_option maxRecDepth 100000
set_option maxHeartbeats 4000000
namespace Go.Proofs.YtdlkmjfbmenedaaGreatDoor
open Go.RowKit
theorem objsL_drop {s:Sch} {os:List (List Nat)} {i:Nat} {b:List Nat} (hb:os[i]?=some b):objsL s i (os.drop i)=(objL s i b).bind fun o=>(objsL s (i+1) (os.drop (i+1))).map (o :: ·):=by
 have:os.drop i=b :: os.drop (i+1):=by
  have hk:=(List.getElem?_eq_some_iff.1 hb)
  rw[List.drop_eq_getElem_cons hk.1,hk.2]
 rw[this,objsL]
theorem objsL_more {s:Sch} {os:List (List Nat)} {i:Nat} {b:List Nat} {o:Ob} {pre:List Ob} (hb:os[i]?=some b) (h:objsL s 0 os=(objsL s i (os.drop i)).map (pre++·)) (ho:objL s i b=some o):objsL s 0 os=(objsL s (i+1) (os.drop (i+1))).map ((pre++[o])++·):=by
 rw[h,objsL_drop hb,ho]
 simp only[Option.bind_some,Option.map_map]
 congr 1
 funext q
 simp
theorem objsL_stop {s:Sch} {os:List (List Nat)} {i:Nat} {b:List Nat} {pre:List Ob} (hb:os[i]?=some b) (h:objsL s 0 os=(objsL s i (os.drop i)).map (pre++·)) (ho:objL s i b=none):objsL s 0 os=none:=by
 rw[h,objsL_drop hb,ho]
 rfl
theorem graphL_sch {a b:List Nat} {os:List (List Nat)} (h:readS a=none):graphL (a :: b :: os)=none:=by rw[graphL,h];rfl
theorem graphL_roots {a b:List Nat} {os:List (List Nat)} (h:rootsL b=none):graphL (a :: b :: os)=none:=by
 rw[graphL,h]
 cases readS a <;> rfl
theorem graphL_objs {a b:List Nat} {os:List (List Nat)} {s:Sch} (h1:readS a=some s) (h:objsL s 0 os=none):graphL (a :: b :: os)=none:=by
 rw[graphL,h1]
 cases rootsL b with
 | none=>rfl
 | some r=>
  simp only[Option.bind_some]
  rw[h]
  rfl
theorem graphL_all {a b:List Nat} {os:List (List Nat)} {s:Sch} {r:List Int} {l:List Ob} (h1:readS a=some s) (h2:rootsL b=some r) (h3:objsL s 0 os=some l):graphL (a :: b :: os)=some (s,l,r):=by
 rw[graphL,h1,h2]
 simp only[Option.bind_some]
 rw[h3]
 rfl
theorem rootsL_wf {b:List Nat} {l:List Int} (h:rootsL b=some l):∀ r∈l,(Lit.int .i64 r).wf=true:=rootsQ_wf (rootsL_Q h)
theorem rGr_zero (S:Nat→Prop) (w:World):rGr S w [.slice none 0 0,.slice none 0 0,.slice none 0 0] ([],[],[]):=rGr_mk ⟨none,0,[],rfl,zW _,Nat.zero_le _,.inl rfl,Chunks.nil⟩ ⟨none,0,[],rfl,zW _,Nat.zero_le _,.inl rfl,Chunks.nil⟩ ⟨none,0,[],rfl,zW _,Nat.zero_le _,.inl rfl,Chunks.nil⟩
def RGraphSays (ps:List (List Nat)) (w:World) (r:Ending) (w':World):Prop:=
 ∃ A1 n1 c1 B1 m1 d1 C1 k1 e1 b g,r=.returned (.tuple #[.agg #[.slice A1 n1 c1,.slice B1 m1 d1,.slice C1 k1 e1],.bool b])∧Below w.heap.size w w'∧rGr (fun b=>w.heap.size≤b∧b<w'.heap.size) w' [.slice A1 n1 c1,.slice B1 m1 d1,.slice C1 k1 e1] g∧((graphL ps=some g∧b=true)∨(graphL ps=none∧b=false∧g=([],[],[])))
theorem rgraph_any (A:Option Addr) (n c:Nat) (ps:List (List Nat)) (w:World) (h:rPts (All w) w [.slice A n c] ps) (hsh:∀ p∈ps,p.length≤200) (hn40:n≤40):
  Calls Tryz.prog 26 #[.slice A n c] w fun r w'=>RGraphSays ps w r w':=by
 obtain⟨i0,hi,hz0,hz1,hz2⟩:=info_parts info_obs
 obtain⟨hn,hnc,hcm⟩:=pts_len h
 have hB0:Below w.heap.size w (w.alloc (.cells #[.slice none 0 0,.slice none 0 0,.slice none 0 0] 28)):=(zA _ w).alloc (zW _) _
 have p0:=Blk.new w 28 [.slice none 0 0,.slice none 0 0,.slice none 0 0]
 have s0:(w.alloc (.cells #[.slice none 0 0,.slice none 0 0,.slice none 0 0] 28)).heap.size=w.heap.size+1:=by simp
 have H0:=zZ hB0
 have P0:=zZ p0
 have S0:=zZ s0
 have Hp:=zZ (rPts_stays.to (Keeps.below hB0) h)
 have Hsh:=zZ hsh
 by_cases hn2:n<2
 ·have hl2:decide ((n:Int)<2)=true:=zJ (by omega)
  have hN:graphL ps=none:=by
   match ps,hn with
   | [],_=>rfl
   | [_],_=>rfl
   | a :: b :: os,hn=>simp only[List.length_cons] at hn;omega
  have HN:=zZ hN
  have q0:=p0
  have e0:=q0.cell (j:=0) rfl
  have e1:=q0.cell (j:=1) rfl
  have e2:=q0.cell (j:=2) rfl
  have z0:=q0.frozen 0
  have z1:=q0.frozen 1
  have z2:=q0.frozen 2
  clear h hB0 p0 s0 hsh hn hnc hcm hN q0 hn40
  go_enter Tryz.func26,Tryz.ntmps26
  go_upto_region 2 with fail
  generalize w.alloc (.cells #[.slice none 0 0,.slice none 0 0,.slice none 0 0] 28)=w0 at *
  go_wp2
  have P9:=((P0.out.set 0 (.slice none 0 0)).set 1 (.slice none 0 0)).set 2 (.slice none 0 0)
  refine ret_cell1 (d:=.struct _) (cs:=[.slice none 0 0,.slice none 0 0,.slice none 0 0]) rfl P9 rfl rfl rfl rfl rfl ?_
  unfold RGraphSays
  exact⟨none,0,0,none,0,0,none,0,0,false,([],[],[]),rfl,((H0.out.setCell (p:=⟨w.heap.size,0,none⟩) (zW _) _).setCell (p:=⟨w.heap.size,1,none⟩) (zW _) _).setCell (p:=⟨w.heap.size,2,none⟩) (zW _) _,rGr_zero _ _,.inr ⟨HN.out,rfl,rfl⟩⟩
 have hl2:decide ((n:Int)<2)=false:=zK (by omega)
 clear h hB0 p0 s0 hsh
 match ps,hn with
 | [],hn=>exact absurd hn (by simp;omega)
 | [p],hn=>exact absurd hn (by simp;omega)
 | a :: b :: os,hn=>
  obtain⟨bp,offp,A0,c0,hA,hbp,x0,h0c,h0m,hab,har⟩:=pts_at Hp.out (i:=0) rfl
  obtain⟨bp1,offp1,A9,c9,hA9,-,x1,h1c,h1m,hbb,hbr⟩:=pts_at Hp.out (i:=1) rfl
  subst hA
  injection hA9 with hA9
  injection hA9 with e1 e2
  subst e1 e2
  rw[Nat.add_zero] at x0
  have ha200:=Hsh.out a (by simp)
  have hb200:=Hsh.out b (by simp)
  have hol:os.length+2=n:=by simp only[List.length_cons] at hn;omega
  have T1:=zZ (rread_any (strB a) (w.alloc (.cells #[.slice none 0 0,.slice none 0 0,.slice none 0 0] 28)) (by rw[strB_size hab];omega))
  rw[byt_strB hab] at T1
  have Hx1:=zZ (fun W (hW:Below (w.alloc (.cells #[.slice none 0 0,.slice none 0 0,.slice none 0 0] 28)).heap.size (w.alloc (.cells #[.slice none 0 0,.slice none 0 0,.slice none 0 0] 28)) W)=>(hW.cell (p:=⟨bp,offp+1,none⟩) hbp).trans x1)
  have cv:=conv_str (P:=Tryz.prog) (w.alloc (.cells #[.slice none 0 0,.slice none 0 0,.slice none 0 0] 28)) _ _ _ Tryz.underlying29 Tryz.underlying5 Tryz.underlying9 A0 a a.length c0 rfl har
  have Hbr:=zZ hbr
  have hn1:(1:Int)<(n:Int):=by omega
  have hn0:(0:Int)<(n:Int):=by omega
  have Hol:=zZ hol
  have HX:Hid (b.length≤c9∧b.length≤1048576∧∀ x∈b,x<256):=zZ ⟨h1c,by omega,hbb⟩
  have Hon:=zZ hn40
  clear hn hab har hbp x1 h0c h0m h1c h1m hbb hbr ha200 hb200 hol hn40 hn2 hnc hcm
  go_enter Tryz.func26,Tryz.ntmps26
  go_wp2_with fail
  generalize w.alloc (.cells #[.slice none 0 0,.slice none 0 0,.slice none 0 0] 28)=w0 at *
  refine T1.out.mono ?_
  rintro r w1 ⟨A1,n1,c1,ok,rfl,hsi,hB1⟩
  obtain⟨hok,hn1',hrs1,-⟩:=hsi
  have HB1:=zZ hB1
  have Hok:=zZ hok
  have Hrs:=zZ (And.intro hn1' hrs1)
  have hB2:=HB1.out.alloc (o:=.cells #[.slice A1 n1 c1] 24) HB1.out.size
  have P2:=zZ (Blk.new w1 24 [.slice A1 n1 c1])
  have S2:Hid ((w1.alloc (.cells #[.slice A1 n1 c1] 24)).heap.size=w1.heap.size+1):=zZ (by simp)
  have HB2:=zZ hB2
  have HS12:Hid (Below w1.heap.size w1 (w1.alloc (.cells #[.slice A1 n1 c1] 24))):=zZ ((zA _ w1).alloc (zW _) _)
  have x1:=Hx1.out _ hB2
  have T2:=zZ (rlist_any A9 b.length c9 b _ rfl HX.out.1 HX.out.2.2 HX.out.2.1 (show Rd (w1.alloc (.cells #[.slice A1 n1 c1] 24)) A9 (u8s b) from RdIn.rd (RdIn.keeps (Keeps.below hB2) Hbr.out)))
  clear x0 cv T1 hB1 hok hn1' hrs1 hB2
  go_wp2_with fail
  generalize w1.alloc (.cells #[.slice A1 n1 c1] 24)=w2 at *
  refine T2.out.mono ?_
  rintro r w3 ⟨v7,ok2,rfl,hB3,hcase⟩
  have HB3:=zZ hB3
  have HB03:=zZ (HB2.out.trans (hB3.mono HB2.out.size))
  have HBw3:=zZ (H0.out.trans (HB03.out.mono H0.out.size))
  have Hcase:=zZ hcase
  clear T2 hB3 hcase x1
  by_cases hbad:ok=false∨ok2=false
  ·have HN:Hid (graphL (a :: b :: os)=none):=zZ (by
    rcases hbad with h | h
    ·have h1:=Hok.out
     rw[h] at h1
     cases hs:readS a with
     | none=>exact graphL_sch hs
     | some s=>rw[hs] at h1;cases h1
    ·rcases Hcase.out with⟨l,-,h2,-⟩ | ⟨h2,-⟩
     ·rw[h] at h2;cases h2
     ·exact graphL_roots h2)
   have hb3:(!ok || !ok2)=true:=by rcases hbad with h | h <;> simp[h]
   have q0:=P0.out.to HB03.out
   have e0:=q0.cell (j:=0) rfl
   have e1:=q0.cell (j:=1) rfl
   have e2:=q0.cell (j:=2) rfl
   have z0:=q0.frozen 0
   have z1:=q0.frozen 1
   have z2:=q0.frozen 2
   have QQ:=zZ q0
   clear q0
   have P9:=((QQ.out.set 0 (.slice none 0 0)).set 1 (.slice none 0 0)).set 2 (.slice none 0 0)
   have HP9:=zZ P9
   clear P9
   cases ok <;> cases ok2
   all_goals first
    | (exfalso;rcases hbad with h | h <;> cases h;done)
    | (
     clear hbad hb3
     go_wp2
     refine ret_cell1 (d:=.struct _) (cs:=[.slice none 0 0,.slice none 0 0,.slice none 0 0]) rfl HP9.out rfl rfl rfl rfl rfl ?_
     unfold RGraphSays
     exact⟨none,0,0,none,0,0,none,0,0,false,([],[],[]),rfl,((HBw3.out.setCell (p:=⟨w.heap.size,0,none⟩) (zW _) _).setCell (p:=⟨w.heap.size,1,none⟩) (zW _) _).setCell (p:=⟨w.heap.size,2,none⟩) (zW _) _,rGr_zero _ _,.inr ⟨HN.out,rfl,rfl⟩⟩)
  obtain rfl:ok=true:=by cases ok <;> simp_all
  obtain rfl:ok2=true:=by cases ok2 <;> simp_all
  clear hbad
  obtain⟨s,hs⟩:∃ s,readS a=some s:=by
   cases hs:readS a with
   | none=>have h1:=Hok.out;rw[hs] at h1;cases h1
   | some s=>exact⟨s,rfl⟩
  obtain⟨rts,hq,hv7⟩:∃ l,rootsL b=some l∧w3.ownsRow w2.heap.size 3 1 v7 l.length (ints l):=by
   rcases Hcase.out with⟨l,h1,-,h3⟩ | ⟨-,h2⟩
   ·exact⟨l,h1,h3⟩
   ·cases h2
  have hrs1:=Hrs.out
  rw[hs] at hrs1
  simp only[Option.getD_some] at hrs1
  have hms:=((readS_iff _ _).1 hs).1
  have Hs:=zZ hs
  have Hq:=zZ hq
  have Hfew:=zZ (fun t=>fldsG_few hms t)
  have HN4:Hid (n1≤100):=zZ (by have:=((mayS_iff s).1 hms).1;have:=hrs1.1;omega)
  have Hrs1:=zZ hrs1.2
  have Hwf:=zZ (rootsL_wf hq)
  generalize hrl:rts.length=rl at *
  have Hrl:=zZ hrl
  obtain⟨C7,e7,hv7e⟩:=own_slice3 hv7
  subst hv7e
  have HV:=zZ (ids_own hv7 hrl Hwf.out)
  have p4:=P2.out.to HB3.out
  have a0:=p4.cell (j:=0) rfl
  have PG:=zZ (Blk.new w3 28 [.slice A1 n1 c1,.slice none 0 0,.slice C7 rl e7])
  have SX:Hid ((w3.alloc (.cells #[.slice A1 n1 c1,.slice none 0 0,.slice C7 rl e7] 28)).heap.size=w3.heap.size+1):=zZ (by simp)
  have HB3x:Hid (Below w3.heap.size w3 (w3.alloc (.cells #[.slice A1 n1 c1,.slice none 0 0,.slice C7 rl e7] 28))):=zZ ((zA _ w3).alloc (zW _) _)
  clear hs hq hv7 hrs1 hms hrl p4 hn1 hn0 hl2 Hcase Hrs Hok Hwf
  go_wp2
  generalize w3.alloc (.cells #[.slice A1 n1 c1,.slice none 0 0,.slice C7 rl e7] 28)=wx at *
  clear a0
  go_loopw [9] (fun iv wr=>∃ (j i:Nat) (vO:Value) (xs:List Value) (objs:List Ob),j=i+2∧j≤n∧iv=.int .i64 (j:Int)∧Hid (RowIn w3.heap.size 1 28 50 3 [.slice A1 n1 c1,.slice none 0 0,.slice C7 rl e7] wx vO i xs wr)∧Hid (Chunks 3 (rOb (fun k=>wx.heap.size≤k∧k<wr.heap.size∧some k≠vO.ownBlock) wr) xs objs)∧Hid (objs.length=i)∧Hid (objsL s 0 os=(objsL s i (os.drop i)).map (objs++·))) (fun iv _=>n - (intOf iv).toNat)
  case atStart=>exact⟨2,0,.slice none 0 0,[],[],rfl,by have:=Hol.out;omega,rfl,zZ (RowIn.start PG.out rfl),zZ Chunks.nil,zZ rfl,zZ (by simp)⟩
  case round=>
   rename World=>wr
   obtain⟨j,i,vO,xs,objs,hji,hj',rfl,hO,hch,hol,hob⟩:=hrel
   have hsr:=hO.out.bel.size
   have hsx:=SX.out
   have hs2:=S2.out
   have hs3:=HB3.out.size
   have hs1:=HB1.out.size
   have hs0:=S0.out
   have HB2r:Hid (Below w2.heap.size w2 wr):=zZ (HB3.out.trans ((HB3x.out.trans hO.out.bel).mono hs3))
   have HB1r:Hid (Below w1.heap.size w1 wr):=zZ (HS12.out.trans (HB2r.out.mono (by omega)))
   have HB0r:Hid (Below w0.heap.size w0 wr):=zZ (HB2.out.trans (HB2r.out.mono HB2.out.size))
   have HBwr:Hid (Below w.heap.size w wr):=zZ (H0.out.trans (HB0r.out.mono H0.out.size))
   obtain⟨AV,cV,hvO⟩:=own_slice3 hO.out.own
   subst hvO
   by_cases hjn:j<n
   ·obtain⟨p,hp⟩:∃ p,os[i]?=some p:=⟨_,zV (by have:=Hol.out;omega)⟩
    have hp':(a :: b :: os)[j]?=some p:=by rw[hji];simpa using hp
    obtain⟨bq,offq,Aq,cq,hAq,hbq,q0,hqc,hqm,hqb,hqr⟩:=pts_at Hp.out hp'
    injection hAq with hAq
    injection hAq with hq1 hq2
    subst hq1 hq2
    have hp200:=Hsh.out p (by simp[List.mem_of_getElem? hp])
    have HSF:=zZ (fun W (hW:Below wr.heap.size wr W)=>And.intro (((P2.out.to HB2r.out).to hW).cell (j:=0) rfl) ((hW.cell (p:=⟨bp,offp+j,none⟩) (by show bp<_;have:=HB0r.out.size;have:bp<w0.heap.size:=hbq;omega)).trans ((HB0r.out.cell (p:=⟨bp,offp+j,none⟩) hbq).trans q0)))
    have hsch:rSch (All wr) wr [.slice A1 n1 c1] s:=rSch_stays.to (fun k hk=>⟨by show k<_;have:=hk.2;have:=HB1r.out.size;omega,HB1r.out.block k hk.2⟩) Hrs1.out
    have T9:=zZ (fun W (hW:Below wr.heap.size wr W)=>robj_any A1 Aq n1 c1 p.length cq s i p W (sch_below hW hsch) (by have:=Hon.out;omega) rfl hqc hqb (RdIn.rd (RdIn.keeps (Keeps.below (HB0r.out.trans (hW.mono HB0r.out.size))) hqr)) (by omega) Hfew.out HN4.out)
    have Hmore:=zZ (fun o ho=>objsL_more (o:=o) hp hob.out ho)
    have Hstop:=zZ (fun ho=>graphL_objs (b:=b) Hs.out (objsL_stop hp hob.out ho))
    have es:wrap64 ((j:Int) - 2)=(i:Int):=by have:=Hon.out;unfold wrap64;omega
    have hjl:(j:Int)<(n:Int):=by omega
    have hj0:(0:Int)≤(j:Int):=by omega
    have Hin:=zZ hjn
    have Hji:=zZ hji
    clear hp hp' hbq q0 hqc hqm hqb hqr hp200 hsch hjn hji hsr hsx hs2 hs3 hs1 hs0 hj'
    go_wp2
    go_cut [10,11] (fun v10 v11 wz=>∃ (g7:Nat) (a1 a2:Int) (A8:Option Addr) (n8 c8:Nat) (ob:Bool),v10=.pointer (some ⟨g7,0,none⟩)∧v11=.bool ob∧Hid (Blk wz g7 50 [.int .i64 a1,.int .i64 a2,.slice A8 n8 c8])∧Hid (Below wr.heap.size wr wz)∧Hid ((∃ o,objL s i p=some o∧ob=true∧a1=o.1∧a2=o.2.1∧rOb (fun b=>wr.heap.size≤b∧b<wz.heap.size) wz [.int .i64 a1,.int .i64 a2,.slice A8 n8 c8] o)∨(objL s i p=none∧ob=false)))
    case first=>
     refine fr_start (fun W=>Below wr.heap.size wr W) 14 (by kernel_rfl) rfl (fun _ _ _ _ _ h=>h) (zA _ wr).drew (fun hH=>?_)
     have hDs:wr.heap.size≤wr.drew.heap.size:=hH.size
     generalize wr.drew=wd at *
     (refine fr_yes 0 (v:=?_) rfl (by kernel_rfl) rfl ?_ hH ?_;rotate_left;(focus ((intro W hW;obtain⟨a0,q1⟩:=HSF.out W hW;go_simp) <;> with_reducible rfl));simp only[Act.put,zY,zX,zQ]);(refine fr_yes 1 (v:=?_) rfl (by kernel_rfl) rfl ?_ hH ?_;rotate_left;(focus ((intro W hW;obtain⟨a0,q1⟩:=HSF.out W hW;go_simp) <;> with_reducible rfl));simp only[Act.put,zY,zX,zQ]);(refine fr_yes 2 (v:=?_) rfl (by kernel_rfl) rfl ?_ hH ?_;rotate_left;(focus ((intro W hW;obtain⟨a0,q1⟩:=HSF.out W hW;go_simp) <;> with_reducible rfl));simp only[Act.put,zY,zX,zQ]);(refine fr_yes 3 (v:=?_) rfl (by kernel_rfl) rfl ?_ hH ?_;rotate_left;(focus ((intro W hW;obtain⟨a0,q1⟩:=HSF.out W hW;go_simp) <;> with_reducible rfl));simp only[Act.put,zY,zX,zQ]);(refine fr_yes 4 (v:=?_) rfl (by kernel_rfl) rfl ?_ hH ?_;rotate_left;(focus ((intro W hW;obtain⟨a0,q1⟩:=HSF.out W hW;go_simp) <;> with_reducible rfl));simp only[Act.put,zY,zX,zQ]);(refine fr_yes 5 (v:=?_) rfl (by kernel_rfl) rfl ?_ hH ?_;rotate_left;(focus ((intro W hW;obtain⟨a0,q1⟩:=HSF.out W hW;go_simp) <;> with_reducible rfl));simp only[Act.put,zY,zX,zQ]);(refine fr_yes 6 (v:=?_) rfl (by kernel_rfl) rfl ?_ hH ?_;rotate_left;(focus ((intro W hW;obtain⟨a0,q1⟩:=HSF.out W hW;go_simp) <;> with_reducible rfl));simp only[Act.put,zY,zX,zQ])
     refine fr_op [7,11] (by kernel_rfl) (by simp) ?_;intro jj hjj;simp only[List.mem_cons,List.not_mem_nil,or_false] at hjj;rcases hjj with rfl | rfl
     ·refine⟨_,rfl,rfl,fun K hK=>?_⟩
      go_wp2_with (go_at_call 61;rw[es];refine (T9.out _ hH).mono ?_;rintro e wh ⟨a1,a2,A8,n8,c8,ob,rfl,hCg,hcs⟩)
      have hDg:=hH.trans (hCg.mono hH.size)
      have Hcs:=zZ hcs
      refine hK.out _ _ hDg ?_
      clear hK hH hcs
      have hH:=hDg
      (refine fr_yes 8 (v:=?_) rfl (by kernel_rfl) rfl ?_ hH ?_;rotate_left;(focus ((intro W hW;go_simp) <;> with_reducible rfl));simp only[Act.put,zY,zX,zQ]);(refine fr_yes 9 (v:=?_) rfl (by kernel_rfl) rfl ?_ hH ?_;rotate_left;(focus ((intro W hW;go_simp) <;> with_reducible rfl));simp only[Act.put,zY,zX,zQ]);(refine fr_yes 10 (v:=?_) rfl (by kernel_rfl) rfl ?_ hH ?_;rotate_left;(focus ((intro W hW;go_simp) <;> with_reducible rfl));simp only[Act.put,zY,zX,zQ])
      refine fr_op [11] (by kernel_rfl) (by simp) ?_;intro jj hjj;simp only[List.mem_cons,List.not_mem_nil,or_false] at hjj;subst hjj;refine⟨_,rfl,rfl,fun K hK=>?_⟩
      go_wp2
      refine hK.out _ _ (hDg.alloc hDg.size (.cells #[.int .i64 0,.int .i64 0,.slice none 0 0] 50)) ?_
      clear hK hH
      refine fr_op [12] (by kernel_rfl) (by simp) ?_;intro jj hjj;simp only[List.mem_cons,List.not_mem_nil,or_false] at hjj;subst hjj;refine⟨_,rfl,rfl,fun K hK=>?_⟩
      go_wp2
      have hDe:=hDg.alloc hDg.size (.cells #[.int .i64 a1,.int .i64 a2,.slice A8 n8 c8] 50)
      refine hK.out _ _ hDe ?_
      clear hK
      have hH:=hDe
      (refine fr_yes 13 (v:=?_) rfl (by kernel_rfl) rfl ?_ hH ?_;rotate_left;(focus ((intro W hW;go_simp) <;> with_reducible rfl));simp only[Act.put,zY,zX,zQ])
      refine fr_done (by kernel_rfl) ?_
      go_wp2
      go_meet
      case rel=>
       refine⟨_,a1,a2,A8,n8,c8,ob,rfl,rfl,zZ (Blk.new _ _ [.int .i64 a1,.int .i64 a2,.slice A8 n8 c8]),zZ hDe,zZ ?_⟩
       rcases Hcs.out with⟨o,h1,h2,h3,h4,h5⟩ | h
       ·exact .inl ⟨o,h1,h2,h3,h4,rOb_stays.to (fun k hk=>⟨⟨by have:=hk.1;omega,by have:=hk.2;simp only[World.size_alloc];omega⟩,Below.heap_alloc _ _ _ hk.2⟩) h5⟩
       ·exact .inr h
     ·refine⟨_,rfl,rfl,fun K hK=>?_⟩
      go_wp2
      have hDz:=hH.alloc hH.size (.cells #[.int .i64 0,.int .i64 0,.slice none 0 0] 50)
      have vz:=Blk.new wd 50 [.int .i64 0,.int .i64 0,.slice none 0 0]
      have szd:(wd.alloc (.cells #[.int .i64 0,.int .i64 0,.slice none 0 0] 50)).heap.size=wd.heap.size+1:=by simp
      refine hK.out _ _ hDz ?_
      clear hK hH
      have hH:=hDz
      generalize wd.alloc (.cells #[.int .i64 0,.int .i64 0,.slice none 0 0] 50)=wz at *
      refine fr_op [7] (by kernel_rfl) (by simp) ?_;intro jj hjj;simp only[List.mem_cons,List.not_mem_nil,or_false] at hjj;subst hjj;refine⟨_,rfl,rfl,fun K hK=>?_⟩
      go_wp2_with (go_at_call 61;rw[es];refine (T9.out _ hDz).mono ?_;rintro e wh ⟨a1,a2,A8,n8,c8,ob,rfl,hCg,hcs⟩)
      have hDg:=hDz.trans (hCg.mono hDz.size)
      have vg:=vz.to hCg
      have Hcs:=zZ hcs
      refine hK.out _ _ hDg ?_
      clear hK hH hCg hDz vz hcs
      have hH:=hDg
      (refine fr_yes 8 (v:=?_) rfl (by kernel_rfl) rfl ?_ hH ?_;rotate_left;(focus ((intro W hW;go_simp) <;> with_reducible rfl));simp only[Act.put,zY,zX,zQ]);(refine fr_yes 9 (v:=?_) rfl (by kernel_rfl) rfl ?_ hH ?_;rotate_left;(focus ((intro W hW;go_simp) <;> with_reducible rfl));simp only[Act.put,zY,zX,zQ]);(refine fr_yes 10 (v:=?_) rfl (by kernel_rfl) rfl ?_ hH ?_;rotate_left;(focus ((intro W hW;go_simp) <;> with_reducible rfl));simp only[Act.put,zY,zX,zQ])
      have z0:=vg.cell (j:=0) rfl
      have z1:=vg.cell (j:=1) rfl
      have z2:=vg.cell (j:=2) rfl
      have f0:=vg.frozen 0
      have f1:=vg.frozen 1
      have f2:=vg.frozen 2
      refine fr_op [12] (by kernel_rfl) (by simp) ?_;intro jj hjj;simp only[List.mem_cons,List.not_mem_nil,or_false] at hjj;subst hjj;refine⟨_,rfl,rfl,fun K hK=>?_⟩
      go_wp2
      have hDe:=((hDg.setCell (p:=⟨wd.heap.size,0,none⟩) hDs (.int .i64 a1)).setCell (p:=⟨wd.heap.size,1,none⟩) hDs (.int .i64 a2)).setCell (p:=⟨wd.heap.size,2,none⟩) hDs (.slice A8 n8 c8)
      refine hK.out _ _ hDe ?_
      clear hK hH
      have hH:=hDe
      (refine fr_yes 13 (v:=?_) rfl (by kernel_rfl) rfl ?_ hH ?_;rotate_left;(focus ((intro W hW;go_simp) <;> with_reducible rfl));simp only[Act.put,zY,zX,zQ])
      refine fr_done (by kernel_rfl) ?_
      go_wp2
      go_meet
      case rel=>
       refine⟨_,a1,a2,A8,n8,c8,ob,rfl,rfl,zZ (((vg.set 0 (.int .i64 a1)).set 1 (.int .i64 a2)).set 2 (.slice A8 n8 c8)),zZ hDe,zZ ?_⟩
       rcases Hcs.out with⟨o,h1,h2,h3,h4,h5⟩ | h
       ·refine .inl ⟨o,h1,h2,h3,h4,rOb_stays.to (fun k hk=>?_) h5⟩
        have k1:=hk.1
        have k2:=hk.2
        have hne:k≠wd.heap.size:=by omega
        refine⟨⟨by omega,by simpa using k2⟩,?_⟩
        rw[Below.heap_setCell _ _ _ _ hne,Below.heap_setCell _ _ _ _ hne,Below.heap_setCell _ _ _ _ hne]
       ·exact .inr h
    case rest=>
     rename World=>wz
     obtain⟨g7,a1,a2,A8,n8,c8,ob,rfl,rfl,Pv,Hz,Hcs⟩:=hcut
     have HBz:=zZ (HBwr.out.trans (Hz.out.mono HBwr.out.size))
     clear T9 es
     rcases Hcs.out with⟨o,ho,hb1,ha1,ha2,hro⟩ | ⟨ho,hb1⟩
     ·subst hb1 ha1 ha2
      have Hmo:=zZ (Hmore.out _ ho)
      have Hro:=zZ hro
      have pv:=Pv.out
      have v0:=pv.cell (j:=0) rfl
      have v1:=pv.cell (j:=1) rfl
      have v2:=pv.cell (j:=2) rfl
      have hgx:w3.heap.size<wx.heap.size:=by have:=SX.out;omega
      have hIz:=hO.out.more hgx Hz.out
      have d2:=hIz.bx.cell (j:=1) rfl
      have hsz:=Hz.out.size
      have hsr:=hO.out.bel.size
      have t1:i+1≤maxLen:=by have:=Hon.out;have:=Hin.out;have:=Hji.out;simp only[maxLen];omega
      have t2:(i+1) * 40≤140737488355328:=by have:=Hon.out;have:=Hin.out;have:=Hji.out;omega
      have t3:wx.heap.size≤(wz.alloc (.cells #[.int .i64 o.1,.int .i64 o.2.1,.slice A8 n8 c8] 50)).heap.size:=by simp only[World.size_alloc];have:=SX.out;omega
      have t4:=(Blk.new wz 50 [.int .i64 o.1,.int .i64 o.2.1,.slice A8 n8 c8]).rd
      have t5:=hIz.own.alloc (.cells #[.int .i64 o.1,.int .i64 o.2.1,.slice A8 n8 c8] 50)
      have tj:j+1≤41:=by have:=Hon.out;have:=Hin.out;omega
      clear ho hro pv hIz Hcs Hmore Hstop hsz hsr
      go_wp2_with (first
       | (at_builtin;refine wpList_apps rfl (.tmp 62) (.tmp 64) 25 rfl wx.heap.size 50 i0 (.agg #[.int .i64 0,.int .i64 0,.slice none 0 0]) 3 40 Tryz.underlying25 hi hz0 hz1 hz2 rfl (by omega) (.slice AV i cV) i xs rfl t5 (some ⟨wz.heap.size,0,none⟩) 1 1 [.int .i64 o.1,.int .i64 o.2.1,.slice A8 n8 c8] rfl rfl t4 (by simp[Value.oneCell']) t1 t2 t3 ?_;intro v4 w4 hown4 hg4 hv4;obtain⟨bx4,hR4⟩:=hO.out.step hgx Hz.out hg4 hown4;have HC4:=zZ (hO.out.obs hgx hch.out Hz.out Hro.out rfl hg4 hv4);obtain⟨A4,c4,hv4e⟩:=own_slice3 hown4;subst hv4e;have e4:=bx4.cell (j:=1) rfl;have f4:=bx4.frozen 1;have HR4:=zZ hR4;clear hR4 hown4 hg4 hv4 bx4)
       | fail)
      go_roundw
      case rel=>
       exact⟨j+1,i+1,_,_,objs++[o],by have:=Hji.out;clear t1 t2 t3 tj;omega,Hin.out,by go_num,HR4,HC4,zZ (by rw[List.length_append,hol.out];rfl),Hmo⟩
      case measure=>
       have:=Hin.out
       simp[intOf]
       omega
     ·subst hb1
      have HN:=zZ (Hstop.out ho)
      have QQ:=zZ (P0.out.to (HB0r.out.trans (Hz.out.mono HB0r.out.size)))
      have q0:=QQ.out
      have e0:=q0.cell (j:=0) rfl
      have e1:=q0.cell (j:=1) rfl
      have e2:=q0.cell (j:=2) rfl
      have z0:=q0.frozen 0
      have z1:=q0.frozen 1
      have z2:=q0.frozen 2
      clear q0 ho Hcs Hmore Hstop
      go_wp2
      have P9:=((QQ.out.set 0 (.slice none 0 0)).set 1 (.slice none 0 0)).set 2 (.slice none 0 0)
      refine ret_cell1 (d:=.struct _) (cs:=[.slice none 0 0,.slice none 0 0,.slice none 0 0]) rfl P9 rfl rfl rfl rfl rfl ?_
      unfold RGraphSays
      exact⟨none,0,0,none,0,0,none,0,0,false,([],[],[]),rfl,((HBz.out.setCell (p:=⟨w.heap.size,0,none⟩) (zW _) _).setCell (p:=⟨w.heap.size,1,none⟩) (zW _) _).setCell (p:=⟨w.heap.size,2,none⟩) (zW _) _,rGr_zero _ _,.inr ⟨HN.out,rfl,rfl⟩⟩
   ·have hjo:j=n:=by omega
    have hob9:=hob.out
    rw[List.drop_of_length_le (by have:=Hol.out;omega),objsL] at hob9
    simp only[Option.map_some,List.append_nil] at hob9
    have HQ9:=zZ (graphL_all Hs.out Hq.out hob9)
    have y0:=hO.out.bx.cell (j:=0) rfl
    have y1:=hO.out.bx.cell (j:=1) rfl
    have y2:=hO.out.bx.cell (j:=2) rfl
    have q0:=P0.out.to HB0r.out
    have e0:=q0.cell (j:=0) rfl
    have e1:=q0.cell (j:=1) rfl
    have e2:=q0.cell (j:=2) rfl
    have z0:=q0.frozen 0
    have z1:=q0.frozen 1
    have z2:=q0.frozen 2
    have Q0:=zZ q0
    have HSz:=zZ (And.intro hsr (And.intro hsx (And.intro hs2 (And.intro hs3 (And.intro hs1 hs0)))))
    have hjl:¬ ((j:Int)<(n:Int)):=by omega
    obtain⟨AO,cO,hAO,hsl⟩:=own_slice_in rOb_stays hO.out.own hol.out hch.out
    injection hAO with hA1 _ hA3
    subst hA1 hA3
    have Hsl:=zZ hsl
    clear hob9 q0 hsr hsx hs2 hs3 hs1 hs0 hjn hj' hsl hjo hji
    go_wp2
    have P9:=((Q0.out.set 0 (.slice A1 n1 c1)).set 1 (.slice AV i cV)).set 2 (.slice C7 rl e7)
    refine ret_cell1 (d:=.struct _) (cs:=[.slice A1 n1 c1,.slice AV i cV,.slice C7 rl e7]) rfl P9 rfl rfl rfl rfl rfl ?_
    have hne:∀ k,k≠w.heap.size→(((wr.setCell ⟨w.heap.size,0,none⟩ (.slice A1 n1 c1)).setCell ⟨w.heap.size,1,none⟩ (.slice AV i cV)).setCell ⟨w.heap.size,2,none⟩ (.slice C7 rl e7)).heap[k]?=wr.heap[k]?:=fun k hk=>by
     rw[Below.heap_setCell _ _ _ _ hk,Below.heap_setCell _ _ _ _ hk,Below.heap_setCell _ _ _ _ hk]
    have hsz:(((wr.setCell ⟨w.heap.size,0,none⟩ (.slice A1 n1 c1)).setCell ⟨w.heap.size,1,none⟩ (.slice AV i cV)).setCell ⟨w.heap.size,2,none⟩ (.slice C7 rl e7)).heap.size=wr.heap.size:=by simp
    obtain⟨m1,m2,m3,m4,m5,m6⟩:=HSz.out
    unfold RGraphSays
    refine⟨A1,n1,c1,AV,i,cV,C7,rl,e7,true,(s,objs,rts),rfl,((HBwr.out.setCell (p:=⟨w.heap.size,0,none⟩) (zW _) _).setCell (p:=⟨w.heap.size,1,none⟩) (zW _) _).setCell (p:=⟨w.heap.size,2,none⟩) (zW _) _,?_,.inl ⟨HQ9.out,rfl⟩⟩
    refine rGr_mk (g:=(s,objs,rts)) (rSch_stays.to (fun k hk=>?_) Hrs1.out) (rObs_stays.to (fun k hk=>?_) Hsl.out) (rIds_stays.to (fun k hk=>?_) HV.out)
    ·obtain⟨k1,k2⟩:=hk
     refine⟨⟨by omega,by omega⟩,?_⟩
     rw[hne k (by omega)]
     exact HB1r.out.block k k2
    ·obtain⟨k1,k2⟩:=hk
     exact⟨⟨by omega,by omega⟩,hne k (by omega)⟩
    ·obtain⟨k1,k2⟩:=hk
     refine⟨⟨by omega,by omega⟩,?_⟩
     rw[hne k (by omega),hO.out.bel.block k (by omega)]
     exact HB3x.out.block k k2
end Go.Proofs.YtdlkmjfbmenedaaGreatDoor
