/- The texts NaRef1, NaRef2, ScRef1, ScRefSame, VlRefFits, GrRef1, GrMayPlain, GrRef2, GrRef3, CaRef1, CaRef2, CaRef3, CaRef4, GrShort in one (as far as the seat has what they speak of); what each proves, and its conditions, stands before it. -/
import Derived.Test.YtnljjnkindjeoaaGreatDoorGGraph
import Derived.Test.YtnljjnkindjeoaaGreatDoorGGen
import Derived.OwnWalk
import Derived.Test.YtnljjnkindjeoaaGreatDoorGCanon
import Derived.Test.YtnljjnkindjeoaaGreatDoorGPlain
import Derived.Deep.DeepCutAuto
import Derived.Test.YtnljjnkindjeoaaGreatDoorAl
set_option maxRecDepth 100000
set_option maxHeartbeats 8000000
namespace Go.Proofs.YtnljjnkindjeoaaGreatDoor
open Go.RowKit
theorem byt_at3 {s:ByteArray} {k:Nat} (h:k<s.size):(byt s).getD k 0=(s[k]'h).toNat:=by
 rw[List.getD_eq_getElem?_getD,zV (by simpa using h)]
 simp only[Option.getD_some,byt,List.getElem_map,Array.getElem_toList];rfl
theorem byt_out {s:ByteArray} {k:Nat} (h:s.size≤k):(byt s).getD k 0=0:=getD_out (by simpa using h)
theorem mid_no {x:Nat} (h:mid x=false):x<128∨191<x:=by
 have:=of_decide_eq_false h;omega
theorem sig_none (l:List Nat) (h:128≤l.getD 0 0) (h1:mid (l.getD 1 0)=false):sig l=(65533,1):=by
 rw[sig,sig_x (by omega) (by rw[h1];simp) (by rw[h1];simp) (by rw[h1];simp)]
theorem sig_odd (l:List Nat) (h:128≤l.getD 0 0) (h1:l.getD 0 0<194∨245≤l.getD 0 0):sig l=(65533,1):=by
 rw[sig,sig_x (by omega) (by omega) (by omega)]
 rintro⟨h2,_,_,_,_,_,h3⟩
 unfold v4 at h3
 omega
theorem sig_no2 (l:List Nat) (h:224≤l.getD 0 0) (h1:mid (l.getD 2 0)=false):sig l=(65533,1):=by
 rw[sig,sig_x (by omega) (by omega) (by rw[h1];simp) (by rw[h1];simp)]
theorem sig_no3 (l:List Nat) (h:240≤l.getD 0 0) (h1:mid (l.getD 3 0)=false):sig l=(65533,1):=by
 rw[sig,sig_x (by omega) (by omega) (by omega) (by rw[h1];simp)]
theorem sig_is2 (l:List Nat) (h:194≤l.getD 0 0) (h':l.getD 0 0<224) (h1:mid (l.getD 1 0)=true) {c:Nat} (hc:c=(l.getD 0 0 - 192) * 64+(l.getD 1 0 - 128)):sig l=(c,2):=by
 rw[sig,sig_2 h h' h1,hc]
theorem sig_is3 (l:List Nat) (h:224≤l.getD 0 0) (h':l.getD 0 0<240) (h1:mid (l.getD 1 0)=true) (h2:mid (l.getD 2 0)=true) {c:Nat} (hc:c=(l.getD 0 0 - 224) * 4096+(l.getD 1 0 - 128) * 64+(l.getD 2 0 - 128)):
  sig l=if 2048≤c∧¬ (55296≤c∧c<57344) then (c,3) else (65533,1):=by
 have e:v3 (l.getD 0 0) (l.getD 1 0) (l.getD 2 0)=c:=by rw[hc];unfold v3;rfl
 rw[sig]
 by_cases hq:2048≤c∧¬ (55296≤c∧c<57344)
 ·rw[if_pos hq,sig_3 h h' h1 h2 (by rw[e];exact hq.1) (by rw[e];exact hq.2),e]
 ·rw[if_neg hq,sig_x (by omega) (by omega) (by rw[e];exact fun h=>hq h.2.2.2.2) (by omega)]
theorem sig_is4 (l:List Nat) (h:240≤l.getD 0 0) (h':l.getD 0 0<245) (h1:mid (l.getD 1 0)=true) (h2:mid (l.getD 2 0)=true) (h3:mid (l.getD 3 0)=true) {c:Nat}
  (hc:c=(l.getD 0 0 - 240) * 262144+(l.getD 1 0 - 128) * 4096+(l.getD 2 0 - 128) * 64+(l.getD 3 0 - 128)):sig l=if 65536≤c∧c<1114112 then (c,4) else (65533,1):=by
 have e:v4 (l.getD 0 0) (l.getD 1 0) (l.getD 2 0) (l.getD 3 0)=c:=by rw[hc];unfold v4;rfl
 rw[sig]
 by_cases hq:65536≤c∧c<1114112
 ·rw[if_pos hq,sig_4 h (by omega) h1 h2 h3 (by rw[e];exact hq.1) (by rw[e];exact hq.2),e]
 ·rw[if_neg hq,sig_x (by omega) (by omega) (by omega) (by rw[e];exact fun h=>hq h.2.2.2.2.2)]
theorem rsign_any (s:ByteArray) (w:World) (hs:0<s.size):Calls Tryz.prog 156 #[.string s] w fun e w'=>e=.returned (.tuple #[.int .i64 ((sig (byt s)).1:Int),.int .i64 ((sig (byt s)).2:Int)])∧w'=w:=by
 have h0:=byt_at3 hs
 have hlt:(s[0]'hs).toNat<256:=UInt8.toNat_lt _
 have hs':(0:Int)<(s.size:Int):=by omega
 by_cases c1:(s[0]'hs).toNat<128
 ·have d1:decide (((s[0]'hs).toNat:Int)<128)=true:=by simp;omega
  have e:sig (byt s)=((s[0]'hs).toNat,1):=by rw[sig,h0,sig_1 c1]
  rw[e]
  clear e h0
  go_enter Tryz.func156,Tryz.ntmps156
  go_wp2
  go_ret2
  exact⟨rfl,rfl⟩
 have d1:decide (((s[0]'hs).toNat:Int)<128)=false:=by simp;omega
 by_cases c2:(s[0]'hs).toNat<194
 ·have d2:decide ((194:Int)≤((s[0]'hs).toNat:Int))=false:=by simp;omega
  have d3:decide ((224:Int)≤((s[0]'hs).toNat:Int))=false:=by simp;omega
  have d4:decide ((240:Int)≤((s[0]'hs).toNat:Int))=false:=by simp;omega
  rw[sig_odd _ (by omega) (by omega)]
  clear h0
  go_enter Tryz.func156,Tryz.ntmps156
  go_wp2
  go_ret2
  exact⟨rfl,rfl⟩
 have d2:decide ((194:Int)≤((s[0]'hs).toNat:Int))=true:=by simp;omega
 by_cases c3:(s[0]'hs).toNat<224
 ·have d3:decide (((s[0]'hs).toNat:Int)<224)=true:=by simp;omega
  have d4:decide ((224:Int)≤((s[0]'hs).toNat:Int))=false:=by simp;omega
  have d5:decide ((240:Int)≤((s[0]'hs).toNat:Int))=false:=by simp;omega
  by_cases c4:s.size<2
  ·have d6:decide ((s.size:Int)<2)=true:=by simp;omega
   have e:sig (byt s)=(65533,1):=by
    exact sig_none _ (by omega) (by rw[byt_out (by omega)];rfl)
   rw[e]
   clear e h0
   go_enter Tryz.func156,Tryz.ntmps156
   go_wp2
   go_ret2
   exact⟨rfl,rfl⟩
  have d6:decide ((s.size:Int)<2)=false:=by simp;omega
  have q1:1<s.size:=by omega
  have q1':(1:Int)<(s.size:Int):=by omega
  have h1:=byt_at3 q1
  have l1:(s[1]'q1).toNat<256:=UInt8.toNat_lt _
  have N1:Hid (mid (s[1]'q1).toNat=false→sig (byt s)=(65533,1)):=fun h=>sig_none _ (by omega) (by rw[h1];exact h)
  have Y:Hid (∀ c:Nat,mid (s[1]'q1).toNat=true→c=((s[0]'hs).toNat - 192) * 64+((s[1]'q1).toNat - 128)→sig (byt s)=(c,2)):=fun c m1 hc=>sig_is2 _ (by omega) (by omega) (by rw[h1];exact m1) (by rw[h0,h1];exact hc)
  clear h0 h1
  generalize sig (byt s)=r at *
  go_enter Tryz.func156,Tryz.ntmps156
  go_wp2
  go_loop [7,8] (fun v i=>(i=.int .i64 1∧∃ c:Nat,v=.int .i64 (c:Int)∧c=((s[0]'hs).toNat - 192) * 1)∨(i=.int .i64 2∧mid (s[1]'q1).toNat=true∧∃ c:Nat,v=.int .i64 (c:Int)∧c=((s[0]'hs).toNat - 192) * 64+((s[1]'q1).toNat - 128) * 1)) (fun _ i=>2 - (intOf i).toNat)
  case atStart=>exact .inl ⟨rfl,(s[0]'hs).toNat - 192,by go_num,by omega⟩
  case round=>
   rcases hrel with⟨rfl,c,rfl,hc⟩ | ⟨rfl,m1,c,rfl,hc⟩
   ·by_cases hm:mid (s[1]'q1).toNat=true
    ·have hm1:=mid_of hm
     have t1:decide (((s[1]'q1).toNat:Int)<128)=false:=by simp;omega
     have t2:decide ((191:Int)<((s[1]'q1).toNat:Int))=false:=by simp;omega
     go_wp2
     go_round
     case rel=>exact .inr ⟨rfl,hm,c * 64+((s[1]'q1).toNat - 128),by go_num,by omega⟩
     case measure=>simp[intOf]
    ·have hm0:mid (s[1]'q1).toNat=false:=by simpa using hm
     obtain rfl:=N1.out hm0
     rcases mid_no hm0 with g | g
     ·have t1:decide (((s[1]'q1).toNat:Int)<128)=true:=by simp;omega
      go_wp2
      go_ret2
      exact⟨rfl,rfl⟩
     ·have t1:decide (((s[1]'q1).toNat:Int)<128)=false:=by simp;omega
      have t2:decide ((191:Int)<((s[1]'q1).toNat:Int))=true:=by simp;omega
      go_wp2
      go_ret2
      exact⟨rfl,rfl⟩
   ·have hr:=Y.out c m1 (by omega)
    have u1:=mid_of m1
    subst hr
    have t1:decide ((c:Int)<128)=false:=by simp;omega
    have t2:decide ((1114111:Int)<(c:Int))=false:=by simp;omega
    have t3:decide ((55296:Int)≤(c:Int))=false:=by simp;omega
    go_wp2
    go_ret2
    exact⟨rfl,rfl⟩
 have d3:decide (((s[0]'hs).toNat:Int)<224)=false:=by simp;omega
 have d4:decide ((224:Int)≤((s[0]'hs).toNat:Int))=true:=by simp;omega
 by_cases c5:(s[0]'hs).toNat<240
 ·have d5:decide (((s[0]'hs).toNat:Int)<240)=true:=by simp;omega
  have d5':decide ((240:Int)≤((s[0]'hs).toNat:Int))=false:=by simp;omega
  by_cases c4:s.size<3
  ·have d6:decide ((s.size:Int)<3)=true:=by simp;omega
   have e:sig (byt s)=(65533,1):=by
    exact sig_no2 _ (by omega) (by rw[byt_out (by omega)];rfl)
   rw[e]
   clear e h0
   go_enter Tryz.func156,Tryz.ntmps156
   go_wp2
   go_ret2
   exact⟨rfl,rfl⟩
  have d6:decide ((s.size:Int)<3)=false:=by simp;omega
  have q1:1<s.size:=by omega
  have q1':(1:Int)<(s.size:Int):=by omega
  have h1:=byt_at3 q1
  have l1:(s[1]'q1).toNat<256:=UInt8.toNat_lt _
  have q2:2<s.size:=by omega
  have q2':(2:Int)<(s.size:Int):=by omega
  have h2:=byt_at3 q2
  have l2:(s[2]'q2).toNat<256:=UInt8.toNat_lt _
  have N1:Hid (mid (s[1]'q1).toNat=false→sig (byt s)=(65533,1)):=fun h=>sig_none _ (by omega) (by rw[h1];exact h)
  have N2:Hid (mid (s[2]'q2).toNat=false→sig (byt s)=(65533,1)):=fun h=>sig_no2 _ (by omega) (by rw[h2];exact h)
  have Y:Hid (∀ c:Nat,mid (s[1]'q1).toNat=true→mid (s[2]'q2).toNat=true→c=((s[0]'hs).toNat - 224) * 4096+((s[1]'q1).toNat - 128) * 64+((s[2]'q2).toNat - 128)→sig (byt s)=if 2048≤c∧¬ (55296≤c∧c<57344) then (c,3) else (65533,1)):=fun c m1 m2 hc=>sig_is3 _ (by omega) (by omega) (by rw[h1];exact m1) (by rw[h2];exact m2) (by rw[h0,h1,h2];exact hc)
  clear h0 h1 h2
  generalize sig (byt s)=r at *
  go_enter Tryz.func156,Tryz.ntmps156
  go_wp2
  go_loop [7,8] (fun v i=>(i=.int .i64 1∧∃ c:Nat,v=.int .i64 (c:Int)∧c=((s[0]'hs).toNat - 224) * 1)∨(i=.int .i64 2∧mid (s[1]'q1).toNat=true∧∃ c:Nat,v=.int .i64 (c:Int)∧c=((s[0]'hs).toNat - 224) * 64+((s[1]'q1).toNat - 128) * 1)∨(i=.int .i64 3∧mid (s[1]'q1).toNat=true∧mid (s[2]'q2).toNat=true∧∃ c:Nat,v=.int .i64 (c:Int)∧c=((s[0]'hs).toNat - 224) * 4096+((s[1]'q1).toNat - 128) * 64+((s[2]'q2).toNat - 128) * 1)) (fun _ i=>3 - (intOf i).toNat)
  case atStart=>exact .inl ⟨rfl,(s[0]'hs).toNat - 224,by go_num,by omega⟩
  case round=>
   rcases hrel with⟨rfl,c,rfl,hc⟩ | ⟨rfl,m1,c,rfl,hc⟩ | ⟨rfl,m1,m2,c,rfl,hc⟩
   ·by_cases hm:mid (s[1]'q1).toNat=true
    ·have hm1:=mid_of hm
     have t1:decide (((s[1]'q1).toNat:Int)<128)=false:=by simp;omega
     have t2:decide ((191:Int)<((s[1]'q1).toNat:Int))=false:=by simp;omega
     go_wp2
     go_round
     case rel=>exact .inr (.inl ⟨rfl,hm,c * 64+((s[1]'q1).toNat - 128),by go_num,by omega⟩)
     case measure=>simp[intOf]
    ·have hm0:mid (s[1]'q1).toNat=false:=by simpa using hm
     obtain rfl:=N1.out hm0
     rcases mid_no hm0 with g | g
     ·have t1:decide (((s[1]'q1).toNat:Int)<128)=true:=by simp;omega
      go_wp2
      go_ret2
      exact⟨rfl,rfl⟩
     ·have t1:decide (((s[1]'q1).toNat:Int)<128)=false:=by simp;omega
      have t2:decide ((191:Int)<((s[1]'q1).toNat:Int))=true:=by simp;omega
      go_wp2
      go_ret2
      exact⟨rfl,rfl⟩
   ·by_cases hm:mid (s[2]'q2).toNat=true
    ·have hm1:=mid_of hm
     have t1:decide (((s[2]'q2).toNat:Int)<128)=false:=by simp;omega
     have t2:decide ((191:Int)<((s[2]'q2).toNat:Int))=false:=by simp;omega
     go_wp2
     go_round
     case rel=>exact .inr (.inr ⟨rfl,m1,hm,c * 64+((s[2]'q2).toNat - 128),by go_num,by omega⟩)
     case measure=>simp[intOf]
    ·have hm0:mid (s[2]'q2).toNat=false:=by simpa using hm
     obtain rfl:=N2.out hm0
     rcases mid_no hm0 with g | g
     ·have t1:decide (((s[2]'q2).toNat:Int)<128)=true:=by simp;omega
      go_wp2
      go_ret2
      exact⟨rfl,rfl⟩
     ·have t1:decide (((s[2]'q2).toNat:Int)<128)=false:=by simp;omega
      have t2:decide ((191:Int)<((s[2]'q2).toNat:Int))=true:=by simp;omega
      go_wp2
      go_ret2
      exact⟨rfl,rfl⟩
   ·have hr:=Y.out c m1 m2 (by omega)
    have u1:=mid_of m1
    have u2:=mid_of m2
    have hcb:c≤1114111:=by omega
    clear hc Y N1 N2 m1 u1 m2 u2
    by_cases g1:c<2048
    ·rw[if_neg (by omega)] at hr
     subst hr
     have t1:decide ((c:Int)<2048)=true:=by simp;omega
     go_wp2
     go_ret2
     exact⟨rfl,rfl⟩
    have t1:decide ((c:Int)<2048)=false:=by simp;omega
    have t2:decide ((1114111:Int)<(c:Int))=false:=by simp;omega
    by_cases g2:c<55296
    ·rw[if_pos (by omega)] at hr
     subst hr
     have t3:decide ((55296:Int)≤(c:Int))=false:=by simp;omega
     go_wp2
     go_ret2
     exact⟨rfl,rfl⟩
    have t3:decide ((55296:Int)≤(c:Int))=true:=by simp;omega
    by_cases g3:c≤57343
    ·rw[if_neg (by omega)] at hr
     subst hr
     have t4:decide ((c:Int)≤57343)=true:=by simp;omega
     go_wp2
     go_ret2
     exact⟨rfl,rfl⟩
    ·rw[if_pos (by omega)] at hr
     subst hr
     have t4:decide ((c:Int)≤57343)=false:=by simp;omega
     go_wp2
     go_ret2
     exact⟨rfl,rfl⟩
 have d5:decide (((s[0]'hs).toNat:Int)<240)=false:=by simp;omega
 have d5':decide ((240:Int)≤((s[0]'hs).toNat:Int))=true:=by simp;omega
 by_cases c6:(s[0]'hs).toNat<245
 ·have d7:decide (((s[0]'hs).toNat:Int)<245)=true:=by simp;omega
  by_cases c4:s.size<4
  ·have d6:decide ((s.size:Int)<4)=true:=by simp;omega
   have e:sig (byt s)=(65533,1):=by
    exact sig_no3 _ (by omega) (by rw[byt_out (by omega)];rfl)
   rw[e]
   clear e h0
   go_enter Tryz.func156,Tryz.ntmps156
   go_wp2
   go_ret2
   exact⟨rfl,rfl⟩
  have d6:decide ((s.size:Int)<4)=false:=by simp;omega
  have q1:1<s.size:=by omega
  have q1':(1:Int)<(s.size:Int):=by omega
  have h1:=byt_at3 q1
  have l1:(s[1]'q1).toNat<256:=UInt8.toNat_lt _
  have q2:2<s.size:=by omega
  have q2':(2:Int)<(s.size:Int):=by omega
  have h2:=byt_at3 q2
  have l2:(s[2]'q2).toNat<256:=UInt8.toNat_lt _
  have q3:3<s.size:=by omega
  have q3':(3:Int)<(s.size:Int):=by omega
  have h3:=byt_at3 q3
  have l3:(s[3]'q3).toNat<256:=UInt8.toNat_lt _
  have N1:Hid (mid (s[1]'q1).toNat=false→sig (byt s)=(65533,1)):=fun h=>sig_none _ (by omega) (by rw[h1];exact h)
  have N2:Hid (mid (s[2]'q2).toNat=false→sig (byt s)=(65533,1)):=fun h=>sig_no2 _ (by omega) (by rw[h2];exact h)
  have N3:Hid (mid (s[3]'q3).toNat=false→sig (byt s)=(65533,1)):=fun h=>sig_no3 _ (by omega) (by rw[h3];exact h)
  have Y:Hid (∀ c:Nat,mid (s[1]'q1).toNat=true→mid (s[2]'q2).toNat=true→mid (s[3]'q3).toNat=true→c=((s[0]'hs).toNat - 240) * 262144+((s[1]'q1).toNat - 128) * 4096+((s[2]'q2).toNat - 128) * 64+((s[3]'q3).toNat - 128)→sig (byt s)=if 65536≤c∧c<1114112 then (c,4) else (65533,1)):=fun c m1 m2 m3 hc=>sig_is4 _ (by omega) (by omega) (by rw[h1];exact m1) (by rw[h2];exact m2) (by rw[h3];exact m3) (by rw[h0,h1,h2,h3];exact hc)
  clear h0 h1 h2 h3
  generalize sig (byt s)=r at *
  go_enter Tryz.func156,Tryz.ntmps156
  go_wp2
  go_loop [7,8] (fun v i=>(i=.int .i64 1∧∃ c:Nat,v=.int .i64 (c:Int)∧c=((s[0]'hs).toNat - 240) * 1)∨(i=.int .i64 2∧mid (s[1]'q1).toNat=true∧∃ c:Nat,v=.int .i64 (c:Int)∧c=((s[0]'hs).toNat - 240) * 64+((s[1]'q1).toNat - 128) * 1)∨(i=.int .i64 3∧mid (s[1]'q1).toNat=true∧mid (s[2]'q2).toNat=true∧∃ c:Nat,v=.int .i64 (c:Int)∧c=((s[0]'hs).toNat - 240) * 4096+((s[1]'q1).toNat - 128) * 64+((s[2]'q2).toNat - 128) * 1)∨(i=.int .i64 4∧mid (s[1]'q1).toNat=true∧mid (s[2]'q2).toNat=true∧mid (s[3]'q3).toNat=true∧∃ c:Nat,v=.int .i64 (c:Int)∧c=((s[0]'hs).toNat - 240) * 262144+((s[1]'q1).toNat - 128) * 4096+((s[2]'q2).toNat - 128) * 64+((s[3]'q3).toNat - 128) * 1)) (fun _ i=>4 - (intOf i).toNat)
  case atStart=>exact .inl ⟨rfl,(s[0]'hs).toNat - 240,by go_num,by omega⟩
  case round=>
   rcases hrel with⟨rfl,c,rfl,hc⟩ | ⟨rfl,m1,c,rfl,hc⟩ | ⟨rfl,m1,m2,c,rfl,hc⟩ | ⟨rfl,m1,m2,m3,c,rfl,hc⟩
   ·by_cases hm:mid (s[1]'q1).toNat=true
    ·have hm1:=mid_of hm
     have t1:decide (((s[1]'q1).toNat:Int)<128)=false:=by simp;omega
     have t2:decide ((191:Int)<((s[1]'q1).toNat:Int))=false:=by simp;omega
     go_wp2
     go_round
     case rel=>exact .inr (.inl ⟨rfl,hm,c * 64+((s[1]'q1).toNat - 128),by go_num,by omega⟩)
     case measure=>simp[intOf]
    ·have hm0:mid (s[1]'q1).toNat=false:=by simpa using hm
     obtain rfl:=N1.out hm0
     rcases mid_no hm0 with g | g
     ·have t1:decide (((s[1]'q1).toNat:Int)<128)=true:=by simp;omega
      go_wp2
      go_ret2
      exact⟨rfl,rfl⟩
     ·have t1:decide (((s[1]'q1).toNat:Int)<128)=false:=by simp;omega
      have t2:decide ((191:Int)<((s[1]'q1).toNat:Int))=true:=by simp;omega
      go_wp2
      go_ret2
      exact⟨rfl,rfl⟩
   ·by_cases hm:mid (s[2]'q2).toNat=true
    ·have hm1:=mid_of hm
     have t1:decide (((s[2]'q2).toNat:Int)<128)=false:=by simp;omega
     have t2:decide ((191:Int)<((s[2]'q2).toNat:Int))=false:=by simp;omega
     go_wp2
     go_round
     case rel=>exact .inr (.inr (.inl ⟨rfl,m1,hm,c * 64+((s[2]'q2).toNat - 128),by go_num,by omega⟩))
     case measure=>simp[intOf]
    ·have hm0:mid (s[2]'q2).toNat=false:=by simpa using hm
     obtain rfl:=N2.out hm0
     rcases mid_no hm0 with g | g
     ·have t1:decide (((s[2]'q2).toNat:Int)<128)=true:=by simp;omega
      go_wp2
      go_ret2
      exact⟨rfl,rfl⟩
     ·have t1:decide (((s[2]'q2).toNat:Int)<128)=false:=by simp;omega
      have t2:decide ((191:Int)<((s[2]'q2).toNat:Int))=true:=by simp;omega
      go_wp2
      go_ret2
      exact⟨rfl,rfl⟩
   ·by_cases hm:mid (s[3]'q3).toNat=true
    ·have hm1:=mid_of hm
     have t1:decide (((s[3]'q3).toNat:Int)<128)=false:=by simp;omega
     have t2:decide ((191:Int)<((s[3]'q3).toNat:Int))=false:=by simp;omega
     go_wp2
     go_round
     case rel=>exact .inr (.inr (.inr ⟨rfl,m1,m2,hm,c * 64+((s[3]'q3).toNat - 128),by go_num,by omega⟩))
     case measure=>simp[intOf]
    ·have hm0:mid (s[3]'q3).toNat=false:=by simpa using hm
     obtain rfl:=N3.out hm0
     rcases mid_no hm0 with g | g
     ·have t1:decide (((s[3]'q3).toNat:Int)<128)=true:=by simp;omega
      go_wp2
      go_ret2
      exact⟨rfl,rfl⟩
     ·have t1:decide (((s[3]'q3).toNat:Int)<128)=false:=by simp;omega
      have t2:decide ((191:Int)<((s[3]'q3).toNat:Int))=true:=by simp;omega
      go_wp2
      go_ret2
      exact⟨rfl,rfl⟩
   ·have hr:=Y.out c m1 m2 m3 (by omega)
    have u1:=mid_of m1
    have u2:=mid_of m2
    have u3:=mid_of m3
    have hcb:c≤2000000:=by omega
    clear hc Y N1 N2 N3 m1 u1 m2 u2 m3 u3
    by_cases g1:c<65536
    ·rw[if_neg (by omega)] at hr
     subst hr
     have t1:decide ((c:Int)<65536)=true:=by simp;omega
     go_wp2
     go_ret2
     exact⟨rfl,rfl⟩
    have t1:decide ((c:Int)<65536)=false:=by simp;omega
    by_cases g2:1114111<c
    ·rw[if_neg (by omega)] at hr
     subst hr
     have t2:decide ((1114111:Int)<(c:Int))=true:=by simp;omega
     go_wp2
     go_ret2
     exact⟨rfl,rfl⟩
    ·rw[if_pos (by omega)] at hr
     subst hr
     have t2:decide ((1114111:Int)<(c:Int))=false:=by simp;omega
     have t3:decide ((55296:Int)≤(c:Int))=true:=by simp;omega
     have t4:decide ((c:Int)≤57343)=false:=by simp;omega
     go_wp2
     go_ret2
     exact⟨rfl,rfl⟩
 ·have d7:decide (((s[0]'hs).toNat:Int)<245)=false:=by simp;omega
  rw[sig_odd _ (by omega) (by omega)]
  clear h0
  go_enter Tryz.func156,Tryz.ntmps156
  go_wp2
  go_ret2
  exact⟨rfl,rfl⟩
def strLen:Value→Nat | .string t=>t.size | _=>0
theorem sgn_fst {t:ByteArray} (h:0<t.size):∃ c n,sig (byt t)=(c,n)∧sgn (byt t)=c :: sgn (byt (t.extract n t.size))∧c≤2147483647∧1≤n∧n≤t.size∧(t.extract n t.size).size=t.size - n:=by
 obtain⟨c,n,_,hsig,hsg,hc,hn,hn2⟩:=sgn_at h
 rw[List.drop_zero] at hsig hsg
 rw[Nat.zero_add] at hsg hn2
 have e:byt (t.extract n t.size)=(byt t).drop n:=by rw[byt_extract,List.take_of_length_le (by simp)]
 refine⟨c,n,hsig,by rw[hsg,e],hc,hn,hn2,?_⟩
 rw[← byt_length,e,List.length_drop,byt_length]
theorem rsigns_any (s:ByteArray) (w:World) (hs:s.size≤1048576):Calls Tryz.prog 137 #[.string s] w fun e w'=>∃ v,e=.returned v∧w'.ownsRow w.heap.size 3 1 v (sgn (byt s)).length (i64s (sgn (byt s)))∧Below w.heap.size w w':=by
 obtain⟨i0,hi,hz0,hz1,hz2⟩:=info_parts info_int
 obtain⟨r,hr⟩:∃ r,r=sgn (byt s):=⟨_,rfl⟩
 rw[← hr]
 have Hst:Hid ([]++sgn (byt s)=r):=hr.symm
 clear hr
 go_enter Tryz.func137,Tryz.ntmps137
 go_wp2
 go_loopw [0,3] (fun sv v W=>∃ (t:ByteArray) (xs:List Nat),sv=.string t∧W.ownsRow w.heap.size 3 1 v xs.length (i64s xs)∧Below w.heap.size w W∧xs.length+t.size≤s.size∧Hid (xs++sgn (byt t)=r)) (fun sv _ _=>strLen sv)
 case atStart=>exact⟨s,[],rfl,World.ownsRow_nil _ _ _ _,zA _ _,by simp,Hst⟩
 case round=>
  obtain⟨t,xs,rfl,hown,hB,hl,hc⟩:=hrel
  clear Hst
  by_cases ht:0<t.size
  ·obtain⟨c,n,hsig,hsg,hcl,hn1,hn2,hsz⟩:=sgn_fst ht
   have HS:=zZ (rsign_any t wr ht)
   rw[hsig] at HS
   have hc':=hc.out
   rw[hsg,show xs++c :: sgn (byt (t.extract n t.size))=(xs++[c])++sgn (byt (t.extract n t.size)) by simp] at hc'
   have HC:=zZ hc'
   clear hc hc' hsg hsig
   have ht':decide ((0:Int)<(t.size:Int))=true:=by simp;omega
   have hn2':(n:Int)≤(t.size:Int):=by omega
   have hrd:=lit_int wr [c]
   have hBs:=hB.size
   have Hrd:=zZ hrd
   clear hrd
   go_wp2_with fail
   refine HS.out.mono ?_
   rintro e w1 ⟨rfl,rfl⟩
   go_wp2_with (first
    | (at_builtin;refine wpList_app rfl (.tmp 14) (.tmp 16) 26 rfl w.heap.size 3 i0 (.int .i64 0) 8 Tryz.underlying26 hi hz0 hz1 hz2 rfl _ xs.length (i64s xs) rfl (hown.alloc _) (some ⟨w1.heap.size,0,none⟩) 1 1 (i64s [c]) rfl rfl Hrd.out (i64s_one _) (by simp only[maxLen];omega) (by omega) (by simp;omega) ?_;intro v4 w4 hown4 hg4 _)
    | fail)
   go_roundw
   case rel=>
    refine⟨t.extract n t.size,xs++[c],rfl,?_,?_,?_,HC⟩
    ·rw[i64s_append,List.length_append];exact hown4
    ·exact (hB.alloc hBs _).grown hg4 (by simp;omega) (fun k hk=>(hown.lt k hk).1)
    ·rw[List.length_append,hsz,List.length_singleton];omega
   case measure=>
    show (t.extract n t.size).size<t.size
    rw[hsz]
    omega
  ·have ht':decide ((0:Int)<(t.size:Int))=false:=zK (by omega)
   have hr:=hc.out
   rw[show byt t=[] from List.eq_nil_of_length_eq_zero (by rw[byt_length];omega),sgn_nil,List.append_nil] at hr
   subst hr
   go_wp2
   go_ret
   exact⟨_,rfl,hown,hB⟩
theorem rletter_any (c:Nat) (w:World) (hc:c≤2147483647):Calls Tryz.prog 138 #[.int .i64 (c:Int)] w fun e w'=>e=.returned (.bool (letS c))∧w'=w:=by
 go_enter Tryz.func138,Tryz.ntmps138
 go_wp2
 all_goals go_ret
 all_goals refine⟨ret_bool ?_,rfl⟩
 all_goals rw[Bool.eq_iff_iff]
 all_goals simp[letS]
 all_goals omega
theorem rdigit_any (c:Nat) (w:World) (hc:c≤2147483647):Calls Tryz.prog 139 #[.int .i64 (c:Int)] w fun e w'=>e=.returned (.bool (digS c))∧w'=w:=by
 go_enter Tryz.func139,Tryz.ntmps139
 go_wp2
 all_goals go_ret
 all_goals refine⟨ret_bool ?_,rfl⟩
 all_goals rw[Bool.eq_iff_iff]
 all_goals simp[digS]
 all_goals omega
theorem sgn_le (l:List Nat) (hl:∀ x∈l,x<256):∀ c∈sgn l,c≤2147483647:=by
 suffices H:∀ (n:Nat) (l:List Nat),l.length≤n→(∀ x∈l,x<256)→∀ c∈sgn l,c≤2147483647 from H _ l (zW _) hl
 intro n
 induction n with
 | zero=>
  intro l h _ c hc
  obtain rfl:l=[]:=List.eq_nil_of_length_eq_zero (by omega)
  simp[sgn_nil] at hc
 | succ n ih=>
  intro l h hl c hc
  by_cases h0:l=[]
  ·subst h0;simp[sgn_nil] at hc
  ·have hp:0<l.length:=List.length_pos_iff.2 h0
   have hw:=(sig_wide l).1
   rw[sgn_cons h0] at hc
   rcases List.mem_cons.1 hc with rfl | hc
   ·have e:byt (strB l)=l:=by
     show List.map UInt8.toNat (List.map UInt8.ofNat l)=l
     rw[List.map_map]
     conv=>rhs;rw[← List.map_id l]
     apply List.map_congr_left
     intro x hx
     have:=hl x hx
     simp
     omega
    have:=decode_le (strB l) 0
    rw[dec_sig,e,List.drop_zero] at this
    exact this
   ·exact ih _ (by rw[List.length_drop];omega) (fun x hx=>hl x (List.mem_of_mem_drop hx)) c hc
theorem fit_0 (c:Nat):fitS c 0=letS c:=by simp[fitS]
theorem fit_s (c k:Nat):fitS c (k+1)=okS c:=by simp[fitS,okS]
theorem nameS_iff (l:List Nat):nameS l=true↔(1≤l.length∧l.length≤8)∧∀ j,j<l.length→fitS (l.getD j 0) j=true:=by
 cases l with
 | nil=>simp[nameS]
 | cons c t=>
  rw[nameS,Bool.and_eq_true,Bool.and_eq_true,decide_eq_true_iff,List.all_eq_true,List.length_cons]
  constructor
  ·rintro⟨⟨h1,h2⟩,h3⟩
   refine⟨by omega,fun j hj=>?_⟩
   cases j with
   | zero=>rw[fit_0];exact h1
   | succ j=>
    rw[fit_s,List.getD_cons_succ]
    have hj':j<t.length:=by omega
    rw[List.getD_eq_getElem?_getD,zV hj']
    exact h2 _ (List.getElem_mem hj')
  ·rintro⟨h1,h2⟩
   refine⟨⟨by have:=h2 0 (by omega);rwa [fit_0] at this,fun x hx=>?_⟩,by omega⟩
   obtain⟨j,hj,rfl⟩:=List.getElem_of_mem hx
   have:=h2 (j+1) (by omega)
   rw[fit_s,List.getD_cons_succ,List.getD_eq_getElem?_getD,zV hj] at this
   exact this
theorem rnmay_any (s:ByteArray) (w:World) (hs:s.size≤1048576):Calls Tryz.prog 103 #[.string s] w fun e w'=>e=.returned (.bool (mayN (byt s)))∧Below w.heap.size w w':=by
 have HS:=zZ (rsigns_any s w hs)
 have hlen:(sgn (byt s)).length≤1048576:=Nat.le_trans (sgn_length_le _) (by rw[byt_length];exact hs)
 have hle:=sgn_le (byt s) (byt_lt s)
 have HI:=zZ (nameS_iff (sgn (byt s)))
 unfold mayN
 generalize sgn (byt s)=l at *
 generalize nameS l=ok at *
 go_enter Tryz.func103,Tryz.ntmps103
 go_wp2_with fail
 refine HS.out.mono ?_
 rintro e w1 ⟨v,rfl,hown,hB⟩
 obtain⟨A,cp,rfl,hcp,hrd,_⟩:=own_slice hown
 clear hown HS
 have HB:=zZ hB
 have HR:=zZ hrd
 have HLE:=zZ hle
 clear hB hrd hle
 go_wp2
 go_loop [4] (fun i=>∃ k:Nat,k≤l.length∧i=.int .i64 (k:Int)∧Hid (∀ j,j<k→fitS (l.getD j 0) j=true)) (fun i=>l.length - (intOf i).toNat)
 case atStart=>exact⟨0,Nat.zero_le _,rfl,fun j hj=>by omega⟩
 case round=>
  obtain⟨k,hk,rfl,hc⟩:=hrel
  by_cases hlt:k<l.length
  ·obtain⟨b,off,rfl,hblt,hcell⟩:=HR.out.at (k:=k) (by simpa using hlt)
   have hcl:=hcell k _ (i64s_in hlt)
   have hcle:=HLE.out _ (List.getElem_mem hlt)
   have hg:l[k]=l.getD k 0:=by simp[hlt]
   rw[hg] at hcl hcle
   clear hcell HR HLE hg
   have hnext:Hid (fitS (l.getD k 0) k=true→∀ j,j<k+1→fitS (l.getD j 0) j=true):=fun h j hj=>by
    by_cases e:j=k
    ·rw[e];exact h
    ·exact hc.out j (by omega)
   have hbad:Hid (fitS (l.getD k 0) k=false→ok=false):=fun h=>by
    cases e:ok
    ·rfl
    ·have:=(HI.out.1 e).2 k hlt
     rw[h] at this;cases this
   generalize l.getD k 0=c at *
   have hk1:(k:Int)<(l.length:Int):=by omega
   have HL:=zZ (fun W=>rletter_any c W hcle)
   have HD:=zZ (fun W=>rdigit_any c W hcle)
   unfold fitS at hnext hbad
   clear hc HI
   generalize letS c=lc at *
   generalize digS c=dc at *
   go_wp2_with fail
   refine (HL.out _).mono ?_
   rintro e w2 ⟨rfl,rfl⟩
   go_wp2_with fail
   refine (HD.out _).mono ?_
   rintro e w2 ⟨rfl,rfl⟩
   clear HL HD
   cases lc
   ·cases dc
    ·have Hb:=zZ (hbad.out (by simp))
     clear hnext hbad
     go_wp2
     go_ret
     exact⟨ret_bool Hb.out.symm,HB.out⟩
    ·by_cases hk0:k=0
     ·have Hb:=zZ (hbad.out (by simp[hk0]))
      clear hnext hbad
      have hk0':((k:Int) == 0)=true:=by simp[hk0]
      go_wp2
      go_ret
      exact⟨ret_bool Hb.out.symm,HB.out⟩
     ·have Hn:=zZ (hnext.out (by simp;omega))
      clear hnext hbad
      have hk0':((k:Int) == 0)=false:=by simp;omega
      go_wp2
      go_round
      case rel=>exact⟨k+1,by omega,by go_num,Hn⟩
      case measure=>simp[intOf];omega
   ·have Hn:=zZ (hnext.out (by simp))
    clear hnext hbad
    go_wp2
    go_round
    case rel=>exact⟨k+1,by omega,by go_num,Hn⟩
    case measure=>simp[intOf];omega
  ·obtain rfl:k=l.length:=by omega
   have hfin:ok=(decide (1≤l.length) && decide (l.length≤8)):=by
    rw[Bool.eq_iff_iff,HI.out,Bool.and_eq_true,decide_eq_true_iff,decide_eq_true_iff]
    exact⟨fun h=>h.1,fun h=>⟨h,hc.out⟩⟩
   clear HI hc HR HLE
   by_cases h1:1≤l.length
   ·have h1':decide ((1:Int)≤(l.length:Int))=true:=by simp;omega
    have Hf:Hid (ok=decide (l.length≤8)):=by rw[hfin,zJ h1,Bool.true_and];exact rfl
    clear hfin
    by_cases h8:l.length≤8
    ·have h8':decide ((l.length:Int)≤8)=true:=by simp;omega
     go_wp2
     go_ret
     exact⟨ret_bool (Hf.out.trans (by simp[h8])).symm,HB.out⟩
    ·have h8':decide ((l.length:Int)≤8)=false:=by simp;omega
     go_wp2
     go_ret
     exact⟨ret_bool (Hf.out.trans (by simp[h8])).symm,HB.out⟩
   ·have h1':decide ((1:Int)≤(l.length:Int))=false:=zK (by omega)
    have Hf:Hid (ok=false):=by rw[hfin,zK h1,Bool.false_and];exact rfl
    clear hfin
    go_wp2
    go_ret
    exact⟨ret_bool Hf.out.symm,HB.out⟩
theorem rfind_any (A:Option Addr) (N c:Nat) (l:Sch) (n:ByteArray) (w:World) (h:rSch (All w) w [.slice A N c] l):
  Calls Tryz.prog 104 #[.agg #[.slice A N c],.string n] w fun e w'=>e=.returned (.int .i64 (findS l (byt n)))∧Below w.heap.size w w':=by
 obtain⟨hN,hNc,hcm⟩:=sch_len h
 simp only[maxLen] at hcm
 have hB0:Below w.heap.size w (w.alloc (.cells #[.slice A N c] 24)):=(zA _ w).alloc (zW _) _
 have h0:=sch_below hB0 h
 have c0:=(Blk.new w 24 [.slice A N c]).cell (j:=0) rfl
 clear h
 go_enter Tryz.func104,Tryz.ntmps104
 go_wp2
 generalize w.alloc (.cells #[.slice A N c] 24)=w1 at *
 go_loop [5] (fun iv=>∃ i:Nat,i≤N∧iv=.int .i64 (i:Int)∧∀ j t,j<i→l[j]?=some t→decide (t.1=byt n)=false) (fun iv=>N - (intOf iv).toNat)
 case atStart=>exact⟨0,by omega,rfl,fun j t hj=>by omega⟩
 case round=>
  obtain⟨i,hi,rfl,hno⟩:=hrel
  by_cases hin:i<N
  ·have hli:l[i]?=some l[i]:=zV (by omega)
   obtain⟨b,off,sx,A2,c2,rfl,hb,hx1,hx2,hs,hsz,-⟩:=typ_at h0 hli
   have hil:(i:Int)<(N:Int):=by omega
   have hi0:(0:Int)≤(i:Int):=by omega
   have hbq:=str_beq sx n
   rw[hs] at hbq
   have Hno:=zZ hno
   have Hli:=zZ hli
   clear hno hli hs
   by_cases he:l[i].1=byt n
   ·have Hr:Hid (findS l (byt n)=(i:Int)):=(idxP_iff _ l i).2 ⟨⟨l[i],Hli.out,zJ he⟩,fun j b hj hb=>Hno.out j b hj hb⟩
    rw[zJ he] at hbq
    clear he
    generalize l[i]=t at *
    go_wp2
    go_ret
    exact⟨by rw[Hr.out];rfl,hB0⟩
   ·have Hr:Hid (∀ j t,j<i+1→l[j]?=some t→decide (t.1=byt n)=false):=fun j t hj ht=>by
     by_cases hji:j<i
     ·exact Hno.out j t hji ht
     ·obtain rfl:j=i:=by omega
      rw[Hli.out] at ht
      injection ht with ht
      subst ht
      exact zK he
    rw[zK he] at hbq
    clear he
    generalize l[i]=t at *
    go_wp2
    go_round
    case rel=>exact⟨i+1,by omega,by go_num,Hr.out⟩
    case measure=>simp[intOf];omega
  ·obtain rfl:i=N:=by omega
   have Hr:Hid (findS l (byt n) = -1):=(idxP_none _ l).2 fun t ht=>by
    obtain⟨j,hj⟩:=List.getElem?_of_mem ht
    have:=(List.getElem?_eq_some_iff.1 hj).1
    exact hno j t (by omega) hj
   clear hno
   go_wp2
   go_ret
   exact⟨by rw[Hr.out];rfl,hB0⟩
theorem rfield_any (s:ByteArray) (A:Option Addr) (N c:Nat) (l:List Fld) (n:ByteArray) (w:World) (h:rFlds (All w) w [.slice A N c] l):
  Calls Tryz.prog 105 #[.agg #[.string s,.slice A N c],.string n] w fun e w'=>e=.returned (.int .i64 (fieldS l (byt n)))∧Below w.heap.size w w':=by
 obtain⟨hN,hNc,hcm⟩:=flds_len h
 simp only[maxLen] at hcm
 have hB0:Below w.heap.size w (w.alloc (.cells #[.string s,.slice A N c] 82)):=(zA _ w).alloc (zW _) _
 have h0:=flds_below hB0 h
 have c0:=(Blk.new w 82 [.string s,.slice A N c]).cell (j:=1) rfl
 clear h
 go_enter Tryz.func105,Tryz.ntmps105
 go_wp2
 generalize w.alloc (.cells #[.string s,.slice A N c] 82)=w1 at *
 go_loop [5] (fun iv=>∃ i:Nat,i≤N∧iv=.int .i64 (i:Int)∧∀ j t,j<i→l[j]?=some t→decide (t.1=byt n)=false) (fun iv=>N - (intOf iv).toNat)
 case atStart=>exact⟨0,by omega,rfl,fun j t hj=>by omega⟩
 case round=>
  obtain⟨i,hi,rfl,hno⟩:=hrel
  by_cases hin:i<N
  ·have hli:l[i]?=some l[i]:=zV (by omega)
   obtain⟨b,off,sx,s2,rfl,hb,hx1,hx2,hx3,hs,hs2,hsz,hsz2,hkk⟩:=fld_at h0 hli
   have hil:(i:Int)<(N:Int):=by omega
   have hi0:(0:Int)≤(i:Int):=by omega
   have hbq:=str_beq sx n
   rw[hs] at hbq
   have Hno:=zZ hno
   have Hli:=zZ hli
   clear hno hli hs
   by_cases he:l[i].1=byt n
   ·have Hr:Hid (fieldS l (byt n)=(i:Int)):=(idxP_iff _ l i).2 ⟨⟨l[i],Hli.out,zJ he⟩,fun j b hj hb=>Hno.out j b hj hb⟩
    rw[zJ he] at hbq
    clear he
    generalize l[i]=t at *
    go_wp2
    go_ret
    exact⟨by rw[Hr.out];rfl,hB0⟩
   ·have Hr:Hid (∀ j t,j<i+1→l[j]?=some t→decide (t.1=byt n)=false):=fun j t hj ht=>by
     by_cases hji:j<i
     ·exact Hno.out j t hji ht
     ·obtain rfl:j=i:=by omega
      rw[Hli.out] at ht
      injection ht with ht
      subst ht
      exact zK he
    rw[zK he] at hbq
    clear he
    generalize l[i]=t at *
    go_wp2
    go_round
    case rel=>exact⟨i+1,by omega,by go_num,Hr.out⟩
    case measure=>simp[intOf];omega
  ·obtain rfl:i=N:=by omega
   have Hr:Hid (fieldS l (byt n) = -1):=(idxP_none _ l).2 fun t ht=>by
    obtain⟨j,hj⟩:=List.getElem?_of_mem ht
    have:=(List.getElem?_eq_some_iff.1 hj).1
    exact hno j t (by omega) hj
   clear hno
   go_wp2
   go_ret
   exact⟨by rw[Hr.out];rfl,hB0⟩
def tame (n:List Nat):Prop:=n.length≤1048576
def tameS (s:Sch):Prop:=∀ t∈s,tame t.1∧∀ f∈t.2,tame f.1
theorem rnm_any {n:List Nat} (s:ByteArray) (h:byt s=n) (hn:tame n) (w:World):Calls Tryz.prog 103 #[.string s] w fun e w'=>e=.returned (.bool (mayN n))∧Below w.heap.size w w':=by
 subst h
 exact rnmay_any s w (by unfold tame at hn;rwa [byt_length] at hn)
theorem rsmay_any (A:Option Addr) (N c:Nat) (l:Sch) (w:World) (h:rSch (All w) w [.slice A N c] l) (htame:tameS l):
  Calls Tryz.prog 60 #[.agg #[.slice A N c]] w fun e w'=>e=.returned (.bool (mayS l))∧Below w.heap.size w w':=by
 obtain⟨hN,hNc,hcm⟩:=sch_len h
 simp only[maxLen] at hcm
 have hB0:Below w.heap.size w (w.alloc (.cells #[.slice A N c] 24)):=(zA _ w).alloc (zW _) _
 have Hm:Hid (mayS l=((decide (1≤N) && decide (N≤4)) && allI (mayT l) 0 (l.drop 0))):=by show _=_;rw[mayS,List.drop_zero,hN]
 generalize mayS l=r at *
 go_enter Tryz.func60,Tryz.ntmps60
 go_wp2
 go_loopw [3] (fun iv w'=>∃ i:Nat,i≤N∧iv=.int .i64 (i:Int)∧Below w.heap.size w w'∧Blk w' w.heap.size 24 [.slice A N c]∧Hid (r=((decide (1≤N) && decide (N≤4)) && allI (mayT l) i (l.drop i)))) (fun iv _=>N - (intOf iv).toNat)
 case atStart=>exact⟨0,by omega,rfl,hB0,Blk.new w _ [.slice A N c],Hm⟩
 case round=>
  rename_i iv wr
  obtain⟨i,hi,rfl,hB,b1,hr⟩:=hrel
  clear Hm hB0
  have c0:=b1.cell (j:=0) rfl
  by_cases hin:i<N
  ·have hfi:l[i]?=some l[i]:=zV (by omega)
   obtain⟨b,off,x,A2,c2,rfl,hb,hx1,hx2,hx,hxs,hfs⟩:=typ_at (sch_below hB h) hfi
   have hil:(i:Int)<(N:Int):=by omega
   have hi0:(0:Int)≤(i:Int):=by omega
   have hr':=hr.out
   rw[allI_at hfi,mayT] at hr'
   have Hr:=zZ hr'
   have htm:=htame l[i] (List.getElem_mem _)
   clear hr' hr hfi
   generalize l[i]=t at *
   have hB1:Below wr.heap.size wr (wr.alloc (.cells #[.string x,.slice A2 t.2.length c2] 82)):=(zA _ wr).alloc (zW _) _
   have b3:=Blk.new wr 82 [.string x,.slice A2 t.2.length c2]
   have hfs1:=flds_below hB1 hfs
   have hfl:=flds_len hfs
   simp only[maxLen] at hfl
   have hfl2:t.2.length≤9223372036854775807:=by omega
   have T1:=zZ (fun W=>rnm_any x hx htm.1 W)
   have T2:=zZ (fun W (hW:Below w.heap.size w W)=>rfind_any (some ⟨b,off,none⟩) N c l x W (sch_below hW h))
   rw[hx] at T2
   have H0:=zZ (hB.trans (hB1.mono hB.size))
   have b1':=b1.to hB1
   clear hB b1 hx hfs hfl hB1
   generalize mayN t.1=m1 at *
   generalize hd:decide (findS l t.1=(i:Int))=m2 at *
   have hd2:(findS l t.1 != (i:Int))=!m2:=by rw[← hd];by_cases e:findS l t.1=(i:Int) <;> simp[e]
   clear hd
   generalize findS l t.1=r2 at *
   go_wp2_with fail
   refine (T1.out _).mono ?_
   rintro e w1 ⟨rfl,hB2⟩
   have H1:=zZ (H0.out.trans (hB2.mono H0.out.size))
   cases m1
   ·go_wp2
    go_ret
    exact⟨by rw[Hr.out];simp,H1.out⟩
   have b1w:=b1'.to hB2
   have b3w:Blk w1 wr.heap.size 82 [.string x,.slice A2 t.2.length c2]:=b3.to hB2
   have hfs2:=flds_below hB2 hfs1
   have c1:=b1w.cell (j:=0) rfl
   have c3:=b3w.cell (j:=0) rfl
   clear hB2 hfs1 b3 b1' c0
   go_wp2_with fail
   refine (T2.out _ H1.out).mono ?_
   rintro e w2 ⟨rfl,hB3⟩
   have H2:=zZ (H1.out.trans (hB3.mono H1.out.size))
   cases m2
   ·simp only[Bool.not_false] at hd2
    go_wp2
    go_ret
    exact⟨by rw[Hr.out];simp,H2.out⟩
   simp only[Bool.not_true] at hd2
   have b1x:=b1w.to hB3
   have b3x:=b3w.to hB3
   have hfs3:=flds_below hB3 hfs2
   have d3:=b3x.cell (j:=1) rfl
   clear hB3 b1w b3w hfs2 c1 c3 H1 H0 T1
   have Hr2:Hid (r=((decide (1≤N) && decide (N≤4)) && (mayFs l t.2 && allI (mayT l) (i+1) (l.drop (i+1))))):=zZ (by have:=Hr.out;simpa using this)
   clear Hr
   by_cases h5:t.2.length≤5
   ·have h5':decide ((5:Int)<(t.2.length:Int))=false:=zK (by omega)
    have Hr3:Hid (r=((decide (1≤N) && decide (N≤4)) && (allI (mayF l t.2) 0 (t.2.drop 0) && allI (mayT l) (i+1) (l.drop (i+1))))):=zZ (by rw[Hr2.out,mayFs,zJ h5,Bool.true_and,List.drop_zero])
    clear Hr2
    have hgl:=b3x.lt
    go_wp2
    go_loopw [6] (fun kv w'=>∃ k:Nat,k≤t.2.length∧kv=.int .i64 (k:Int)∧Below w2.heap.size w2 w'∧Hid (r=((decide (1≤N) && decide (N≤4)) && (allI (mayF l t.2) k (t.2.drop k) && allI (mayT l) (i+1) (l.drop (i+1)))))) (fun kv _=>t.2.length - (intOf kv).toNat)
    case atStart=>exact⟨0,by omega,rfl,zA _ _,Hr3⟩
    case round=>
     rename World=>v0
     obtain⟨k,hk,rfl,hC,hr⟩:=hrel
     clear Hr3
     have HC:=zZ (H2.out.trans (hC.mono H2.out.size))
     have e1:=b1x.to hC
     have e3:=b3x.to hC
     have g0:=e3.cell (j:=0) rfl
     have g1:=e3.cell (j:=1) rfl
     by_cases hkl:k<t.2.length
     ·have hfk:t.2[k]?=some t.2[k]:=zV (by omega)
      have hfs4:=flds_below hC hfs3
      obtain⟨bf,of,u,v,rfl,hbf,q1,q2,q3,hu,hv,hus,hvs,hk0,hk1⟩:=fld_at hfs4 hfk
      have hkl2:(k:Int)<(t.2.length:Int):=by omega
      have hkl3:(0:Int)≤(k:Int):=by omega
      have hr':=hr.out
      rw[allI_at hfk,mayF,leadS] at hr'
      have Hq:=zZ hr'
      have hfm:=htm.2 t.2[k] (List.getElem_mem _)
      clear hr' hr hfk
      generalize t.2[k]=f at *
      have hD:Below v0.heap.size v0 (v0.alloc (.cells #[.string u,.int .i64 f.2.1,.string v] 97)):=(zA _ v0).alloc (zW _) _
      have n3:=Blk.new v0 97 [.string u,.int .i64 f.2.1,.string v]
      have U1:=zZ (fun W=>rnm_any u hu hfm W)
      have U2:=zZ (fun W (hW:Below v0.heap.size v0 W)=>rfield_any x (some ⟨bf,of,none⟩) t.2.length c2 t.2 u W (flds_below hW hfs4))
      have U3:=zZ (fun W (hW:Below w.heap.size w W)=>rfind_any (some ⟨b,off,none⟩) N c l v W (sch_below hW h))
      rw[hu] at U2
      rw[hv] at U3
      have e1':=e1.to hD
      have e3':=e3.to hD
      have hvn:=byt_nil_iff v
      rw[hv] at hvn
      have HD:=zZ (hC.trans (hD.mono hC.size))
      clear hu hv hfs4
      generalize mayN f.1=n1 at *
      generalize hd:decide (fieldS t.2 f.1=(k:Int))=n2 at *
      have hd3:(fieldS t.2 f.1 != (k:Int))=!n2:=by rw[← hd];by_cases e:fieldS t.2 f.1=(k:Int) <;> simp[e]
      clear hd
      generalize fieldS t.2 f.1=s2 at *
      generalize f.2.1=kd at *
      generalize decide (f.2.2=[])=em at *
      generalize findS l f.2.2=fl at *
      go_wp2_with fail
      refine (U1.out _).mono ?_
      rintro e v1 ⟨rfl,hE1⟩
      have HE1:=zZ (HD.out.trans (hE1.mono HD.out.size))
      cases n1
      ·go_wp2
       go_ret
       exact⟨by rw[Hq.out];simp,H2.out.trans (HE1.out.mono H2.out.size)⟩
      have x1:=e1'.to hE1
      have x3:=e3'.to hE1
      have y3:Blk v1 v0.heap.size 97 [.string u,.int .i64 kd,.string v]:=n3.to hE1
      have hE1':=hD.trans (hE1.mono hD.size)
      have z0:=x3.cell (j:=0) rfl
      have z1:=x3.cell (j:=1) rfl
      have z2:=y3.cell (j:=0) rfl
      clear hE1 e1' e3' n3
      go_wp2_with fail
      refine (U2.out _ hE1').mono ?_
      rintro e v2 ⟨rfl,hE2⟩
      have HE2:=zZ (HE1.out.trans (hE2.mono HE1.out.size))
      cases n2
      ·simp only[Bool.not_false] at hd3
       go_wp2
       go_ret
       exact⟨by rw[Hq.out];simp,H2.out.trans (HE2.out.mono H2.out.size)⟩
      simp only[Bool.not_true] at hd3
      have x1a:=x1.to hE2
      have x3a:=x3.to hE2
      have y3a:=y3.to hE2
      have z3:=x1a.cell (j:=0) rfl
      have z4:=y3a.cell (j:=1) rfl
      have z5:=y3a.cell (j:=2) rfl
      have HW2:=zZ (H2.out.trans (HE2.out.mono H2.out.size))
      clear hE2 x1 x3 y3 z0 z1 z2 HE1 U1 U2
      by_cases hd0:kd<0
      ·have hd0':decide (kd<0)=true:=zJ hd0
       have Hf:Hid (r=false):=zZ (by rw[Hq.out,if_neg (by omega),zK (p:=0≤kd) (by omega)];simp)
       go_wp2
       go_ret
       exact⟨by rw[Hf.out];rfl,HW2.out⟩
      have hd0':decide (kd<0)=false:=zK hd0
      by_cases hd6:6≤kd
      ·have hd6':decide (6≤kd)=true:=zJ hd6
       have Hf:Hid (r=false):=zZ (by rw[Hq.out,if_neg (by omega),zK (p:=kd<6) (by omega)];simp)
       go_wp2
       go_ret
       exact⟨by rw[Hf.out];rfl,HW2.out⟩
      have hd6':decide (6≤kd)=false:=zK hd6
      by_cases h5k:kd=5
      ·subst h5k
       have hq:=Hq.out
       rw[if_pos rfl] at hq
       have Hq2:=zZ hq
       clear hq Hq
       go_wp2_with fail
       refine (U3.out _ HW2.out).mono ?_
       rintro e v3 ⟨rfl,hE3⟩
       have HE3:=zZ (HE2.out.trans (hE3.mono HE2.out.size))
       by_cases hfl:fl<0
       ·have hfl':decide (fl<0)=true:=zJ hfl
        have Hf:Hid (r=false):=zZ (by rw[Hq2.out,zK (p:=0≤fl) (by omega)];simp)
        go_wp2
        go_ret
        exact⟨by rw[Hf.out];rfl,H2.out.trans (HE3.out.mono H2.out.size)⟩
       ·have hfl':decide (fl<0)=false:=zK hfl
        have z6:=(y3a.to hE3).cell (j:=1) rfl
        have Hn:Hid (r=((decide (1≤N) && decide (N≤4)) && (allI (mayF l t.2) (k+1) (t.2.drop (k+1)) && allI (mayT l) (i+1) (l.drop (i+1))))):=zZ (by rw[Hq2.out,zJ (p:=0≤fl) (by omega)];simp)
        go_wp2
        go_roundw
        case rel=>exact⟨k+1,by omega,by go_num,HE3.out,Hn⟩
        case measure=>simp[intOf];omega
      ·have h5k':(kd == 5)=false:=by simpa using h5k
       have h5k2:(kd != 5)=true:=by simpa using h5k
       have hq:=Hq.out
       rw[if_neg h5k,zJ (p:=0≤kd) (by omega),zJ (p:=kd<6) (by omega)] at hq
       have Hq2:=zZ hq
       clear hq Hq
       cases em
       ·have Hf:Hid (r=false):=zZ (by rw[Hq2.out];simp)
        go_wp2
        go_ret
        exact⟨by rw[Hf.out];rfl,HW2.out⟩
       ·have Hn:Hid (r=((decide (1≤N) && decide (N≤4)) && (allI (mayF l t.2) (k+1) (t.2.drop (k+1)) && allI (mayT l) (i+1) (l.drop (i+1))))):=zZ (by rw[Hq2.out];simp)
        go_wp2
        go_roundw
        case rel=>exact⟨k+1,by omega,by go_num,HE2.out,Hn⟩
        case measure=>simp[intOf];omega
     ·obtain rfl:k=t.2.length:=by omega
      have hr':=hr.out
      rw[allI_end (l:=t.2) (by omega),Bool.true_and] at hr'
      have Hn:=zZ hr'
      clear hr hr'
      go_wp2
      go_roundw
      case rel=>exact⟨i+1,by omega,by go_num,HC.out,e1,Hn⟩
      case measure=>simp[intOf];omega
   ·have h5':decide ((5:Int)<(t.2.length:Int))=true:=zJ (by omega)
    have Hf:Hid (r=false):=zZ (by rw[Hr2.out,mayFs,zK h5];simp)
    go_wp2
    go_ret
    exact⟨by rw[Hf.out];rfl,H2.out⟩
  ·obtain rfl:i=N:=by omega
   have hr':=hr.out
   rw[allI_end (by omega),Bool.and_true] at hr'
   have Hr:=zZ hr'
   clear hr hr'
   by_cases h1:1≤i
   ·have h1':decide ((1:Int)≤(i:Int))=true:=zJ (by omega)
    have Hr2:Hid (r=decide (i≤4)):=zZ (by rw[Hr.out,zJ h1,Bool.true_and])
    go_wp2
    go_ret
    exact⟨by rw[Hr2.out];simp;omega,hB⟩
   ·obtain rfl:i=0:=by omega
    have Hr2:Hid (r=false):=zZ (by rw[Hr.out];rfl)
    go_wp2
    go_ret
    exact⟨by rw[Hr2.out];rfl,hB⟩
theorem rfields_any (A B:Option Addr) (n c m d:Nat) (l1 l2:List Fld) (w:World) (h1:rFlds (All w) w [.slice A n c] l1) (h2:rFlds (All w) w [.slice B m d] l2):
  Calls Tryz.prog 76 #[.slice A n c,.slice B m d] w fun e w'=>e=.returned (.bool (decide (l1=l2)))∧Below w.heap.size w w':=by
 obtain⟨hn,hnc,hcm⟩:=flds_len h1
 obtain⟨hm,hmd,hdm⟩:=flds_len h2
 simp only[maxLen] at hcm hdm
 by_cases hnm:n=m
 ·subst hnm
  have hnn:((n:Int) != (n:Int))=false:=by simp
  go_enter Tryz.func76,Tryz.ntmps76
  go_wp2
  go_loopw [5] (fun iv w'=>∃ i:Nat,i≤n∧iv=.int .i64 (i:Int)∧Below w.heap.size w w'∧(∀ j,j<i→l1[j]?=l2[j]?)) (fun iv _=>n - (intOf iv).toNat)
  case atStart=>exact⟨0,by omega,rfl,zA _ _,fun j hj=>by omega⟩
  case round=>
   rename_i iv wr
   obtain⟨i,hi,rfl,hB,hsame⟩:=hrel
   by_cases hin:i<n
   ·have hl1:l1[i]?=some l1[i]:=zV (by omega)
    have hl2:l2[i]?=some l2[i]:=zV (by omega)
    obtain⟨b1,off1,x1,y1,rfl,hb1,p1,p2,p3,e1,e2,-,-,-⟩:=fld_at (flds_below hB h1) hl1
    obtain⟨b2,off2,x2,y2,rfl,hb2,q1,q2,q3,f1,f2,-,-,-⟩:=fld_at (flds_below hB h2) hl2
    have hil:(i:Int)<(n:Int):=by omega
    have hi0:(0:Int)≤(i:Int):=by omega
    have hq:∀ W,(binOp .neq 97 (.agg #[.string x1,.int .i64 l1[i].2.1,.string y1]) (.agg #[.string x2,.int .i64 l2[i].2.1,.string y2])).run Tryz.prog W=.ok (.bool (!decide (l1[i]=l2[i]))) W:=fun W=>by rw[fld_neq,fld_is e1 e2 f1 f2]
    have heg:=sfld_guard
    have hne:l1[i]≠l2[i]→decide (l1=l2)=false:=fun he=>zK fun e=>he (by subst e;rfl)
    have heq:l1[i]=l2[i]→∀ j,j<i+1→l1[j]?=l2[j]?:=fun he j hj=>by
     by_cases hji:j<i
     ·exact hsame j hji
     ·obtain rfl:j=i:=by omega
      rw[hl1,hl2,he]
    have Hne:=zZ hne
    have Heq:=zZ heq
    have HB:=zZ hB
    clear hne heq hl1 hl2 hsame e1 e2 f1 f2 hB h1 h2
    generalize l1[i]=F1 at *
    generalize l2[i]=F2 at *
    by_cases he:F1=F2
    ·rw[zJ he] at hq
     have Hq:=zZ (Heq.out he)
     clear Heq Hne he
     generalize F1.2.1=k1 at *
     generalize F2.2.1=k2 at *
     go_wp2
     go_quiet (fail)
     go_wp2
     go_roundw
     case rel=>exact⟨i+1,by omega,by go_num,below_drewN HB.out _,Hq.out⟩
     case measure=>simp[intOf];omega
    ·rw[zK he] at hq
     have Hq:=zZ (Hne.out he)
     clear Heq Hne he
     generalize F1.2.1=k1 at *
     generalize F2.2.1=k2 at *
     go_wp2
     go_quiet (fail)
     go_wp2
     go_ret
     exact⟨by rw[Hq.out];rfl,below_drewN HB.out _⟩
   ·obtain rfl:i=n:=by omega
    have heq:l1=l2:=List.ext_getElem? fun j=>by
     by_cases hj:j<i
     ·exact hsame j hj
     ·rw[List.getElem?_eq_none (by omega),List.getElem?_eq_none (by omega)]
    have hd:decide (l1=l2)=true:=zJ heq
    have Hd:=zZ hd
    clear hd hsame heq
    go_wp2
    go_ret
    exact⟨by rw[Hd.out];rfl,hB⟩
 ·have hd:decide (l1=l2)=false:=zK fun e=>hnm (by subst e;omega)
  have hne:((n:Int) != (m:Int))=true:=by rw[bne_iff_ne];omega
  rw[hd]
  go_enter Tryz.func76,Tryz.ntmps76
  go_wp2
  go_ret
  exact⟨rfl,zA _ _⟩
theorem typ_is {x y:Typ}:decide (x=y)=(decide (x.2=y.2) && decide (x.1=y.1)):=by
 obtain⟨a,b⟩:=x
 obtain⟨a',b'⟩:=y
 simp only[Prod.mk.injEq]
 by_cases e1:a=a' <;> by_cases e2:b=b' <;> simp[e1,e2]
theorem rssame_any (A B:Option Addr) (n c m d:Nat) (l1 l2:Sch) (w:World) (h1:rSch (All w) w [.slice A n c] l1) (h2:rSch (All w) w [.slice B m d] l2):
  Calls Tryz.prog 37 #[.agg #[.slice A n c],.agg #[.slice B m d]] w fun e w'=>e=.returned (.bool (decide (l1=l2)))∧Below w.heap.size w w':=by
 obtain⟨hn,hnc,hcm⟩:=sch_len h1
 obtain⟨hm,hmd,hdm⟩:=sch_len h2
 simp only[maxLen] at hcm hdm
 have hB0:Below w.heap.size w ((w.alloc (.cells #[.slice A n c] 24)).alloc (.cells #[.slice B m d] 24)):=((zA _ w).alloc (zW _) _).alloc (by simp) _
 by_cases hnm:n=m
 ·subst hnm
  have hnn:((n:Int) != (n:Int))=false:=by simp
  have bA:=(Blk.new w 24 [.slice A n c]).alloc (.cells #[.slice B n d] 24)
  have bB:=Blk.new (w.alloc (.cells #[.slice A n c] 24)) 24 [.slice B n d]
  simp only[World.size_alloc] at bB
  go_enter Tryz.func37,Tryz.ntmps37
  go_wp2
  go_loopw [5] (fun iv w'=>∃ i:Nat,i≤n∧iv=.int .i64 (i:Int)∧Below w.heap.size w w'∧Blk w' w.heap.size 24 [.slice A n c]∧Blk w' (w.heap.size+1) 24 [.slice B n d]∧(∀ j,j<i→l1[j]?=l2[j]?)) (fun iv _=>n - (intOf iv).toNat)
  case atStart=>exact⟨0,by omega,rfl,hB0,bA,bB,fun j hj=>by omega⟩
  case round=>
   rename_i iv wr
   obtain⟨i,hi,rfl,hB,b1,b2,hsame⟩:=hrel
   have c1:=b1.cell (j:=0) rfl
   have c2:=b2.cell (j:=0) rfl
   clear hB0 bA bB
   by_cases hin:i<n
   ·have hl1:l1[i]?=some l1[i]:=zV (by omega)
    have hl2:l2[i]?=some l2[i]:=zV (by omega)
    obtain⟨g1,off1,x1,A1,cc1,rfl,hb1,p1,p2,e1,-,r1⟩:=typ_at (sch_below hB h1) hl1
    obtain⟨g2,off2,x2,A2,cc2,rfl,hb2,q1,q2,f1,-,r2⟩:=typ_at (sch_below hB h2) hl2
    have hil:(i:Int)<(n:Int):=by omega
    have hi0:(0:Int)≤(i:Int):=by omega
    have hne:l1[i]≠l2[i]→decide (l1=l2)=false:=fun he=>zK fun e=>he (by subst e;rfl)
    have heq:l1[i]=l2[i]→∀ j,j<i+1→l1[j]?=l2[j]?:=fun he j hj=>by
     by_cases hji:j<i
     ·exact hsame j hji
     ·obtain rfl:j=i:=by omega
      rw[hl1,hl2,he]
    have Hne:=zZ hne
    have Heq:=zZ heq
    have HB:=zZ hB
    clear hne heq hl1 hl2 hsame h1 h2 hB
    generalize l1[i]=F1 at *
    generalize l2[i]=F2 at *
    have hty:=typ_is (x:=F1) (y:=F2)
    have hsb:=str_beq x1 x2
    rw[e1,f1] at hsb
    have hdr:Below wr.heap.size wr wr.drew:=(zA _ wr).drew
    have S1:=zZ (rfields_any A1 A2 F1.2.length cc1 F2.2.length cc2 F1.2 F2.2 wr.drew (flds_below hdr r1) (flds_below hdr r2))
    clear r1 r2 e1 f1
    have Hd:Hid (F1=F2↔(decide (F1.2=F2.2) && decide (F1.1=F2.1))=true):=zZ (by rw[← hty,decide_eq_true_iff])
    clear hty
    generalize decide (F1.2=F2.2)=m1 at *
    generalize decide (F1.1=F2.1)=m2 at *
    generalize F1.2.length=k1 at *
    generalize F2.2.length=k2 at *
    go_wp2
    refine sch_start [(0,true),(1,true),(2,true),(3,true),(4,true),(5,true),(6,true),(7,true),(8,true),(9,true),(10,true),(11,true),(12,false),(13,true)]
     (fun W=>W.cell? ⟨w.heap.size,0,none⟩=some (.slice (some ⟨g1,off1,none⟩) n c)∧W.cell? ⟨w.heap.size+1,0,none⟩=some (.slice (some ⟨g2,off2,none⟩) n d)∧W.cell? ⟨g1,off1+i * 2+1,none⟩=some (.slice A1 k1 cc1)∧W.cell? ⟨g2,off2+i * 2+1,none⟩=some (.slice A2 k2 cc2)) (by kernel_rfl) rfl (by kernel_rfl) (fun _ _ _ _ _ h=>h) ⟨c1,c2,p2,q2⟩ (fun hH=>?_)
    repeat (first | (refine sch_yes (v:=?_) rfl rfl ?_ hH ?_;rotate_left;(focus ((rintro W ⟨hW1,hW2,hW3,hW4⟩;go_simp) <;> with_reducible rfl));simp only[Act.put,zY,zX,zQ]) | (refine sch_no rfl rfl hH ?_;simp only[Act.put,zY,zX,zQ]))
    refine sch_call rfl rfl (fun K hK=>?_)
    go_wp2_with (go_at_call 76;refine S1.out.mono ?_;rintro e v1 ⟨rfl,hE1⟩)
    have hE:Below wr.heap.size wr v1:=hdr.trans hE1
    have c1':=(hE.cell (p:=⟨w.heap.size,0,none⟩) b1.lt).trans c1
    have c2':=(hE.cell (p:=⟨w.heap.size+1,0,none⟩) b2.lt).trans c2
    have p1':=(hE.cell (p:=⟨g1,off1+i * 2,none⟩) hb1).trans p1
    have p2':=(hE.cell (p:=⟨g1,off1+i * 2+1,none⟩) hb1).trans p2
    have q1':=(hE.cell (p:=⟨g2,off2+i * 2,none⟩) hb2).trans q1
    have q2':=(hE.cell (p:=⟨g2,off2+i * 2+1,none⟩) hb2).trans q2
    have hH1:=And.intro c1' (And.intro c2' (And.intro p2' q2'))
    refine hK.out _ _ hH1 ?_
    clear hK hH
    have hH:=hH1
    repeat (first | (refine sch_yes (v:=?_) rfl rfl ?_ hH ?_;rotate_left;(focus ((rintro W ⟨hW1,hW2,hW3,hW4⟩;go_simp) <;> with_reducible rfl));simp only[Act.put,zY,zX,zQ]) | (refine sch_no rfl rfl hH ?_;simp only[Act.put,zY,zX,zQ]))
    refine sch_done ?_
    clear hH hH1
    have HE:=zZ (HB.out.trans (hE.mono HB.out.size))
    have b1':=b1.to hE
    have b2':=b2.to hE
    clear hE1 hdr S1
    cases m1
    ·have Hq:=zZ (Hne.out (fun e=>by have:=Hd.out.1 e;simp at this))
     clear Hne Heq Hd
     go_wp2
     go_quiet (fail)
     go_wp2
     go_ret
     exact⟨by rw[Hq.out];rfl,below_drewN HE.out _⟩
    ·cases m2
     ·have Hq:=zZ (Hne.out (fun e=>by have:=Hd.out.1 e;simp at this))
      clear Hne Heq Hd
      go_wp2
      go_quiet (fail)
      go_wp2
      go_ret
      exact⟨by rw[Hq.out];rfl,below_drewN HE.out _⟩
     ·have Hq:=zZ (Heq.out (Hd.out.2 (by simp)))
      clear Hne Heq Hd
      go_wp2
      go_quiet (fail)
      go_wp2
      go_roundw
      case rel=>exact⟨i+1,by omega,by go_num,below_drewN HE.out _,b1'.to (below_drewN (zA _ _) _),b2'.to (below_drewN (zA _ _) _),Hq.out⟩
      case measure=>simp[intOf];omega
   ·obtain rfl:i=n:=by omega
    have heq:l1=l2:=List.ext_getElem? fun j=>by
     by_cases hj:j<i
     ·exact hsame j hj
     ·rw[List.getElem?_eq_none (by omega),List.getElem?_eq_none (by omega)]
    have hd:decide (l1=l2)=true:=zJ heq
    have Hd:=zZ hd
    clear hd hsame heq
    go_wp2
    go_ret
    exact⟨by rw[Hd.out];rfl,hB⟩
 ·have hd:decide (l1=l2)=false:=zK fun e=>hnm (by subst e;omega)
  have hne:((n:Int) != (m:Int))=true:=by rw[bne_iff_ne];omega
  rw[hd]
  go_enter Tryz.func37,Tryz.ntmps37
  go_wp2
  go_ret
  exact⟨rfl,hB0⟩
theorem rvlfits_any (a b s:ByteArray) (k n r:Int) (w:World):
  Calls Tryz.prog 106 #[.agg #[.string a,.int .i64 k,.string b],.agg #[.int .i64 n,.string s,.int .i64 r]] w fun e w'=>e=.returned (.bool (fitsV k (n,byt s,r)))∧Below w.heap.size w w':=by
 have hB:∀ u v,Below w.heap.size w ((w.alloc (.cells u 97)).alloc (.cells v 47)):=fun u v=>((zA _ w).alloc (zW _) _).alloc (by simp) _
 have HB:=zZ hB
 clear hB
 have hse:s.toList.isEmpty=decide (byt s=[]):=by
  rw[str_empty];cases byt s <;> rfl
 have hsz:(byt s).length=s.size:=byt_length s
 rcases vl_kinds k with rfl | rfl | rfl | rfl | rfl | rfl | hk
 ·by_cases hp:byt s=[]
  ·by_cases hq:r=0
   ·by_cases ha0:-128≤n
    ·by_cases hb0:n≤127
     ·have dp:s.toList.isEmpty=true:=by rw[hse];exact zJ hp
      have dq:(r == 0)=true:=by rw[hq];rfl
      have da0:decide (-128≤n)=true:=zJ ha0
      have db0:decide (n≤127)=true:=zJ hb0
      have Hf:Hid (fitsV 0 (n,byt s,r)=true):=zZ (by rw[vl_fits_0];exact zJ ⟨ha0,hb0,hp,hq⟩)
      clear hse hsz hp hq ha0 hb0
      go_enter Tryz.func106,Tryz.ntmps106
      go_wp2
      go_ret
      exact⟨by rw[Hf.out];rfl,HB.out _ _⟩
     ·have dp:s.toList.isEmpty=true:=by rw[hse];exact zJ hp
      have dq:(r == 0)=true:=by rw[hq];rfl
      have da0:decide (-128≤n)=true:=zJ ha0
      have db0:decide (n≤127)=false:=zK hb0
      have Hf:Hid (fitsV 0 (n,byt s,r)=false):=zZ (by rw[vl_fits_0];exact zK fun h=>hb0 h.2.1)
      clear hse hsz hp hq ha0 hb0
      go_enter Tryz.func106,Tryz.ntmps106
      go_wp2
      go_ret
      exact⟨by rw[Hf.out];rfl,HB.out _ _⟩
    ·have dp:s.toList.isEmpty=true:=by rw[hse];exact zJ hp
     have dq:(r == 0)=true:=by rw[hq];rfl
     have da0:decide (-128≤n)=false:=zK ha0
     have Hf:Hid (fitsV 0 (n,byt s,r)=false):=zZ (by rw[vl_fits_0];exact zK fun h=>ha0 h.1)
     clear hse hsz hp hq ha0
     go_enter Tryz.func106,Tryz.ntmps106
     go_wp2
     go_ret
     exact⟨by rw[Hf.out];rfl,HB.out _ _⟩
   ·have dp:s.toList.isEmpty=true:=by rw[hse];exact zJ hp
    have dq:(r == 0)=false:=beq_false_of_ne hq
    have Hf:Hid (fitsV 0 (n,byt s,r)=false):=zZ (by rw[vl_fits_0];exact zK fun h=>hq h.2.2.2)
    clear hse hsz hp hq
    go_enter Tryz.func106,Tryz.ntmps106
    go_wp2
    go_ret
    exact⟨by rw[Hf.out];rfl,HB.out _ _⟩
  ·have dp:s.toList.isEmpty=false:=by rw[hse];exact zK hp
   have Hf:Hid (fitsV 0 (n,byt s,r)=false):=zZ (by rw[vl_fits_0];exact zK fun h=>hp h.2.2.1)
   clear hse hsz hp
   go_enter Tryz.func106,Tryz.ntmps106
   go_wp2
   go_ret
   exact⟨by rw[Hf.out];rfl,HB.out _ _⟩
 ·by_cases hp:byt s=[]
  ·by_cases hq:r=0
   ·by_cases ha1:-32768≤n
    ·by_cases hb1:n≤32767
     ·have dp:s.toList.isEmpty=true:=by rw[hse];exact zJ hp
      have dq:(r == 0)=true:=by rw[hq];rfl
      have da1:decide (-32768≤n)=true:=zJ ha1
      have db1:decide (n≤32767)=true:=zJ hb1
      have Hf:Hid (fitsV 1 (n,byt s,r)=true):=zZ (by rw[vl_fits_1];exact zJ ⟨ha1,hb1,hp,hq⟩)
      clear hse hsz hp hq ha1 hb1
      go_enter Tryz.func106,Tryz.ntmps106
      go_wp2
      go_ret
      exact⟨by rw[Hf.out];rfl,HB.out _ _⟩
     ·have dp:s.toList.isEmpty=true:=by rw[hse];exact zJ hp
      have dq:(r == 0)=true:=by rw[hq];rfl
      have da1:decide (-32768≤n)=true:=zJ ha1
      have db1:decide (n≤32767)=false:=zK hb1
      have Hf:Hid (fitsV 1 (n,byt s,r)=false):=zZ (by rw[vl_fits_1];exact zK fun h=>hb1 h.2.1)
      clear hse hsz hp hq ha1 hb1
      go_enter Tryz.func106,Tryz.ntmps106
      go_wp2
      go_ret
      exact⟨by rw[Hf.out];rfl,HB.out _ _⟩
    ·have dp:s.toList.isEmpty=true:=by rw[hse];exact zJ hp
     have dq:(r == 0)=true:=by rw[hq];rfl
     have da1:decide (-32768≤n)=false:=zK ha1
     have Hf:Hid (fitsV 1 (n,byt s,r)=false):=zZ (by rw[vl_fits_1];exact zK fun h=>ha1 h.1)
     clear hse hsz hp hq ha1
     go_enter Tryz.func106,Tryz.ntmps106
     go_wp2
     go_ret
     exact⟨by rw[Hf.out];rfl,HB.out _ _⟩
   ·have dp:s.toList.isEmpty=true:=by rw[hse];exact zJ hp
    have dq:(r == 0)=false:=beq_false_of_ne hq
    have Hf:Hid (fitsV 1 (n,byt s,r)=false):=zZ (by rw[vl_fits_1];exact zK fun h=>hq h.2.2.2)
    clear hse hsz hp hq
    go_enter Tryz.func106,Tryz.ntmps106
    go_wp2
    go_ret
    exact⟨by rw[Hf.out];rfl,HB.out _ _⟩
  ·have dp:s.toList.isEmpty=false:=by rw[hse];exact zK hp
   have Hf:Hid (fitsV 1 (n,byt s,r)=false):=zZ (by rw[vl_fits_1];exact zK fun h=>hp h.2.2.1)
   clear hse hsz hp
   go_enter Tryz.func106,Tryz.ntmps106
   go_wp2
   go_ret
   exact⟨by rw[Hf.out];rfl,HB.out _ _⟩
 ·by_cases hp:byt s=[]
  ·by_cases hq:r=0
   ·by_cases ha2:-2147483648≤n
    ·by_cases hb2:n≤2147483647
     ·have dp:s.toList.isEmpty=true:=by rw[hse];exact zJ hp
      have dq:(r == 0)=true:=by rw[hq];rfl
      have da2:decide (-2147483648≤n)=true:=zJ ha2
      have db2:decide (n≤2147483647)=true:=zJ hb2
      have Hf:Hid (fitsV 2 (n,byt s,r)=true):=zZ (by rw[vl_fits_2];exact zJ ⟨ha2,hb2,hp,hq⟩)
      clear hse hsz hp hq ha2 hb2
      go_enter Tryz.func106,Tryz.ntmps106
      go_wp2
      go_ret
      exact⟨by rw[Hf.out];rfl,HB.out _ _⟩
     ·have dp:s.toList.isEmpty=true:=by rw[hse];exact zJ hp
      have dq:(r == 0)=true:=by rw[hq];rfl
      have da2:decide (-2147483648≤n)=true:=zJ ha2
      have db2:decide (n≤2147483647)=false:=zK hb2
      have Hf:Hid (fitsV 2 (n,byt s,r)=false):=zZ (by rw[vl_fits_2];exact zK fun h=>hb2 h.2.1)
      clear hse hsz hp hq ha2 hb2
      go_enter Tryz.func106,Tryz.ntmps106
      go_wp2
      go_ret
      exact⟨by rw[Hf.out];rfl,HB.out _ _⟩
    ·have dp:s.toList.isEmpty=true:=by rw[hse];exact zJ hp
     have dq:(r == 0)=true:=by rw[hq];rfl
     have da2:decide (-2147483648≤n)=false:=zK ha2
     have Hf:Hid (fitsV 2 (n,byt s,r)=false):=zZ (by rw[vl_fits_2];exact zK fun h=>ha2 h.1)
     clear hse hsz hp hq ha2
     go_enter Tryz.func106,Tryz.ntmps106
     go_wp2
     go_ret
     exact⟨by rw[Hf.out];rfl,HB.out _ _⟩
   ·have dp:s.toList.isEmpty=true:=by rw[hse];exact zJ hp
    have dq:(r == 0)=false:=beq_false_of_ne hq
    have Hf:Hid (fitsV 2 (n,byt s,r)=false):=zZ (by rw[vl_fits_2];exact zK fun h=>hq h.2.2.2)
    clear hse hsz hp hq
    go_enter Tryz.func106,Tryz.ntmps106
    go_wp2
    go_ret
    exact⟨by rw[Hf.out];rfl,HB.out _ _⟩
  ·have dp:s.toList.isEmpty=false:=by rw[hse];exact zK hp
   have Hf:Hid (fitsV 2 (n,byt s,r)=false):=zZ (by rw[vl_fits_2];exact zK fun h=>hp h.2.2.1)
   clear hse hsz hp
   go_enter Tryz.func106,Tryz.ntmps106
   go_wp2
   go_ret
   exact⟨by rw[Hf.out];rfl,HB.out _ _⟩
 ·by_cases hp:byt s=[]
  ·by_cases hq:r=0
   ·have dp:s.toList.isEmpty=true:=by rw[hse];exact zJ hp
    have dq:(r == 0)=true:=by rw[hq];rfl
    have Hf:Hid (fitsV 3 (n,byt s,r)=true):=zZ (by rw[vl_fits_3];exact zJ ⟨hp,hq⟩)
    clear hse hsz hp hq
    go_enter Tryz.func106,Tryz.ntmps106
    go_wp2
    go_ret
    exact⟨by rw[Hf.out];rfl,HB.out _ _⟩
   ·have dp:s.toList.isEmpty=true:=by rw[hse];exact zJ hp
    have dq:(r == 0)=false:=beq_false_of_ne hq
    have Hf:Hid (fitsV 3 (n,byt s,r)=false):=zZ (by rw[vl_fits_3];exact zK fun h=>hq h.2)
    clear hse hsz hp hq
    go_enter Tryz.func106,Tryz.ntmps106
    go_wp2
    go_ret
    exact⟨by rw[Hf.out];rfl,HB.out _ _⟩
  ·have dp:s.toList.isEmpty=false:=by rw[hse];exact zK hp
   have Hf:Hid (fitsV 3 (n,byt s,r)=false):=zZ (by rw[vl_fits_3];exact zK fun h=>hp h.1)
   clear hse hsz hp
   go_enter Tryz.func106,Tryz.ntmps106
   go_wp2
   go_ret
   exact⟨by rw[Hf.out];rfl,HB.out _ _⟩
 ·by_cases hp:byt s=[]
  ·by_cases hq:r=0
   ·by_cases hl:s.size≤12
    ·by_cases hn0:n=0
     ·have dp:s.toList.isEmpty=true:=by rw[hse];exact zJ hp
      have dq:(r == 0)=true:=by rw[hq];rfl
      have dl:decide ((s.size:Int)≤12)=true:=zJ (by omega)
      have dn0:(n == 0)=true:=by rw[hn0];rfl
      have Hf:Hid (fitsV 4 (n,byt s,r)=true):=zZ (by rw[vl_fits_4];exact zJ ⟨by simp only;omega,hn0,hq⟩)
      clear hse hsz hp hq hl hn0
      go_enter Tryz.func106,Tryz.ntmps106
      go_wp2
      go_ret
      exact⟨by rw[Hf.out];rfl,HB.out _ _⟩
     ·have dp:s.toList.isEmpty=true:=by rw[hse];exact zJ hp
      have dq:(r == 0)=true:=by rw[hq];rfl
      have dl:decide ((s.size:Int)≤12)=true:=zJ (by omega)
      have dn0:(n == 0)=false:=beq_false_of_ne hn0
      have Hf:Hid (fitsV 4 (n,byt s,r)=false):=zZ (by rw[vl_fits_4];exact zK fun h=>hn0 h.2.1)
      clear hse hsz hp hq hl hn0
      go_enter Tryz.func106,Tryz.ntmps106
      go_wp2
      go_ret
      exact⟨by rw[Hf.out];rfl,HB.out _ _⟩
    ·have dp:s.toList.isEmpty=true:=by rw[hse];exact zJ hp
     have dq:(r == 0)=true:=by rw[hq];rfl
     have dl:decide ((s.size:Int)≤12)=false:=zK (by omega)
     have Hf:Hid (fitsV 4 (n,byt s,r)=false):=zZ (by rw[vl_fits_4];exact zK fun h=>hl (by have:=h.1;simp only at this;omega))
     clear hse hsz hp hq hl
     go_enter Tryz.func106,Tryz.ntmps106
     go_wp2
     go_ret
     exact⟨by rw[Hf.out];rfl,HB.out _ _⟩
   ·by_cases hl:s.size≤12
    ·by_cases hn0:n=0
     ·have dp:s.toList.isEmpty=true:=by rw[hse];exact zJ hp
      have dq:(r == 0)=false:=beq_false_of_ne hq
      have dl:decide ((s.size:Int)≤12)=true:=zJ (by omega)
      have dn0:(n == 0)=true:=by rw[hn0];rfl
      have Hf:Hid (fitsV 4 (n,byt s,r)=false):=zZ (by rw[vl_fits_4];exact zK fun h=>hq h.2.2)
      clear hse hsz hp hq hl hn0
      go_enter Tryz.func106,Tryz.ntmps106
      go_wp2
      go_ret
      exact⟨by rw[Hf.out];rfl,HB.out _ _⟩
     ·have dp:s.toList.isEmpty=true:=by rw[hse];exact zJ hp
      have dq:(r == 0)=false:=beq_false_of_ne hq
      have dl:decide ((s.size:Int)≤12)=true:=zJ (by omega)
      have dn0:(n == 0)=false:=beq_false_of_ne hn0
      have Hf:Hid (fitsV 4 (n,byt s,r)=false):=zZ (by rw[vl_fits_4];exact zK fun h=>hn0 h.2.1)
      clear hse hsz hp hq hl hn0
      go_enter Tryz.func106,Tryz.ntmps106
      go_wp2
      go_ret
      exact⟨by rw[Hf.out];rfl,HB.out _ _⟩
    ·have dp:s.toList.isEmpty=true:=by rw[hse];exact zJ hp
     have dq:(r == 0)=false:=beq_false_of_ne hq
     have dl:decide ((s.size:Int)≤12)=false:=zK (by omega)
     have Hf:Hid (fitsV 4 (n,byt s,r)=false):=zZ (by rw[vl_fits_4];exact zK fun h=>hl (by have:=h.1;simp only at this;omega))
     clear hse hsz hp hq hl
     go_enter Tryz.func106,Tryz.ntmps106
     go_wp2
     go_ret
     exact⟨by rw[Hf.out];rfl,HB.out _ _⟩
  ·by_cases hl:s.size≤12
   ·by_cases hn0:n=0
    ·by_cases hq:r=0
     ·have dp:s.toList.isEmpty=false:=by rw[hse];exact zK hp
      have dl:decide ((s.size:Int)≤12)=true:=zJ (by omega)
      have dn0:(n == 0)=true:=by rw[hn0];rfl
      have dq:(r == 0)=true:=by rw[hq];rfl
      have Hf:Hid (fitsV 4 (n,byt s,r)=true):=zZ (by rw[vl_fits_4];exact zJ ⟨by simp only;omega,hn0,hq⟩)
      clear hse hsz hp hl hn0 hq
      go_enter Tryz.func106,Tryz.ntmps106
      go_wp2
      go_ret
      exact⟨by rw[Hf.out];rfl,HB.out _ _⟩
     ·have dp:s.toList.isEmpty=false:=by rw[hse];exact zK hp
      have dl:decide ((s.size:Int)≤12)=true:=zJ (by omega)
      have dn0:(n == 0)=true:=by rw[hn0];rfl
      have dq:(r == 0)=false:=beq_false_of_ne hq
      have Hf:Hid (fitsV 4 (n,byt s,r)=false):=zZ (by rw[vl_fits_4];exact zK fun h=>hq h.2.2)
      clear hse hsz hp hl hn0 hq
      go_enter Tryz.func106,Tryz.ntmps106
      go_wp2
      go_ret
      exact⟨by rw[Hf.out];rfl,HB.out _ _⟩
    ·have dp:s.toList.isEmpty=false:=by rw[hse];exact zK hp
     have dl:decide ((s.size:Int)≤12)=true:=zJ (by omega)
     have dn0:(n == 0)=false:=beq_false_of_ne hn0
     have Hf:Hid (fitsV 4 (n,byt s,r)=false):=zZ (by rw[vl_fits_4];exact zK fun h=>hn0 h.2.1)
     clear hse hsz hp hl hn0
     go_enter Tryz.func106,Tryz.ntmps106
     go_wp2
     go_ret
     exact⟨by rw[Hf.out];rfl,HB.out _ _⟩
   ·have dp:s.toList.isEmpty=false:=by rw[hse];exact zK hp
    have dl:decide ((s.size:Int)≤12)=false:=zK (by omega)
    have Hf:Hid (fitsV 4 (n,byt s,r)=false):=zZ (by rw[vl_fits_4];exact zK fun h=>hl (by have:=h.1;simp only at this;omega))
    clear hse hsz hp hl
    go_enter Tryz.func106,Tryz.ntmps106
    go_wp2
    go_ret
    exact⟨by rw[Hf.out];rfl,HB.out _ _⟩
 ·by_cases hp:byt s=[]
  ·by_cases hq:r=0
   ·by_cases hr0:-1≤r
    ·by_cases hr1:r≤1073741824
     ·by_cases hn0:n=0
      ·have dp:s.toList.isEmpty=true:=by rw[hse];exact zJ hp
       have dq:(r == 0)=true:=by rw[hq];rfl
       have dr0:decide (-1≤r)=true:=zJ hr0
       have dr1:decide (r≤1073741824)=true:=zJ hr1
       have dn0:(n == 0)=true:=by rw[hn0];rfl
       have Hf:Hid (fitsV 5 (n,byt s,r)=true):=zZ (by rw[vl_fits_5];exact zJ ⟨hr0,hr1,hn0,hp⟩)
       clear hse hsz hp hq hr0 hr1 hn0
       go_enter Tryz.func106,Tryz.ntmps106
       go_wp2
       go_ret
       exact⟨by rw[Hf.out];rfl,HB.out _ _⟩
      ·have dp:s.toList.isEmpty=true:=by rw[hse];exact zJ hp
       have dq:(r == 0)=true:=by rw[hq];rfl
       have dr0:decide (-1≤r)=true:=zJ hr0
       have dr1:decide (r≤1073741824)=true:=zJ hr1
       have dn0:(n == 0)=false:=beq_false_of_ne hn0
       have Hf:Hid (fitsV 5 (n,byt s,r)=false):=zZ (by rw[vl_fits_5];exact zK fun h=>hn0 h.2.2.1)
       clear hse hsz hp hq hr0 hr1 hn0
       go_enter Tryz.func106,Tryz.ntmps106
       go_wp2
       go_ret
       exact⟨by rw[Hf.out];rfl,HB.out _ _⟩
     ·have dp:s.toList.isEmpty=true:=by rw[hse];exact zJ hp
      have dq:(r == 0)=true:=by rw[hq];rfl
      have dr0:decide (-1≤r)=true:=zJ hr0
      have dr1:decide (r≤1073741824)=false:=zK hr1
      have Hf:Hid (fitsV 5 (n,byt s,r)=false):=zZ (by rw[vl_fits_5];exact zK fun h=>hr1 h.2.1)
      clear hse hsz hp hq hr0 hr1
      go_enter Tryz.func106,Tryz.ntmps106
      go_wp2
      go_ret
      exact⟨by rw[Hf.out];rfl,HB.out _ _⟩
    ·have dp:s.toList.isEmpty=true:=by rw[hse];exact zJ hp
     have dq:(r == 0)=true:=by rw[hq];rfl
     have dr0:decide (-1≤r)=false:=zK hr0
     have Hf:Hid (fitsV 5 (n,byt s,r)=false):=zZ (by rw[vl_fits_5];exact zK fun h=>hr0 h.1)
     clear hse hsz hp hq hr0
     go_enter Tryz.func106,Tryz.ntmps106
     go_wp2
     go_ret
     exact⟨by rw[Hf.out];rfl,HB.out _ _⟩
   ·by_cases hr0:-1≤r
    ·by_cases hr1:r≤1073741824
     ·by_cases hn0:n=0
      ·have dp:s.toList.isEmpty=true:=by rw[hse];exact zJ hp
       have dq:(r == 0)=false:=beq_false_of_ne hq
       have dr0:decide (-1≤r)=true:=zJ hr0
       have dr1:decide (r≤1073741824)=true:=zJ hr1
       have dn0:(n == 0)=true:=by rw[hn0];rfl
       have Hf:Hid (fitsV 5 (n,byt s,r)=true):=zZ (by rw[vl_fits_5];exact zJ ⟨hr0,hr1,hn0,hp⟩)
       clear hse hsz hp hq hr0 hr1 hn0
       go_enter Tryz.func106,Tryz.ntmps106
       go_wp2
       go_ret
       exact⟨by rw[Hf.out];rfl,HB.out _ _⟩
      ·have dp:s.toList.isEmpty=true:=by rw[hse];exact zJ hp
       have dq:(r == 0)=false:=beq_false_of_ne hq
       have dr0:decide (-1≤r)=true:=zJ hr0
       have dr1:decide (r≤1073741824)=true:=zJ hr1
       have dn0:(n == 0)=false:=beq_false_of_ne hn0
       have Hf:Hid (fitsV 5 (n,byt s,r)=false):=zZ (by rw[vl_fits_5];exact zK fun h=>hn0 h.2.2.1)
       clear hse hsz hp hq hr0 hr1 hn0
       go_enter Tryz.func106,Tryz.ntmps106
       go_wp2
       go_ret
       exact⟨by rw[Hf.out];rfl,HB.out _ _⟩
     ·have dp:s.toList.isEmpty=true:=by rw[hse];exact zJ hp
      have dq:(r == 0)=false:=beq_false_of_ne hq
      have dr0:decide (-1≤r)=true:=zJ hr0
      have dr1:decide (r≤1073741824)=false:=zK hr1
      have Hf:Hid (fitsV 5 (n,byt s,r)=false):=zZ (by rw[vl_fits_5];exact zK fun h=>hr1 h.2.1)
      clear hse hsz hp hq hr0 hr1
      go_enter Tryz.func106,Tryz.ntmps106
      go_wp2
      go_ret
      exact⟨by rw[Hf.out];rfl,HB.out _ _⟩
    ·have dp:s.toList.isEmpty=true:=by rw[hse];exact zJ hp
     have dq:(r == 0)=false:=beq_false_of_ne hq
     have dr0:decide (-1≤r)=false:=zK hr0
     have Hf:Hid (fitsV 5 (n,byt s,r)=false):=zZ (by rw[vl_fits_5];exact zK fun h=>hr0 h.1)
     clear hse hsz hp hq hr0
     go_enter Tryz.func106,Tryz.ntmps106
     go_wp2
     go_ret
     exact⟨by rw[Hf.out];rfl,HB.out _ _⟩
  ·by_cases hr0:-1≤r
   ·by_cases hr1:r≤1073741824
    ·by_cases hn0:n=0
     ·have dp:s.toList.isEmpty=false:=by rw[hse];exact zK hp
      have dr0:decide (-1≤r)=true:=zJ hr0
      have dr1:decide (r≤1073741824)=true:=zJ hr1
      have dn0:(n == 0)=true:=by rw[hn0];rfl
      have Hf:Hid (fitsV 5 (n,byt s,r)=false):=zZ (by rw[vl_fits_5];exact zK fun h=>hp h.2.2.2)
      clear hse hsz hp hr0 hr1 hn0
      go_enter Tryz.func106,Tryz.ntmps106
      go_wp2
      go_ret
      exact⟨by rw[Hf.out];rfl,HB.out _ _⟩
     ·have dp:s.toList.isEmpty=false:=by rw[hse];exact zK hp
      have dr0:decide (-1≤r)=true:=zJ hr0
      have dr1:decide (r≤1073741824)=true:=zJ hr1
      have dn0:(n == 0)=false:=beq_false_of_ne hn0
      have Hf:Hid (fitsV 5 (n,byt s,r)=false):=zZ (by rw[vl_fits_5];exact zK fun h=>hn0 h.2.2.1)
      clear hse hsz hp hr0 hr1 hn0
      go_enter Tryz.func106,Tryz.ntmps106
      go_wp2
      go_ret
      exact⟨by rw[Hf.out];rfl,HB.out _ _⟩
    ·have dp:s.toList.isEmpty=false:=by rw[hse];exact zK hp
     have dr0:decide (-1≤r)=true:=zJ hr0
     have dr1:decide (r≤1073741824)=false:=zK hr1
     have Hf:Hid (fitsV 5 (n,byt s,r)=false):=zZ (by rw[vl_fits_5];exact zK fun h=>hr1 h.2.1)
     clear hse hsz hp hr0 hr1
     go_enter Tryz.func106,Tryz.ntmps106
     go_wp2
     go_ret
     exact⟨by rw[Hf.out];rfl,HB.out _ _⟩
   ·have dp:s.toList.isEmpty=false:=by rw[hse];exact zK hp
    have dr0:decide (-1≤r)=false:=zK hr0
    have Hf:Hid (fitsV 5 (n,byt s,r)=false):=zZ (by rw[vl_fits_5];exact zK fun h=>hr0 h.1)
    clear hse hsz hp hr0
    go_enter Tryz.func106,Tryz.ntmps106
    go_wp2
    go_ret
    exact⟨by rw[Hf.out];rfl,HB.out _ _⟩
 ·have e0:(k == 0)=false:=beq_false_of_ne (by omega)
  have e1:(k == 1)=false:=beq_false_of_ne (by omega)
  have e2:(k == 2)=false:=beq_false_of_ne (by omega)
  have e3:(k == 3)=false:=beq_false_of_ne (by omega)
  have e4:(k == 4)=false:=beq_false_of_ne (by omega)
  have e5:(k == 5)=false:=beq_false_of_ne (by omega)
  by_cases hp:byt s=[]
  ·by_cases hq:r=0
   ·have dp:s.toList.isEmpty=true:=by rw[hse];exact zJ hp
    have dq:(r == 0)=true:=by rw[hq];rfl
    have Hf:Hid (fitsV k (n,byt s,r)=false):=zZ (vl_fits_x hk)
    clear hse hsz hp hq hk
    go_enter Tryz.func106,Tryz.ntmps106
    go_wp2
    go_ret
    exact⟨by rw[Hf.out];rfl,HB.out _ _⟩
   ·have dp:s.toList.isEmpty=true:=by rw[hse];exact zJ hp
    have dq:(r == 0)=false:=beq_false_of_ne hq
    have Hf:Hid (fitsV k (n,byt s,r)=false):=zZ (vl_fits_x hk)
    clear hse hsz hp hq hk
    go_enter Tryz.func106,Tryz.ntmps106
    go_wp2
    go_ret
    exact⟨by rw[Hf.out];rfl,HB.out _ _⟩
  ·have dp:s.toList.isEmpty=false:=by rw[hse];exact zK hp
   have Hf:Hid (fitsV k (n,byt s,r)=false):=zZ (vl_fits_x hk)
   clear hse hsz hp hk
   go_enter Tryz.func106,Tryz.ntmps106
   go_wp2
   go_ret
   exact⟨by rw[Hf.out];rfl,HB.out _ _⟩
theorem rleads_any (A B C:Option Addr) (N c M d K e:Nat) (g:Gr) (x y s:ByteArray) (f:Fld) (v:Vl) (w:World) (h:rGr (All w) w [.slice A N c,.slice B M d,.slice C K e] g) (hy:byt y=f.2.2) (hs:byt s=v.2.1):
  Calls Tryz.prog 62 #[.agg #[.slice A N c,.slice B M d,.slice C K e],.agg #[.string x,.int .i64 f.2.1,.string y],.agg #[.int .i64 v.1,.string s,.int .i64 v.2.2]] w fun e w'=>e=.returned (.bool (haveG g f v))∧Below w.heap.size w w':=by
 have hB0:Below w.heap.size w (((w.alloc (.cells #[.slice A N c,.slice B M d,.slice C K e] 28)).alloc (.cells #[.string x,.int .i64 f.2.1,.string y] 97)).alloc (.cells #[.int .i64 v.1,.string s,.int .i64 v.2.2] 47)):=
  (((zA _ w).alloc (zW _) _).alloc (by simp) _).alloc (by simp;omega) _
 obtain⟨p1,p2,p3⟩:=blk_three w 28 97 47 [.slice A N c,.slice B M d,.slice C K e] [.string x,.int .i64 f.2.1,.string y] [.int .i64 v.1,.string s,.int .i64 v.2.2]
 have T1:=zZ (fun W=>rvlfits_any x y s f.2.1 v.1 v.2.2 W)
 have T2:=zZ (fun W (hW:Below w.heap.size w W)=>rgfind_any A B C N c M d K e g v.2.2 W (gr_below hW h))
 have T3:=zZ (fun W (hW:Below w.heap.size w W)=>rfind_any A N c g.1 y W (sch_below hW (rGr_open h).1))
 rw[hy] at T3
 rw[show (v.1,byt s,v.2.2)=v by rw[hs]] at T1
 have Ho:=zZ (fun W (hW:Below w.heap.size w W)=>(rGr_open (gr_below hW h)).2.1)
 obtain⟨hM,hMd,hdm⟩:=slice_len (rGr_open h).2.1
 simp only[maxLen] at hdm
 have Hv:Hid (haveG g f v=(fitsV f.2.1 v && (decide (f.2.1≠5) || decide (v.2.2 = -1) || (decide (findG g.2.1 v.2.2≠-1) && decide (typG g.2.1 v.2.2=findS g.1 f.2.2))))):=zZ rfl
 clear h hs hy
 have Hf:=zZ (fun h=>findG_at (os:=g.2.1) (id:=v.2.2) h)
 generalize haveG g f v=r at *
 generalize fitsV f.2.1 v=m1 at *
 generalize findG g.2.1 v.2.2=q at *
 generalize typG g.2.1 v.2.2=ty at *
 generalize findS g.1 f.2.2=q2 at *
 generalize f.2.1=k at *
 generalize v.1=n1 at *
 generalize v.2.2=n2 at *
 have HB0:=zZ hB0
 clear hB0
 go_enter Tryz.func62,Tryz.ntmps62
 go_wp2_with fail
 refine (T1.out _).mono ?_
 rintro e w1 ⟨rfl,hB1⟩
 have H1:=zZ (HB0.out.trans (hB1.mono HB0.out.size))
 cases m1
 ·go_wp2
  go_ret
  exact⟨by rw[Hv.out];rfl,H1.out⟩
 replace p1:=p1.to hB1
 replace p2:=p2.to hB1
 replace p3:=p3.to hB1
 clear hB1 HB0 T1
 have c1:=p2.cell (j:=1) rfl
 have c2:=p3.cell (j:=2) rfl
 by_cases h5:k=5
 ·have h5':(k != 5)=false:=by simp[h5]
  by_cases hm:n2 = -1
  ·have hm':(n2 == -1)=true:=by simp[hm]
   have Hr:Hid (r=true):=zZ (by rw[Hv.out];simp[hm])
   clear Hv hm h5
   go_wp2
   go_ret
   exact⟨by rw[Hr.out];rfl,H1.out⟩
  ·have hm':(n2 == -1)=false:=by simp[hm]
   have Hr:Hid (r=(decide (q≠-1) && decide (ty=q2))):=zZ (by rw[Hv.out];simp[hm,h5])
   clear Hv hm h5
   have c3:=p1.cell (j:=0) rfl
   have c4:=p1.cell (j:=1) rfl
   have c5:=p1.cell (j:=2) rfl
   go_wp2_with fail
   refine (T2.out _ H1.out).mono ?_
   rintro e w2 ⟨rfl,hB2⟩
   have H2:=zZ (H1.out.trans (hB2.mono H1.out.size))
   replace p1:=p1.to hB2
   replace p2:=p2.to hB2
   replace p3:=p3.to hB2
   clear hB2 c1 c2 c3 c4 c5 H1
   have c2:=p2.cell (j:=2) rfl
   have c3:=p1.cell (j:=0) rfl
   have c4:=p1.cell (j:=1) rfl
   by_cases hq:q = -1
   ·subst hq
    have Hr2:Hid (r=false):=zZ (by rw[Hr.out];rfl)
    go_wp2
    refine sch_start [(0,true),(1,true),(2,true),(3,true),(4,true),(5,true),(6,true),(7,true),(8,true),(9,true),(10,true),(11,true),(12,true),(13,false),(14,true),(15,true),(16,true)]
     (fun _=>True) (by kernel_rfl) rfl (by kernel_rfl) (fun _ _ _ _ _ h=>h) trivial (fun hH=>?_)
    repeat (first | (refine sch_yes (v:=?_) rfl rfl ?_ hH ?_;rotate_left;(focus ((intro W hW;go_simp) <;> with_reducible rfl));simp only[Act.put,zY,zX,zQ]) | (refine sch_no rfl rfl hH ?_;simp only[Act.put,zY,zX,zQ]))
    refine sch_call_no rfl rfl hH ?_
    repeat (first | (refine sch_yes (v:=?_) rfl rfl ?_ hH ?_;rotate_left;(focus ((intro W hW;go_simp) <;> with_reducible rfl));simp only[Act.put,zY,zX,zQ]) | (refine sch_no rfl rfl hH ?_;simp only[Act.put,zY,zX,zQ]))
    refine sch_done ?_
    clear hH
    go_wp2
    go_ret
    exact⟨by rw[Hr2.out];rfl,H2.out.drew⟩
   ·obtain⟨i,o,hi,ho,-,hty⟩:=Hf.out hq
    obtain⟨b,off,A2,c2',rfl,hb,-,hx2,-,-,-,-⟩:=ob_at (Ho.out _ H2.out) ho
    have hlt:=(List.getElem?_eq_some_iff.1 ho).1
    subst hi
    have hq':decide ((0:Int)≤(i:Int))=true:=zJ (Int.natCast_nonneg i)
    rw[← hty] at hx2
    have hil:(i:Int)<(M:Int):=by omega
    have hi0:(0:Int)≤(i:Int):=by omega
    have hR2:=Hr.out
    rw[zJ hq,Bool.true_and] at hR2
    have Hr2:=zZ hR2
    clear hR2 Hr Hf hty ho hq hlt
    have HB2:=zZ (zA w2.heap.size w2)
    have S0:w2.cell? ⟨w.heap.size+1,2,none⟩=some (.string y)∧w2.cell? ⟨w.heap.size,0,none⟩=some (.slice A N c)∧w2.cell? ⟨w.heap.size,1,none⟩=some (.slice (some ⟨b,off,none⟩) M d)∧w2.cell? ⟨b,off+i * 3+1,none⟩=some (.int .i64 ty):=⟨c2,c3,c4,hx2⟩
    have l1:=p1.lt
    have l2:=p2.lt
    clear c2 c3 c4 hx2
    go_wp2
    refine sch_start [(0,true),(1,true),(2,true),(3,true),(4,true),(5,true),(6,true),(7,true),(8,true),(9,true),(10,true),(11,true),(12,true),(13,false),(14,true),(15,true),(16,true)]
     (fun W=>W.cell? ⟨w.heap.size+1,2,none⟩=some (.string y)∧W.cell? ⟨w.heap.size,0,none⟩=some (.slice A N c)∧W.cell? ⟨w.heap.size,1,none⟩=some (.slice (some ⟨b,off,none⟩) M d)∧W.cell? ⟨b,off+i * 3+1,none⟩=some (.int .i64 ty)) (by kernel_rfl) rfl (by kernel_rfl) (fun _ _ _ _ _ h=>h) S0 (fun hH=>?_)
    repeat (first | (refine sch_yes (v:=?_) rfl rfl ?_ hH ?_;rotate_left;(focus ((rintro W ⟨hW1,hW2,hW3,hW4⟩;go_simp) <;> with_reducible rfl));simp only[Act.put,zY,zX,zQ]) | (refine sch_no rfl rfl hH ?_;simp only[Act.put,zY,zX,zQ]))
    refine sch_call rfl rfl (fun K hK=>?_)
    go_wp2_with (go_at_call 104;refine (T3.out _ H2.out.drew).mono ?_;rintro e w8 ⟨rfl,hC8⟩)
    have hC9:Below w2.heap.size w2 w8:=(zA w2.heap.size w2).drew.trans hC8
    have hH8:=And.intro ((hC9.cell (p:=⟨w.heap.size+1,2,none⟩) l2).trans S0.1) (And.intro ((hC9.cell (p:=⟨w.heap.size,0,none⟩) l1).trans S0.2.1) (And.intro ((hC9.cell (p:=⟨w.heap.size,1,none⟩) l1).trans S0.2.2.1) ((hC9.cell (p:=⟨b,off+i * 3+1,none⟩) hb).trans S0.2.2.2)))
    refine hK.out _ _ hH8 ?_
    clear hK hH
    have hH:=hH8
    repeat (first | (refine sch_yes (v:=?_) rfl rfl ?_ hH ?_;rotate_left;(focus ((rintro W ⟨hW1,hW2,hW3,hW4⟩;go_simp) <;> with_reducible rfl));simp only[Act.put,zY,zX,zQ]) | (refine sch_no rfl rfl hH ?_;simp only[Act.put,zY,zX,zQ]))
    refine sch_done ?_
    clear hH hH8
    go_wp2
    go_ret
    exact⟨by rw[Hr2.out];rfl,H2.out.trans (hC9.mono H2.out.size)⟩
 ·have h5':(k != 5)=true:=by simp[h5]
  have Hr:Hid (r=true):=zZ (by rw[Hv.out];simp[h5])
  clear Hv h5
  go_wp2
  go_ret
  exact⟨by rw[Hr.out];rfl,H1.out⟩
def objTB (g:Gr) (lst:Int) (o:Ob):Bool:=decide (0≤o.1) && decide (o.1≤1073741824) && decide (lst<o.1) && (decide (0≤o.2.1) && decide (o.2.1<(g.1.length:Int))) && decide (o.2.2.length=(fldsG g.1 o.2.1).length)
def lstG (os:List Ob):Nat→Int
 | 0=>-1
 | j+1=>(os.getD j (0,0,[])).1
theorem lst_at {os:List Ob} {j:Nat} {p:Ob} (h:os[j]?=some p):lstG os (j+1)=p.1:=by
 rw[lstG,List.getD_eq_getElem?_getD,h];rfl
theorem robject_any (A B C:Option Addr) (N c M d K e:Nat) (g:Gr) (I:Nat) (o:Ob) (w:World) (h:rGr (All w) w [.slice A N c,.slice B M d,.slice C K e] g) (ho:g.2.1[I]?=some o):
  Calls Tryz.prog 61 #[.agg #[.slice A N c,.slice B M d,.slice C K e],.int .i64 (I:Int)] w fun e w'=>e=.returned (.bool (objTB g (lstG g.2.1 I) o))∧Below w.heap.size w w':=by
 obtain⟨hN,hNc,hcm⟩:=slice_len (rGr_open h).1
 obtain⟨hM,hMd,hdm⟩:=slice_len (rGr_open h).2.1
 simp only[maxLen] at hcm hdm
 have hIM:I<M:=by have:=(List.getElem?_eq_some_iff.1 ho).1;omega
 obtain⟨b,off,A2,cv,rfl,hb,x0,x1,x2,hvs,hb1,hb2⟩:=ob_at (rGr_open h).2.1 ho
 have hB1:Below w.heap.size w ((w.alloc (.cells #[.slice A N c,.slice (some ⟨b,off,none⟩) M d,.slice C K e] 28)).alloc (.cells #[.int .i64 o.1,.int .i64 o.2.1,.slice A2 o.2.2.length cv] 53)):=((zA _ w).alloc (zW _) _).alloc (by simp) _
 have hB0:Below w.heap.size w (w.alloc (.cells #[.slice A N c,.slice (some ⟨b,off,none⟩) M d,.slice C K e] 28)):=(zA _ w).alloc (zW _) _
 obtain⟨p1,p2⟩:=blk_two w 28 53 [.slice A N c,.slice (some ⟨b,off,none⟩) M d,.slice C K e] [.int .i64 o.1,.int .i64 o.2.1,.slice A2 o.2.2.length cv]
 have a1:=(Blk.new w 28 [.slice A N c,.slice (some ⟨b,off,none⟩) M d,.slice C K e]).cell (j:=1) rfl
 have y0:=(hB0.cell (p:=⟨b,off+I * 3,none⟩) hb).trans x0
 have y1:=(hB0.cell (p:=⟨b,off+I * 3+1,none⟩) hb).trans x1
 have y2:=(hB0.cell (p:=⟨b,off+I * 3+2,none⟩) hb).trans x2
 have hvl:o.2.2.length≤9223372036854775807:=by have:=(slice_len hvs).2;simp only[maxLen] at this;omega
 have hil:(I:Int)<(M:Int):=by omega
 have hi0:(0:Int)≤(I:Int):=Int.natCast_nonneg I
 have Hv:Hid (objTB g (lstG g.2.1 I) o=(decide (0≤o.1) && decide (o.1≤1073741824) && decide (lstG g.2.1 I<o.1) && (decide (0≤o.2.1) && decide (o.2.1<(N:Int))) && decide (o.2.2.length=(fldsG g.1 o.2.1).length))):=zZ (by rw[← hN];rfl)
 have HB1:=zZ hB1
 -- the id ahead
 obtain⟨pid,hpre⟩:∃ pid:Int,lstG g.2.1 I=pid∧((I=0∧pid = -1)∨∃ j,I=j+1∧w.cell? ⟨b,off+j * 3,none⟩=some (.int .i64 pid)):=by
  cases I with
  | zero=>exact⟨-1,rfl,.inl ⟨rfl,rfl⟩⟩
  | succ j=>
   obtain⟨p,hp⟩:∃ p,g.2.1[j]?=some p:=⟨_,zV (by omega)⟩
   obtain⟨b9,off9,A9,cv9,hbe,-,z0,-,-,-,-,-⟩:=ob_at (rGr_open h).2.1 hp
   injection hbe with hbe
   injection hbe with e1 e2
   subst e1 e2
   exact⟨p.1,lst_at hp,.inr ⟨j,rfl,z0⟩⟩
 obtain⟨hpid,hpre⟩:=hpre
 generalize objTB g (lstG g.2.1 I) o=r at *
 rw[hpid] at Hv
 -- the type's fields
 have Hty:Hid (0≤o.2.1→o.2.1<(N:Int)→∃ (t bt offt:Nat) (AF:Option Addr) (cF:Nat),o.2.1=(t:Int)∧A=some ⟨bt,offt,none⟩∧bt<w.heap.size∧w.cell? ⟨bt,offt+t * 2+1,none⟩=some (.slice AF (fldsG g.1 o.2.1).length cF)):=zZ fun h1 h2=>by
  obtain⟨t,ht⟩:∃ t:Nat,o.2.1=(t:Int):=⟨o.2.1.toNat,by omega⟩
  obtain⟨ty,hty⟩:∃ ty,g.1[t]?=some ty:=⟨_,zV (by omega)⟩
  obtain⟨bt,offt,st,AF,cF,e,hbt,-,y1,-,-,-⟩:=typ_at (rGr_open h).1 hty
  exact⟨t,bt,offt,AF,cF,ht,e,hbt,by rw[fldsG_at ht hty];exact y1⟩
 have hMb:M≤9223372036854775807:=by omega
 clear h ho hvs hB0 hpid hM hN hMd hNc
 generalize hfl:(fldsG g.1 o.2.1).length=fl at *
 clear hfl
 generalize o.2.2.length=vl at *
 generalize o.1=n1 at *
 generalize o.2.1=n2 at *
 go_enter Tryz.func61,Tryz.ntmps61
 go_wp2
 clear a1 y0 y1 y2
 generalize (w.alloc (.cells #[.slice A N c,.slice (some ⟨b,off,none⟩) M d,.slice C K e] 28)).alloc (.cells #[.int .i64 n1,.int .i64 n2,.slice A2 vl cv] 53)=w1 at *
 have HS:=zZ (fun (W:World) (hW:Below w1.heap.size w1 W)=>And.intro ((p1.to hW).cell (j:=0) rfl) (And.intro ((p1.to hW).cell (j:=1) rfl) (And.intro ((p2.to hW).cell (j:=0) rfl) (And.intro ((p2.to hW).cell (j:=1) rfl) ((p2.to hW).cell (j:=2) rfl)))))
 by_cases c1:n1<0
 ·have k1:decide (n1<0)=true:=zJ c1
  have Hr:Hid (r=false):=zZ (by rw[Hv.out,zK (by omega:¬ 0≤n1)];rfl)
  clear Hv c1
  go_wp2
  refine sch_start [(0,true),(1,true),(2,true),(3,true),(4,true),(5,true),(6,true),(7,true),(8,true),(9,true),(10,true),(11,true),(12,true),(13,true),(14,true),(15,true),(16,true),(17,true),(18,true),(19,true),(20,true),(21,true),(22,true),(23,true),(24,true),(25,true),(26,true),(27,true),(28,true),(29,true),(30,true),(31,true),(32,true),(33,true),(34,true),(35,true),(36,true),(37,true)] (fun W=>Below w1.heap.size w1 W) (by kernel_rfl) rfl (by kernel_rfl) (fun _ _ _ _ _ h=>h) (zA _ w1).drew (fun hH=>?_)
  repeat (first | (refine sch_yes (v:=?_) rfl rfl ?_ hH ?_;rotate_left;(focus ((intro W hW;obtain⟨s0,s1,s2,s3,s4⟩:=HS.out W hW;go_simp) <;> with_reducible rfl));simp only[Act.put,zY,zX,zQ]) | (refine sch_no rfl rfl hH ?_;simp only[Act.put,zY,zX,zQ]))
  refine sch_done ?_
  have HD:=zZ (HB1.out.trans (hH.mono HB1.out.size))
  clear hH
  generalize w1.drew=w2 at *
  go_wp2
  go_ret
  exact⟨by rw[Hr.out];rfl,HD.out⟩
 have k1:decide (n1<0)=false:=zK c1
 by_cases c2:1073741824<n1
 ·have k2:decide (1073741824<n1)=true:=zJ c2
  have Hr:Hid (r=false):=zZ (by rw[Hv.out,zK (by omega:¬ n1≤1073741824)];simp)
  clear Hv c1 c2
  go_wp2
  refine sch_start [(0,true),(1,true),(2,true),(3,true),(4,true),(5,true),(6,true),(7,true),(8,true),(9,true),(10,true),(11,true),(12,true),(13,true),(14,true),(15,true),(16,true),(17,true),(18,true),(19,true),(20,true),(21,true),(22,true),(23,true),(24,true),(25,true),(26,true),(27,true),(28,true),(29,true),(30,true),(31,true),(32,true),(33,true),(34,true),(35,true),(36,true),(37,true)] (fun W=>Below w1.heap.size w1 W) (by kernel_rfl) rfl (by kernel_rfl) (fun _ _ _ _ _ h=>h) (zA _ w1).drew (fun hH=>?_)
  repeat (first | (refine sch_yes (v:=?_) rfl rfl ?_ hH ?_;rotate_left;(focus ((intro W hW;obtain⟨s0,s1,s2,s3,s4⟩:=HS.out W hW;go_simp) <;> with_reducible rfl));simp only[Act.put,zY,zX,zQ]) | (refine sch_no rfl rfl hH ?_;simp only[Act.put,zY,zX,zQ]))
  refine sch_done ?_
  have HD:=zZ (HB1.out.trans (hH.mono HB1.out.size))
  clear hH
  generalize w1.drew=w2 at *
  go_wp2
  go_ret
  exact⟨by rw[Hr.out];rfl,HD.out⟩
 have k2:decide (1073741824<n1)=false:=zK c2
 have q1:decide (0≤n1)=true:=zJ (by omega)
 have q2:decide (n1≤1073741824)=true:=zJ (by omega)
 rcases hpre with⟨rfl,rfl⟩ | ⟨j,rfl,z0⟩
 ·have q3:decide ((-1:Int)<n1)=true:=zJ (by omega)
  by_cases c4:n2<0
  ·have k4:decide (n2<0)=true:=zJ c4
   have Hr:Hid (r=false):=zZ (by rw[Hv.out,zK (by omega:¬ 0≤n2)];simp)
   clear Hv c1 c2 c4
   go_wp2
   refine sch_start [(0,true),(1,true),(2,true),(3,true),(4,true),(5,true),(6,true),(7,true),(8,true),(9,true),(10,true),(11,true),(12,true),(13,true),(14,true),(15,true),(16,true),(17,true),(18,true),(19,true),(20,true),(21,true),(22,true),(23,true),(24,true),(25,true),(26,true),(27,true),(28,true),(29,true),(30,true),(31,true),(32,true),(33,true),(34,true),(35,true),(36,true),(37,true)] (fun W=>Below w1.heap.size w1 W) (by kernel_rfl) rfl (by kernel_rfl) (fun _ _ _ _ _ h=>h) (zA _ w1).drew (fun hH=>?_)
   repeat (first | (refine sch_yes (v:=?_) rfl rfl ?_ hH ?_;rotate_left;(focus ((intro W hW;obtain⟨s0,s1,s2,s3,s4⟩:=HS.out W hW;go_simp) <;> with_reducible rfl));simp only[Act.put,zY,zX,zQ]) | (refine sch_no rfl rfl hH ?_;simp only[Act.put,zY,zX,zQ]))
   refine sch_done ?_
   have HD:=zZ (HB1.out.trans (hH.mono HB1.out.size))
   clear hH
   generalize w1.drew=w2 at *
   go_wp2
   go_ret
   exact⟨by rw[Hr.out];rfl,HD.out⟩
  have k4:decide (n2<0)=false:=zK c4
  by_cases c5:(N:Int)≤n2
  ·have k5:decide ((N:Int)≤n2)=true:=zJ c5
   have Hr:Hid (r=false):=zZ (by rw[Hv.out,zK (by omega:¬ n2<(N:Int))];simp)
   clear Hv c1 c2 c4 c5
   go_wp2
   refine sch_start [(0,true),(1,true),(2,true),(3,true),(4,true),(5,true),(6,true),(7,true),(8,true),(9,true),(10,true),(11,true),(12,true),(13,true),(14,true),(15,true),(16,true),(17,true),(18,true),(19,true),(20,true),(21,true),(22,true),(23,true),(24,true),(25,true),(26,true),(27,true),(28,true),(29,true),(30,true),(31,true),(32,true),(33,true),(34,true),(35,true),(36,true),(37,true)] (fun W=>Below w1.heap.size w1 W) (by kernel_rfl) rfl (by kernel_rfl) (fun _ _ _ _ _ h=>h) (zA _ w1).drew (fun hH=>?_)
   repeat (first | (refine sch_yes (v:=?_) rfl rfl ?_ hH ?_;rotate_left;(focus ((intro W hW;obtain⟨s0,s1,s2,s3,s4⟩:=HS.out W hW;go_simp) <;> with_reducible rfl));simp only[Act.put,zY,zX,zQ]) | (refine sch_no rfl rfl hH ?_;simp only[Act.put,zY,zX,zQ]))
   refine sch_done ?_
   have HD:=zZ (HB1.out.trans (hH.mono HB1.out.size))
   clear hH
   generalize w1.drew=w2 at *
   go_wp2
   go_ret
   exact⟨by rw[Hr.out];rfl,HD.out⟩
  have k5:decide ((N:Int)≤n2)=false:=zK c5
  obtain⟨t,bt,offt,AF,cF,rfl,rfl,hbt,ty1⟩:=Hty.out (by omega) (by omega)
  have k5':decide (N≤t)=false:=zK (by omega)
  have hr:r=decide (vl=fl):=by rw[Hv.out,q1,q2,q3,zJ (by omega:(0:Int)≤(t:Int)),zJ (by omega:(t:Int)<(N:Int))];rfl
  have htl:(t:Int)<(N:Int):=by omega
  have ht0:(0:Int)≤(t:Int):=Int.natCast_nonneg t
  have hvf:((vl:Int) == (fl:Int))=decide (vl=fl):=by by_cases hh:vl=fl <;> simp[hh] <;> omega
  have HS2:=zZ (fun (W:World) (hW:Below w1.heap.size w1 W)=>And.intro (HS.out W hW) (((HB1.out.trans (hW.mono HB1.out.size)).cell (p:=⟨bt,offt+t * 2+1,none⟩) hbt).trans ty1))
  have Hr:=zZ hr
  clear Hv c1 c2 c4 c5 hr Hty
  generalize decide (vl=fl)=rr at *
  go_wp2
  refine sch_start [(0,true),(1,true),(2,true),(3,true),(4,true),(5,true),(6,true),(7,true),(8,true),(9,true),(10,true),(11,true),(12,true),(13,true),(14,true),(15,true),(16,true),(17,true),(18,true),(19,true),(20,true),(21,true),(22,true),(23,true),(24,true),(25,true),(26,true),(27,true),(28,true),(29,true),(30,true),(31,true),(32,true),(33,true),(34,true),(35,true),(36,true),(37,true)] (fun W=>Below w1.heap.size w1 W) (by kernel_rfl) rfl (by kernel_rfl) (fun _ _ _ _ _ h=>h) (zA _ w1).drew (fun hH=>?_)
  repeat (first | (refine sch_yes (v:=?_) rfl rfl ?_ hH ?_;rotate_left;(focus ((intro W hW;obtain⟨s0,s1,s2,s3,s4⟩:=HS.out W hW;go_simp) <;> with_reducible rfl));simp only[Act.put,zY,zX,zQ]) | (refine sch_no rfl rfl hH ?_;simp only[Act.put,zY,zX,zQ]))
  refine sch_done ?_
  have HD:=zZ (HB1.out.trans (hH.mono HB1.out.size))
  have HC:=zZ hH
  clear hH
  generalize w1.drew=w2 at *
  have HS3:=zZ (fun (W:World) (hW:Below w2.heap.size w2 W)=>HS2.out W (HC.out.trans (hW.mono HC.out.size)))
  go_wp2
  refine sch_start [(0,true),(1,true),(2,true),(3,true),(4,true),(5,true),(6,true),(7,true),(8,true),(9,true),(10,true),(11,true),(12,true),(13,true)] (fun W=>Below w2.heap.size w2 W) (by kernel_rfl) rfl (by kernel_rfl) (fun _ _ _ _ _ h=>h) (zA _ w2).drew (fun hH=>?_)
  repeat (first | (refine sch_yes (v:=?_) rfl rfl ?_ hH ?_;rotate_left;(focus ((intro W hW;obtain⟨⟨s0,s1,s2,s3,s4⟩,s5⟩:=HS3.out W hW;go_simp) <;> with_reducible rfl));simp only[Act.put,zY,zX,zQ]) | (refine sch_no rfl rfl hH ?_;simp only[Act.put,zY,zX,zQ]))
  refine sch_done ?_
  have HE:=zZ (HD.out.trans (hH.mono HD.out.size))
  clear hH
  go_wp2
  go_ret
  exact⟨by rw[Hr.out];rfl,HE.out⟩
 ·have e1:IntKind.i64.wrap (j:Int)=(j:Int):=IntWalk.i64_in _ (by omega)
  have e2:decide ((0:Int)<((j+1:Nat):Int))=true:=zJ (by omega)
  have e3:(j:Int)<(M:Int):=by omega
  have e4:(0:Int)≤(j:Int):=Int.natCast_nonneg j
  replace HS:=zZ (fun (W:World) (hW:Below w1.heap.size w1 W)=>(show _∧_∧_∧_∧_ from HS.out W hW))
  have Hz:=zZ (fun (W:World) (hW:Below w1.heap.size w1 W)=>((HB1.out.trans (hW.mono HB1.out.size)).cell (p:=⟨b,off+j * 3,none⟩) hb).trans z0)
  by_cases c3:n1≤pid
  ·have k3:decide (n1≤pid)=true:=zJ c3
   have Hr:Hid (r=false):=zZ (by rw[Hv.out,zK (by omega:¬ pid<n1)];simp)
   clear Hv c1 c2 c3
   go_wp2
   refine sch_start [(0,true),(1,true),(2,true),(3,true),(4,true),(5,true),(6,true),(7,true),(8,true),(9,true),(10,true),(11,true),(12,true),(13,true),(14,true),(15,true),(16,true),(17,true),(18,true),(19,true),(20,true),(21,true),(22,true),(23,true),(24,true),(25,true),(26,true),(27,true),(28,true),(29,true),(30,true),(31,true),(32,true),(33,true),(34,true),(35,true),(36,true),(37,true)] (fun W=>Below w1.heap.size w1 W) (by kernel_rfl) rfl (by kernel_rfl) (fun _ _ _ _ _ h=>h) (zA _ w1).drew (fun hH=>?_)
   repeat (first | (refine sch_yes (v:=?_) rfl rfl ?_ hH ?_;rotate_left;(focus ((intro W hW;obtain⟨s0,s1,s2,s3,s4⟩:=HS.out W hW;have s6:=Hz.out W hW;go_simp) <;> with_reducible rfl));simp only[Act.put,zY,zX,zQ]) | (refine sch_no rfl rfl hH ?_;simp only[Act.put,zY,zX,zQ]))
   refine sch_done ?_
   have HD:=zZ (HB1.out.trans (hH.mono HB1.out.size))
   clear hH
   generalize w1.drew=w2 at *
   go_wp2
   go_ret
   exact⟨by rw[Hr.out];rfl,HD.out⟩
  have k3:decide (n1≤pid)=false:=zK c3
  have q3:decide (pid<n1)=true:=zJ (by omega)
  clear c3
  by_cases c4:n2<0
  ·have k4:decide (n2<0)=true:=zJ c4
   have Hr:Hid (r=false):=zZ (by rw[Hv.out,zK (by omega:¬ 0≤n2)];simp)
   clear Hv c1 c2 c4
   go_wp2
   refine sch_start [(0,true),(1,true),(2,true),(3,true),(4,true),(5,true),(6,true),(7,true),(8,true),(9,true),(10,true),(11,true),(12,true),(13,true),(14,true),(15,true),(16,true),(17,true),(18,true),(19,true),(20,true),(21,true),(22,true),(23,true),(24,true),(25,true),(26,true),(27,true),(28,true),(29,true),(30,true),(31,true),(32,true),(33,true),(34,true),(35,true),(36,true),(37,true)] (fun W=>Below w1.heap.size w1 W) (by kernel_rfl) rfl (by kernel_rfl) (fun _ _ _ _ _ h=>h) (zA _ w1).drew (fun hH=>?_)
   repeat (first | (refine sch_yes (v:=?_) rfl rfl ?_ hH ?_;rotate_left;(focus ((intro W hW;obtain⟨s0,s1,s2,s3,s4⟩:=HS.out W hW;have s6:=Hz.out W hW;go_simp) <;> with_reducible rfl));simp only[Act.put,zY,zX,zQ]) | (refine sch_no rfl rfl hH ?_;simp only[Act.put,zY,zX,zQ]))
   refine sch_done ?_
   have HD:=zZ (HB1.out.trans (hH.mono HB1.out.size))
   clear hH
   generalize w1.drew=w2 at *
   go_wp2
   go_ret
   exact⟨by rw[Hr.out];rfl,HD.out⟩
  have k4:decide (n2<0)=false:=zK c4
  by_cases c5:(N:Int)≤n2
  ·have k5:decide ((N:Int)≤n2)=true:=zJ c5
   have Hr:Hid (r=false):=zZ (by rw[Hv.out,zK (by omega:¬ n2<(N:Int))];simp)
   clear Hv c1 c2 c4 c5
   go_wp2
   refine sch_start [(0,true),(1,true),(2,true),(3,true),(4,true),(5,true),(6,true),(7,true),(8,true),(9,true),(10,true),(11,true),(12,true),(13,true),(14,true),(15,true),(16,true),(17,true),(18,true),(19,true),(20,true),(21,true),(22,true),(23,true),(24,true),(25,true),(26,true),(27,true),(28,true),(29,true),(30,true),(31,true),(32,true),(33,true),(34,true),(35,true),(36,true),(37,true)] (fun W=>Below w1.heap.size w1 W) (by kernel_rfl) rfl (by kernel_rfl) (fun _ _ _ _ _ h=>h) (zA _ w1).drew (fun hH=>?_)
   repeat (first | (refine sch_yes (v:=?_) rfl rfl ?_ hH ?_;rotate_left;(focus ((intro W hW;obtain⟨s0,s1,s2,s3,s4⟩:=HS.out W hW;have s6:=Hz.out W hW;go_simp) <;> with_reducible rfl));simp only[Act.put,zY,zX,zQ]) | (refine sch_no rfl rfl hH ?_;simp only[Act.put,zY,zX,zQ]))
   refine sch_done ?_
   have HD:=zZ (HB1.out.trans (hH.mono HB1.out.size))
   clear hH
   generalize w1.drew=w2 at *
   go_wp2
   go_ret
   exact⟨by rw[Hr.out];rfl,HD.out⟩
  have k5:decide ((N:Int)≤n2)=false:=zK c5
  obtain⟨t,bt,offt,AF,cF,rfl,rfl,hbt,ty1⟩:=Hty.out (by omega) (by omega)
  have k5':decide (N≤t)=false:=zK (by omega)
  have hr:r=decide (vl=fl):=by rw[Hv.out,q1,q2,q3,zJ (by omega:(0:Int)≤(t:Int)),zJ (by omega:(t:Int)<(N:Int))];rfl
  have htl:(t:Int)<(N:Int):=by omega
  have ht0:(0:Int)≤(t:Int):=Int.natCast_nonneg t
  have hvf:((vl:Int) == (fl:Int))=decide (vl=fl):=by by_cases hh:vl=fl <;> simp[hh] <;> omega
  have HS2:=zZ (fun (W:World) (hW:Below w1.heap.size w1 W)=>And.intro (HS.out W hW) (((HB1.out.trans (hW.mono HB1.out.size)).cell (p:=⟨bt,offt+t * 2+1,none⟩) hbt).trans ty1))
  have Hr:=zZ hr
  clear Hv c1 c2 c4 c5 hr Hty
  generalize decide (vl=fl)=rr at *
  go_wp2
  refine sch_start [(0,true),(1,true),(2,true),(3,true),(4,true),(5,true),(6,true),(7,true),(8,true),(9,true),(10,true),(11,true),(12,true),(13,true),(14,true),(15,true),(16,true),(17,true),(18,true),(19,true),(20,true),(21,true),(22,true),(23,true),(24,true),(25,true),(26,true),(27,true),(28,true),(29,true),(30,true),(31,true),(32,true),(33,true),(34,true),(35,true),(36,true),(37,true)] (fun W=>Below w1.heap.size w1 W) (by kernel_rfl) rfl (by kernel_rfl) (fun _ _ _ _ _ h=>h) (zA _ w1).drew (fun hH=>?_)
  repeat (first | (refine sch_yes (v:=?_) rfl rfl ?_ hH ?_;rotate_left;(focus ((intro W hW;obtain⟨s0,s1,s2,s3,s4⟩:=HS.out W hW;have s6:=Hz.out W hW;go_simp) <;> with_reducible rfl));simp only[Act.put,zY,zX,zQ]) | (refine sch_no rfl rfl hH ?_;simp only[Act.put,zY,zX,zQ]))
  refine sch_done ?_
  have HD:=zZ (HB1.out.trans (hH.mono HB1.out.size))
  have HC:=zZ hH
  clear hH
  generalize w1.drew=w2 at *
  have HS3:=zZ (fun (W:World) (hW:Below w2.heap.size w2 W)=>HS2.out W (HC.out.trans (hW.mono HC.out.size)))
  go_wp2
  refine sch_start [(0,true),(1,true),(2,true),(3,true),(4,true),(5,true),(6,true),(7,true),(8,true),(9,true),(10,true),(11,true),(12,true),(13,true)] (fun W=>Below w2.heap.size w2 W) (by kernel_rfl) rfl (by kernel_rfl) (fun _ _ _ _ _ h=>h) (zA _ w2).drew (fun hH=>?_)
  repeat (first | (refine sch_yes (v:=?_) rfl rfl ?_ hH ?_;rotate_left;(focus ((intro W hW;obtain⟨⟨s0,s1,s2,s3,s4⟩,s5⟩:=HS3.out W hW;go_simp) <;> with_reducible rfl));simp only[Act.put,zY,zX,zQ]) | (refine sch_no rfl rfl hH ?_;simp only[Act.put,zY,zX,zQ]))
  refine sch_done ?_
  have HE:=zZ (HD.out.trans (hH.mono HD.out.size))
  clear hH
  go_wp2
  go_ret
  exact⟨by rw[Hr.out];rfl,HE.out⟩
end Go.Proofs.YtnljjnkindjeoaaGreatDoor
namespace Go.Proofs.YtnljjnkindjeoaaGreatDoor
theorem objTB_may {g:Gr} (hm:mayG g=true) {I:Nat} {o:Ob} (ho:g.2.1[I]?=some o):objTB g (lstG g.2.1 I) o=true:=by
 have mo:=mayG_obj hm (List.mem_of_getElem? ho)
 have hl:lstG g.2.1 I<o.1:=by
  cases I with
  | zero=>have:=mo.id0;rw[lstG];omega
  | succ j=>
   have hlt:=(List.getElem?_eq_some_iff.1 ho).1
   obtain⟨p,hp⟩:∃ p,g.2.1[j]?=some p:=⟨_,zV (by omega)⟩
   rw[lst_at hp]
   have hs:=mayG_sorted hm
   rw[List.pairwise_iff_getElem] at hs
   have:=hs j (j+1) (by omega) hlt (by omega)
   rw[(List.getElem?_eq_some_iff.1 ho).2,(List.getElem?_eq_some_iff.1 hp).2] at this
   exact this
 have h1:=mo.id0
 have h2:=mo.id1
 have h3:=mo.t0
 have h4:=mo.t1
 have h5:=mo.len
 rw[objTB,zJ h1,zJ h2,zJ hl,zJ h3,zJ h4,zJ h5.symm]
 rfl
theorem objTB_parts {g:Gr} {l:Int} {o:Ob} (h:objTB g l o=true):0≤o.1∧o.1≤1073741824∧l<o.1∧0≤o.2.1∧o.2.1<(g.1.length:Int)∧(fldsG g.1 o.2.1).length=o.2.2.length:=by
 rw[objTB] at h
 simp only[Bool.and_eq_true,decide_eq_true_eq] at h
 exact⟨h.1.1.1.1,h.1.1.1.2,h.1.1.2,h.1.2.1,h.1.2.2,h.2.symm⟩
theorem rise_of {g:Gr} {l:List Ob} (h:∀ (I:Nat) o,l[I]?=some o→lstG l I<o.1∧o.1≤1073741824∧mayO g o=true):∀ (n i:Nat),l.length - i=n→riseG g (lstG l i) (l.drop i)=true
 | 0,i,hn=>riseG_end (by omega)
 | n+1,i,hn=>by
  obtain⟨o,ho⟩:∃ o,l[i]?=some o:=⟨_,zV (by omega)⟩
  obtain⟨h1,h2,h3⟩:=h i o ho
  rw[riseG_at ho,zJ h1,zJ h2,h3,← lst_at ho,rise_of h n (i+1) (by omega)]
  rfl
theorem may_all {g:Gr} (h1:mayS g.1=true) (h2:g.2.1.length≤8) (h3:g.2.2.length≤3) (h4:∀ (I:Nat) o,I<g.2.1.length→g.2.1[I]?=some o→objTB g (lstG g.2.1 I) o=true)
  (h5:∀ (I:Nat) o (k:Nat) f v,I<g.2.1.length→g.2.1[I]?=some o→(fldsG g.1 o.2.1)[k]?=some f→o.2.2[k]?=some v→haveG g f v=true) (h6:∀ (j:Nat) r,j<g.2.2.length→g.2.2[j]?=some r→rootG g.2.1 r=true):mayG g=true:=by
 have hr:riseG g (-1) g.2.1=true:=by
  have:=rise_of (g:=g) (l:=g.2.1) (fun I o ho=>by
   have hlt:=(List.getElem?_eq_some_iff.1 ho).1
   obtain⟨a1,a2,a3,a4,a5,a6⟩:=objTB_parts (h4 I o hlt ho)
   exact⟨a3,a2,mayO_iff.2 ⟨⟨a4,a5⟩,a6,fun k f v hf hv=>h5 I o k f v hlt ho hf hv⟩⟩) g.2.1.length 0 (by omega)
  exact this
 rw[mayG,mayOs,mayRs,h1,hr,zJ h2,zJ h3]
 have:g.2.2.all (rootG g.2.1)=true:=List.all_eq_true.2 fun r hr=>by
  obtain⟨j,hj⟩:=List.getElem?_of_mem hr
  exact h6 j r (List.getElem?_eq_some_iff.1 hj).1 hj
 rw[this]
 rfl
end Go.Proofs.YtnljjnkindjeoaaGreatDoor
namespace Go.Proofs.YtnljjnkindjeoaaGreatDoor
open Go.RowKit
theorem rgmay_any (A B C:Option Addr) (N c M d K e:Nat) (g:Gr) (w:World) (h:rGr (All w) w [.slice A N c,.slice B M d,.slice C K e] g) (htame:tameS g.1):
  Calls Tryz.prog 25 #[.agg #[.slice A N c,.slice B M d,.slice C K e]] w fun e w'=>e=.returned (.bool (mayG g))∧Below w.heap.size w w':=by
 obtain⟨hN,-,-⟩:=slice_len (rGr_open h).1
 obtain⟨hM,hMd,hdm⟩:=slice_len (rGr_open h).2.1
 obtain⟨hK,hKe,hem⟩:=slice_len (rGr_open h).2.2
 simp only[maxLen] at hdm hem
 have hB0:Below w.heap.size w (w.alloc (.cells #[.slice A N c,.slice B M d,.slice C K e] 28)):=(zA _ w).alloc (zW _) _
 have p1:=Blk.new w 28 [.slice A N c,.slice B M d,.slice C K e]
 have TS:=zZ (fun W (hW:Below w.heap.size w W)=>rsmay_any A N c g.1 W (sch_below hW (rGr_open h).1) htame)
 have TO:=zZ (fun W (hW:Below w.heap.size w W) I o ho=>robject_any A B C N c M d K e g I o W (gr_below hW h) ho)
 have TL:=zZ (fun W (hW:Below w.heap.size w W) x y s f v hy hs=>rleads_any A B C N c M d K e g x y s f v W (gr_below hW h) hy hs)
 have TG:=zZ (fun W (hW:Below w.heap.size w W) x=>rgfind_any A B C N c M d K e g x W (gr_below hW h))
 have Hg:=zZ (fun W (hW:Below w.heap.size w W)=>gr_below hW h)
 have Hobj:=zZ (fun I o ho (hf:objTB g (lstG g.2.1 I) o=false)=>(show mayG g=false by
  cases hm:mayG g
  ·rfl
  ·rw[objTB_may hm (I:=I) (o:=o) ho] at hf;cases hf))
 have Hlead:=zZ (fun o (ho:o∈g.2.1) k f v h1 h2 (hf:haveG g f v=false)=>(show mayG g=false by
  cases hm:mayG g
  ·rfl
  ·rw[(mayG_obj hm ho).have' k f v h1 h2] at hf;cases hf))
 have Hroot:=zZ (fun r (hr:r∈g.2.2) (hf:rootG g.2.1 r=false)=>(show mayG g=false by
  cases hm:mayG g
  ·rfl
  ·rw[(mayG_parts hm).2.2.2.2 r hr] at hf;cases hf))
 have Hs:Hid (mayS g.1=false→mayG g=false):=zZ fun hf=>by
  cases hm:mayG g
  ·rfl
  ·rw[(mayG_parts hm).1] at hf;cases hf
 have H8:Hid (8<M→mayG g=false):=zZ fun hf=>by
  cases hm:mayG g
  ·rfl
  ·have:=(mayG_parts hm).2.1;omega
 have H3:Hid (3<K→mayG g=false):=zZ fun hf=>by
  cases hm:mayG g
  ·rfl
  ·have:=(mayG_parts hm).2.2.2.1;omega
 have Hall:=zZ (fun h1 h2 h3 h4 h5 h6=>may_all (g:=g) h1 h2 h3 h4 h5 h6)
 rw[hM,hK] at Hall
 have HN:=zZ hN
 have HM:=zZ hM
 have HK:=zZ hK
 have HB0:=zZ hB0
 clear hB0 h htame hN hM hK
 generalize hmg:mayG g=r at *
 clear hmg
 generalize hms:mayS g.1=ms at *
 have Hms:=zZ hms
 clear hms
 have c0:=p1.cell (j:=0) rfl
 go_enter Tryz.func25,Tryz.ntmps25
 go_wp2_with fail
 refine (TS.out _ HB0.out).mono ?_
 rintro e w1 ⟨rfl,hB1⟩
 have H1:=zZ (HB0.out.trans (hB1.mono HB0.out.size))
 replace p1:=p1.to hB1
 clear hB1 HB0 c0 TS
 have c1:=p1.cell (j:=1) rfl
 have c2:=p1.cell (j:=2) rfl
 cases ms
 ·have Hr:=zZ (Hs.out rfl)
  clear Hs Hall
  go_wp2
  go_ret
  exact⟨by rw[Hr.out];rfl,H1.out⟩
 by_cases hM8:8<M
 ·have k1:decide ((8:Int)<(M:Int))=true:=zJ (by omega)
  have Hr:=zZ (H8.out hM8)
  clear Hs Hall hM8
  go_wp2
  go_ret
  exact⟨by rw[Hr.out];rfl,H1.out⟩
 have k1:decide ((8:Int)<(M:Int))=false:=zK (by omega)
 by_cases hK3:3<K
 ·have k2:decide ((3:Int)<(K:Int))=true:=zJ (by omega)
  have Hr:=zZ (H3.out hK3)
  clear Hs Hall hK3
  go_wp2
  go_ret
  exact⟨by rw[Hr.out];rfl,H1.out⟩
 have k2:decide ((3:Int)<(K:Int))=false:=zK (by omega)
 have Hall2:=zZ (Hall.out rfl (by omega) (by omega))
 clear Hall Hs H8 H3
 go_wp2
 have P1:=zZ p1
 clear p1 c1 c2
 go_loopw [4] (fun iv W=>∃ i:Nat,i≤M∧iv=.int .i64 (i:Int)∧Hid (Below w1.heap.size w1 W)∧Hid (∀ (I:Nat) o,I<i→g.2.1[I]?=some o→objTB g (lstG g.2.1 I) o=true)) (fun iv _=>M - (intOf iv).toNat)
 case atStart=>exact⟨0,by omega,rfl,zZ (zA _ _),zZ fun I o hI=>by omega⟩
 case round=>
  rename World=>wr
  obtain⟨i,hi,rfl,hD,hdone⟩:=hrel
  have Hr:=zZ (H1.out.trans (hD.out.mono H1.out.size))
  have P2:=zZ (P1.out.to hD.out)
  have c0:=P2.out.cell (j:=0) rfl
  have c1:=P2.out.cell (j:=1) rfl
  have c2:=P2.out.cell (j:=2) rfl
  by_cases hin:i<M
  ·obtain⟨o,ho⟩:∃ o,g.2.1[i]?=some o:=⟨_,zV (by have:=HM.out;omega)⟩
   have T1:=zZ (TO.out _ Hr.out i o ho)
   have Hbad:=zZ (Hobj.out i o ho)
   have Hgood:Hid (objTB g (lstG g.2.1 i) o=true→∀ (I:Nat) o,I<i+1→g.2.1[I]?=some o→objTB g (lstG g.2.1 I) o=true):=zZ fun e I o' hI ho'=>by
    by_cases hIi:I<i
    ·exact hdone.out I o' hIi ho'
    ·obtain rfl:I=i:=by omega
     rw[ho] at ho'
     injection ho' with ho'
     subst ho'
     exact e
   clear hdone ho
   generalize objTB g (lstG g.2.1 i) o=bb at *
   go_wp2_with fail
   refine T1.out.mono ?_
   rintro e w2 ⟨rfl,hB2⟩
   have HD:=zZ (hD.out.trans (hB2.mono hD.out.size))
   have HE:=zZ (Hr.out.trans (hB2.mono Hr.out.size))
   clear hB2 T1
   cases bb
   ·have Hq:=zZ (Hbad.out rfl)
    clear Hbad Hgood
    go_wp2
    go_ret
    exact⟨by rw[Hq.out];rfl,HE.out⟩
   ·have Hq:=zZ (Hgood.out rfl)
    clear Hbad Hgood
    go_wp2
    go_roundw
    case rel=>exact⟨i+1,by omega,by go_num,HD,Hq⟩
    case measure=>simp[intOf];omega
  ·obtain rfl:i=M:=by omega
   have Hall3:=zZ (Hall2.out hdone.out)
   clear Hall2 hin hi
   go_wp2
   clear c0 c1 c2
   go_loopw [6] (fun iv W=>∃ q:Nat,q≤i∧iv=.int .i64 (q:Int)∧Hid (Below wr.heap.size wr W)∧Hid (∀ (I:Nat) o (k:Nat) f v,I<q→g.2.1[I]?=some o→(fldsG g.1 o.2.1)[k]?=some f→o.2.2[k]?=some v→haveG g f v=true)) (fun iv _=>i - (intOf iv).toNat)
   case atStart=>exact⟨0,by omega,rfl,zZ (zA _ _),zZ fun I o k f v hI=>by omega⟩
   case round=>
    rename World=>ws
    obtain⟨q,hq,rfl,hE,hld⟩:=hrel
    have Hi:=zZ (Hr.out.trans (hE.out.mono Hr.out.size))
    have P3:=zZ (P2.out.to hE.out)
    have c0:=P3.out.cell (j:=0) rfl
    have c1:=P3.out.cell (j:=1) rfl
    have c2:=P3.out.cell (j:=2) rfl
    by_cases hqn:q<i
    ·obtain⟨o,ho⟩:∃ o,g.2.1[q]?=some o:=⟨_,zV (by have:=HM.out;omega)⟩
     obtain⟨a1,a2,a3,a4,a5,hlen⟩:=objTB_parts (hdone.out q o hqn ho)
     obtain⟨b,off,A2,cv,rfl,hb,x0,x1,x2,hvs,-,-⟩:=ob_at (rGr_open (Hg.out _ Hi.out)).2.1 ho
     have hil:(q:Int)<(i:Int):=by omega
     have hi0:(0:Int)≤(q:Int):=Int.natCast_nonneg q
     have hom:=List.mem_of_getElem? ho
     have hvn:o.2.2.length≤9223372036854775807:=by have:=(slice_len hvs).2;simp only[maxLen] at this;omega
     have Hvs:=zZ hvs
     obtain⟨t,ht⟩:∃ t:Nat,o.2.1=(t:Int):=⟨o.2.1.toNat,by omega⟩
     have htN:t<N:=by have:=HN.out;omega
     obtain⟨ty,hty⟩:∃ ty,g.1[t]?=some ty:=⟨_,zV (by have:=HN.out;omega)⟩
     have hfe:=fldsG_at ht hty
     obtain⟨bt,offt,st,AF,cF,rfl,hbt,-,y1,-,-,hfs⟩:=typ_at (rGr_open (Hg.out _ Hi.out)).1 hty
     rw[hfe] at hlen
     have Hfs:=zZ hfs
     have htl:(t:Int)<(N:Int):=by omega
     have ht00:(0:Int)≤(t:Int):=Int.natCast_nonneg t
     rw[ht] at x1
     have Hlk:=zZ (fun k f v=>Hlead.out o hom k f v)
     rw[hfe] at Hlk
     have Hnext:=zZ (fun (hallk:∀ (k:Nat) f v,k<o.2.2.length→ty.2[k]?=some f→o.2.2[k]?=some v→haveG g f v=true) (I:Nat) o' (k:Nat) f v (hI:I<q+1) (ho':g.2.1[I]?=some o') (hf:(fldsG g.1 o'.2.1)[k]?=some f) (hv:o'.2.2[k]?=some v)=>(show haveG g f v=true by
      by_cases hIq:I<q
      ·exact hld.out I o' k f v hIq ho' hf hv
      ·obtain rfl:I=q:=by omega
       rw[ho] at ho'
       injection ho' with ho'
       subst ho'
       rw[hfe] at hf
       exact hallk k f v (List.getElem?_eq_some_iff.1 hv).1 hf hv))
     have Hlen:=zZ hlen
     clear hld hom ho hty hfe hvs hfs hlen ht a1 a2 a3 a4 a5
     generalize hol:o.2.2.length=ol at *
     have Hol:=zZ hol
     clear hol
     generalize hfl:ty.2.length=fl at *
     have Hfl:=zZ hfl
     clear hfl
     go_wp2
     clear c0 c1 c2
     go_loopw [7] (fun kv W=>∃ k:Nat,k≤ol∧kv=.int .i64 (k:Int)∧Hid (Below ws.heap.size ws W)∧Hid (∀ (j:Nat) f v,j<k→ty.2[j]?=some f→o.2.2[j]?=some v→haveG g f v=true)) (fun kv _=>ol - (intOf kv).toNat)
     case atStart=>exact⟨0,by omega,rfl,zZ (zA _ _),zZ fun j f v hj=>by omega⟩
     case round=>
      rename World=>wt
      obtain⟨k,hk,rfl,hF,hal⟩:=hrel
      have Hk:=zZ (Hi.out.trans (hF.out.mono Hi.out.size))
      have hEF:=zZ (hE.out.trans (hF.out.mono hE.out.size))
      have P4:=zZ (P3.out.to hF.out)
      have u1:=(hF.out.cell (p:=⟨b,off+q * 3+1,none⟩) hb).trans x1
      have u2:=(hF.out.cell (p:=⟨b,off+q * 3+2,none⟩) hb).trans x2
      have u4:=(hF.out.cell (p:=⟨bt,offt+t * 2+1,none⟩) hbt).trans y1
      have c1:=P4.out.cell (j:=1) rfl
      by_cases hkl:k<ol
      ·obtain⟨f,hfk⟩:∃ f,ty.2[k]?=some f:=⟨_,zV (by have:=Hfl.out;have:=Hlen.out;omega)⟩
       obtain⟨bf,offf,sx,tx,rfl,hbf,z0,z1,z2,-,htx,-,-,-⟩:=fld_at (flds_below hF.out Hfs.out) hfk
       obtain⟨v,hvk⟩:∃ v,o.2.2[k]?=some v:=⟨_,zV (by have:=Hol.out;omega)⟩
       obtain⟨bv,offv,sv,rfl,hbv,v0,v1,v2,hsv,-,-,-⟩:=val_at (vals_below hF.out Hvs.out) hvk
       have hk0:(0:Int)≤(k:Int):=Int.natCast_nonneg k
       have hkf:(k:Int)<(fl:Int):=by have:=Hlen.out;omega
       have hkv:(k:Int)<(ol:Int):=by omega
       have T1:=zZ (fun W (hW:Below w.heap.size w W)=>TL.out W hW sx tx sv f v htx hsv)
       have Hbad:=zZ (Hlk.out k f v hfk hvk)
       have Hgood:Hid (haveG g f v=true→∀ (j:Nat) f v,j<k+1→ty.2[j]?=some f→o.2.2[j]?=some v→haveG g f v=true):=zZ fun e j f' v' hj hf' hv'=>by
        by_cases hjk:j<k
        ·exact hal.out j f' v' hjk hf' hv'
        ·obtain rfl:j=k:=by omega
         rw[hfk] at hf'
         rw[hvk] at hv'
         injection hf' with hf'
         injection hv' with hv'
         subst hf' hv'
         exact e
       have HS:=zZ (fun (W:World) (hW:Below wt.heap.size wt W)=>And.intro (And.intro ((P4.out.to hW).cell (j:=0) rfl) (And.intro ((P4.out.to hW).cell (j:=1) rfl) ((P4.out.to hW).cell (j:=2) rfl)))
        (And.intro (And.intro ((hW.cell (p:=⟨b,off+q * 3+1,none⟩) (Nat.lt_of_lt_of_le hb hF.out.size)).trans u1) (And.intro ((hW.cell (p:=⟨b,off+q * 3+2,none⟩) (Nat.lt_of_lt_of_le hb hF.out.size)).trans u2) ((hW.cell (p:=⟨bt,offt+t * 2+1,none⟩) (Nat.lt_of_lt_of_le hbt hF.out.size)).trans u4)))
        (And.intro (And.intro ((hW.cell (p:=⟨bf,offf+k * 3,none⟩) hbf).trans z0) (And.intro ((hW.cell (p:=⟨bf,offf+k * 3+1,none⟩) hbf).trans z1) ((hW.cell (p:=⟨bf,offf+k * 3+2,none⟩) hbf).trans z2)))
        (And.intro ((hW.cell (p:=⟨bv,offv+k * 3,none⟩) hbv).trans v0) (And.intro ((hW.cell (p:=⟨bv,offv+k * 3+1,none⟩) hbv).trans v1) ((hW.cell (p:=⟨bv,offv+k * 3+2,none⟩) hbv).trans v2))))))
       clear hfk hvk hal z0 z1 z2 v0 v1 v2 u1 u4 htx hsv
       generalize haveG g f v=bb at *
       generalize f.2.1=kk at *
       generalize v.1=n1 at *
       generalize v.2.2=n2 at *
       go_wp2
       refine sch_start [(0,true),(1,true),(2,true),(3,true),(4,true),(5,true),(6,true),(7,true),(8,true),(9,true),(10,true),(11,true),(12,true),(13,true),(14,true),(15,true),(16,true),(17,true),(18,true),(19,true),(20,true),(21,true),(22,true),(23,true),(24,true),(25,false),(26,true)] (fun W=>Below wt.heap.size wt W) (by kernel_rfl) rfl (by kernel_rfl) (fun _ _ _ _ _ h=>h) (zA _ wt).drew (fun hH=>?_)
       repeat (first | (refine sch_yes (v:=?_) rfl rfl ?_ hH ?_;rotate_left;(focus ((intro W hW;obtain⟨⟨x0,x1,x2⟩,⟨y0,y1,y2⟩,⟨z0,z1,z2⟩,v0,v1,v2⟩:=HS.out W hW;go_simp) <;> with_reducible rfl));simp only[Act.put,zY,zX,zQ]) | (refine sch_no rfl rfl hH ?_;simp only[Act.put,zY,zX,zQ]))
       refine sch_call rfl rfl (fun K' hK'=>?_)
       go_wp2_with (go_at_call 62;refine (T1.out _ (Hk.out.trans (hH.mono Hk.out.size))).mono ?_;rintro e w4 ⟨rfl,hB4⟩)
       have hD4:=hH.trans (hB4.mono hH.size)
       refine hK'.out _ _ hD4 ?_
       clear hK' hB4 hH
       have hH:=hD4
       repeat (first | (refine sch_yes (v:=?_) rfl rfl ?_ hH ?_;rotate_left;(focus ((intro W hW;obtain⟨⟨x0,x1,x2⟩,⟨y0,y1,y2⟩,⟨z0,z1,z2⟩,v0,v1,v2⟩:=HS.out W hW;go_simp) <;> with_reducible rfl));simp only[Act.put,zY,zX,zQ]) | (refine sch_no rfl rfl hH ?_;simp only[Act.put,zY,zX,zQ]))
       refine sch_done ?_
       have H4:=zZ (Hk.out.trans (hD4.mono Hk.out.size))
       have HD4:=zZ (hF.out.trans (hD4.mono hF.out.size))
       clear hH hD4 HS T1
       cases bb
       ·have Hq:=zZ (Hbad.out rfl)
        clear Hbad Hgood
        go_wp2
        go_ret
        exact⟨by rw[Hq.out];rfl,H4.out⟩
       ·have Hq:=zZ (Hgood.out rfl)
        clear Hbad Hgood
        go_wp2
        go_roundw
        case rel=>exact⟨k+1,by omega,by go_num,HD4,Hq⟩
        case measure=>simp[intOf];omega
      ·obtain rfl:k=ol:=by omega
       have Hn5:=zZ (Hnext.out hal.out)
       clear Hnext hal
       go_wp2
       go_roundw
       case rel=>exact⟨q+1,by omega,by go_num,hEF,Hn5⟩
       case measure=>simp[intOf];omega
    ·obtain rfl:q=i:=by omega
     have Hall4:=zZ (Hall3.out hld.out)
     clear Hall3 hld hqn hq
     go_wp2
     clear c0 c1 c2
     go_loopw [9] (fun iv W=>∃ j:Nat,j≤K∧iv=.int .i64 (j:Int)∧Hid (Below ws.heap.size ws W)∧Hid (∀ (p:Nat) r,p<j→g.2.2[p]?=some r→rootG g.2.1 r=true)) (fun iv _=>K - (intOf iv).toNat)
     case atStart=>exact⟨0,by omega,rfl,zZ (zA _ _),zZ fun p r hp=>by omega⟩
     case round=>
      rename World=>wt
      obtain⟨j,hj,rfl,hF,hrt⟩:=hrel
      have Hk:=zZ (Hi.out.trans (hF.out.mono Hi.out.size))
      have P4:=zZ (P3.out.to hF.out)
      have c2:=P4.out.cell (j:=2) rfl
      by_cases hjK:j<K
      ·obtain⟨x,hx⟩:∃ x,g.2.2[j]?=some x:=⟨_,zV (by have:=HK.out;omega)⟩
       obtain⟨b,off,rfl,hb,hrc,-⟩:=id_at (rGr_open (Hg.out _ Hk.out)).2.2 hx
       have hjl:(j:Int)<(K:Int):=by omega
       have hj0:(0:Int)≤(j:Int):=Int.natCast_nonneg j
       have Hbad:=zZ (Hroot.out x (List.mem_of_getElem? hx))
       have Hgood:Hid (rootG g.2.1 x=true→∀ (p:Nat) r,p<j+1→g.2.2[p]?=some r→rootG g.2.1 r=true):=zZ fun e p r' hp hr'=>by
        by_cases hpj:p<j
        ·exact hrt.out p r' hpj hr'
        ·obtain rfl:p=j:=by omega
         rw[hx] at hr'
         injection hr' with hr'
         subst hr'
         exact e
       have HS:=zZ (fun (W:World) (hW:Below wt.heap.size wt W)=>And.intro ((P4.out.to hW).cell (j:=0) rfl) (And.intro ((P4.out.to hW).cell (j:=1) rfl) (And.intro ((P4.out.to hW).cell (j:=2) rfl) ((hW.cell (p:=⟨b,off+j,none⟩) hb).trans hrc))))
       have T1:=zZ (fun W hW=>TG.out W hW x)
       have hlow:=findG_low g.2.1 x
       have Hrx:Hid (rootG g.2.1 x=(decide (x = -1) || decide (findG g.2.1 x≠-1))):=zZ rfl
       clear hrt hx hrc
       generalize rootG g.2.1 x=bb at *
       generalize findG g.2.1 x=fx at *
       by_cases hx1:x = -1
       ·have hx1':(x != -1)=false:=by simp[hx1]
        have Hq:=zZ (Hgood.out (by rw[Hrx.out,zJ hx1];rfl))
        clear Hbad Hgood hx1 hlow
        go_wp2
        refine sch_start [(0,true),(1,true),(2,true),(3,true),(4,true),(5,true),(6,true),(7,true),(8,true),(9,true),(10,true),(11,true),(12,true),(13,false),(14,true),(15,true)] (fun W=>Below wt.heap.size wt W) (by kernel_rfl) rfl (by kernel_rfl) (fun _ _ _ _ _ h=>h) (zA _ wt).drew (fun hH=>?_)
        repeat (first | (refine sch_yes (v:=?_) rfl rfl ?_ hH ?_;rotate_left;(focus ((intro W hW;obtain⟨x0,x1,x2,x3⟩:=HS.out W hW;go_simp) <;> with_reducible rfl));simp only[Act.put,zY,zX,zQ]) | (refine sch_no rfl rfl hH ?_;simp only[Act.put,zY,zX,zQ]))
        refine sch_call_no rfl rfl hH ?_
        repeat (first | (refine sch_yes (v:=?_) rfl rfl ?_ hH ?_;rotate_left;(focus ((intro W hW;obtain⟨x0,x1,x2,x3⟩:=HS.out W hW;go_simp) <;> with_reducible rfl));simp only[Act.put,zY,zX,zQ]) | (refine sch_no rfl rfl hH ?_;simp only[Act.put,zY,zX,zQ]))
        refine sch_done ?_
        have HD4:=zZ (hF.out.trans (hH.mono hF.out.size))
        clear hH HS T1
        go_wp2
        go_roundw
        case rel=>exact⟨j+1,by omega,by go_num,HD4,Hq⟩
        case measure=>simp[intOf];omega
       ·have hx1':(x != -1)=true:=by simp[hx1]
        have Hfx:Hid (bb=decide (¬ fx<0)):=zZ (by
         rw[Hrx.out,zK hx1,Bool.false_or]
         by_cases hh:fx = -1
         ·rw[hh];decide
         ·rw[zJ hh,zJ (by omega)])
        clear hx1 hlow Hrx
        by_cases hf0:fx<0
        ·have hf0':decide (fx<0)=true:=zJ hf0
         have Hq:=zZ (Hbad.out (by rw[Hfx.out];exact zK (by omega)))
         clear Hbad Hgood hf0 Hfx
         go_wp2
         refine sch_start [(0,true),(1,true),(2,true),(3,true),(4,true),(5,true),(6,true),(7,true),(8,true),(9,true),(10,true),(11,true),(12,true),(13,false),(14,true),(15,true)] (fun W=>Below wt.heap.size wt W) (by kernel_rfl) rfl (by kernel_rfl) (fun _ _ _ _ _ h=>h) (zA _ wt).drew (fun hH=>?_)
         repeat (first | (refine sch_yes (v:=?_) rfl rfl ?_ hH ?_;rotate_left;(focus ((intro W hW;obtain⟨x0,x1,x2,x3⟩:=HS.out W hW;go_simp) <;> with_reducible rfl));simp only[Act.put,zY,zX,zQ]) | (refine sch_no rfl rfl hH ?_;simp only[Act.put,zY,zX,zQ]))
         refine sch_call rfl rfl (fun K' hK'=>?_)
         go_wp2_with (go_at_call 31;refine (T1.out _ (Hk.out.trans (hH.mono Hk.out.size))).mono ?_;rintro e w4 ⟨rfl,hB4⟩)
         have hD4:=hH.trans (hB4.mono hH.size)
         refine hK'.out _ _ hD4 ?_
         clear hK' hB4 hH
         have hH:=hD4
         repeat (first | (refine sch_yes (v:=?_) rfl rfl ?_ hH ?_;rotate_left;(focus ((intro W hW;obtain⟨x0,x1,x2,x3⟩:=HS.out W hW;go_simp) <;> with_reducible rfl));simp only[Act.put,zY,zX,zQ]) | (refine sch_no rfl rfl hH ?_;simp only[Act.put,zY,zX,zQ]))
         refine sch_done ?_
         have H4:=zZ (Hk.out.trans (hD4.mono Hk.out.size))
         clear hH HS T1 hD4
         go_wp2
         go_ret
         exact⟨by rw[Hq.out];rfl,H4.out⟩
        ·have hf0':decide (fx<0)=false:=zK hf0
         have Hq:=zZ (Hgood.out (by rw[Hfx.out];exact zJ (by omega)))
         clear Hbad Hgood hf0 Hfx
         go_wp2
         refine sch_start [(0,true),(1,true),(2,true),(3,true),(4,true),(5,true),(6,true),(7,true),(8,true),(9,true),(10,true),(11,true),(12,true),(13,false),(14,true),(15,true)] (fun W=>Below wt.heap.size wt W) (by kernel_rfl) rfl (by kernel_rfl) (fun _ _ _ _ _ h=>h) (zA _ wt).drew (fun hH=>?_)
         repeat (first | (refine sch_yes (v:=?_) rfl rfl ?_ hH ?_;rotate_left;(focus ((intro W hW;obtain⟨x0,x1,x2,x3⟩:=HS.out W hW;go_simp) <;> with_reducible rfl));simp only[Act.put,zY,zX,zQ]) | (refine sch_no rfl rfl hH ?_;simp only[Act.put,zY,zX,zQ]))
         refine sch_call rfl rfl (fun K' hK'=>?_)
         go_wp2_with (go_at_call 31;refine (T1.out _ (Hk.out.trans (hH.mono Hk.out.size))).mono ?_;rintro e w4 ⟨rfl,hB4⟩)
         have hD4:=hH.trans (hB4.mono hH.size)
         refine hK'.out _ _ hD4 ?_
         clear hK' hB4 hH
         have hH:=hD4
         repeat (first | (refine sch_yes (v:=?_) rfl rfl ?_ hH ?_;rotate_left;(focus ((intro W hW;obtain⟨x0,x1,x2,x3⟩:=HS.out W hW;go_simp) <;> with_reducible rfl));simp only[Act.put,zY,zX,zQ]) | (refine sch_no rfl rfl hH ?_;simp only[Act.put,zY,zX,zQ]))
         refine sch_done ?_
         have HD4:=zZ (hF.out.trans (hD4.mono hF.out.size))
         clear hH HS T1 hD4
         go_wp2
         go_roundw
         case rel=>exact⟨j+1,by omega,by go_num,HD4,Hq⟩
         case measure=>simp[intOf];omega
      ·obtain rfl:j=K:=by omega
       have Hq:=zZ (Hall4.out hrt.out)
       clear Hall4 hrt
       go_wp2
       go_ret
       exact⟨by rw[Hq.out];rfl,Hk.out⟩
theorem robjects_any (A B:Option Addr) (c d:Nat) (x y:Ob) (w:World) (h1:rVals (All w) w [.slice A x.2.2.length c] x.2.2) (h2:rVals (All w) w [.slice B y.2.2.length d] y.2.2):
  Calls Tryz.prog 38 #[.agg #[.int .i64 x.1,.int .i64 x.2.1,.slice A x.2.2.length c],.agg #[.int .i64 y.1,.int .i64 y.2.1,.slice B y.2.2.length d]] w fun e w'=>e=.returned (.bool (decide (x=y)))∧Below w.heap.size w w':=by
 have hB:Below w.heap.size w ((w.alloc (.cells #[.int .i64 x.1,.int .i64 x.2.1,.slice A x.2.2.length c] 53)).alloc (.cells #[.int .i64 y.1,.int .i64 y.2.1,.slice B y.2.2.length d] 53)):=((zA _ w).alloc (zW _) _).alloc (by simp) _
 obtain⟨p1,p2⟩:=blk_two w 53 53 [.int .i64 x.1,.int .i64 x.2.1,.slice A x.2.2.length c] [.int .i64 y.1,.int .i64 y.2.1,.slice B y.2.2.length d]
 have hd:decide (x=y)=(decide (x.1=y.1) && decide (x.2.1=y.2.1) && decide (x.2.2=y.2.2)):=by
  obtain⟨a,b,c⟩:=x
  obtain⟨a',b',c'⟩:=y
  simp only[Prod.mk.injEq]
  by_cases e1:a=a' <;> by_cases e2:b=b' <;> by_cases e3:c=c' <;> simp[e1,e2,e3]
 have hn:x.2.2.length≤9223372036854775807:=by have:=(slice_len h1).2;simp only[maxLen] at this;omega
 have Hd:=zZ hd
 have H1:=zZ (fun W (hW:Below w.heap.size w W)=>vals_below hW h1)
 have H2:=zZ (fun W (hW:Below w.heap.size w W)=>vals_below hW h2)
 have HB:=zZ hB
 clear hd h1 h2 hB
 generalize hxs:x.2.2=xs at *
 generalize hys:y.2.2=ys at *
 clear hxs hys
 generalize decide (x=y)=r at *
 generalize hxl:xs.length=xl at *
 generalize hyl:ys.length=yl at *
 have Hxl:=zZ hxl
 have Hyl:=zZ hyl
 clear hxl hyl
 generalize x.1=x1 at *
 generalize y.1=y1 at *
 generalize x.2.1=x2 at *
 generalize y.2.1=y2 at *
 have c0:=p1.cell (j:=0) rfl
 have c1:=p1.cell (j:=1) rfl
 have c2:=p1.cell (j:=2) rfl
 have d0:=p2.cell (j:=0) rfl
 have d1:=p2.cell (j:=1) rfl
 have d2:=p2.cell (j:=2) rfl
 by_cases e1:x1=y1
 case neg=>
  have k1:(x1 != y1)=true:=by simp[e1]
  have Hr:Hid (r=false):=zZ (by rw[Hd.out,zK e1];rfl)
  clear Hd e1
  go_enter Tryz.func38,Tryz.ntmps38
  go_wp2
  go_ret
  exact⟨by rw[Hr.out];rfl,HB.out⟩
 have k1:(x1 != y1)=false:=by simp[e1]
 by_cases e2:x2=y2
 case neg=>
  have k2:(x2 != y2)=true:=by simp[e2]
  have Hr:Hid (r=false):=zZ (by rw[Hd.out,zK e2,Bool.and_false];rfl)
  clear Hd e1 e2
  go_enter Tryz.func38,Tryz.ntmps38
  go_wp2
  go_ret
  exact⟨by rw[Hr.out];rfl,HB.out⟩
 have k2:(x2 != y2)=false:=by simp[e2]
 by_cases e3:xl=yl
 case neg=>
  have k3:((xl:Int) != (yl:Int))=true:=by rw[bne_iff_ne];omega
  have Hr:Hid (r=false):=zZ (by rw[Hd.out,zK (fun e=>e3 (by rw[← Hxl.out,← Hyl.out,e]):¬ xs=ys),Bool.and_false])
  clear Hd e1 e2 e3
  go_enter Tryz.func38,Tryz.ntmps38
  go_wp2
  go_ret
  exact⟨by rw[Hr.out];rfl,HB.out⟩
 subst e3
 have k3:((xl:Int) != (xl:Int))=false:=by simp
 have Hr:Hid (r=decide (xs=ys)):=zZ (by rw[Hd.out,zJ e1,zJ e2];rfl)
 clear Hd e1 e2
 go_enter Tryz.func38,Tryz.ntmps38
 go_wp2
 clear c0 c1 c2 d0 d1 d2
 generalize (w.alloc (.cells #[.int .i64 x1,.int .i64 x2,.slice A xl c] 53)).alloc (.cells #[.int .i64 y1,.int .i64 y2,.slice B xl d] 53)=w1 at *
 have P1:=zZ p1
 have P2:=zZ p2
 clear p1 p2
 go_loopw [5] (fun iv W=>∃ i:Nat,i≤xl∧iv=.int .i64 (i:Int)∧Hid (Below w1.heap.size w1 W)∧Hid (∀ j,j<i→xs[j]?=ys[j]?)) (fun iv _=>xl - (intOf iv).toNat)
 case atStart=>exact⟨0,by omega,rfl,zZ (zA _ _),zZ fun j hj=>by omega⟩
 case round=>
  rename World=>wr
  obtain⟨i,hi,rfl,hD,hsame⟩:=hrel
  have Hw:=zZ (HB.out.trans (hD.out.mono HB.out.size))
  have c2:=(P1.out.to hD.out).cell (j:=2) rfl
  by_cases hin:i<xl
  ·obtain⟨v1,hv1⟩:∃ v,xs[i]?=some v:=⟨_,zV (by have:=Hxl.out;omega)⟩
   obtain⟨v2,hv2⟩:∃ v,ys[i]?=some v:=⟨_,zV (by have:=Hyl.out;omega)⟩
   obtain⟨b1,off1,s1,rfl,hb1,u0,u1,u2,hs1,-,-,-⟩:=val_at (H1.out _ Hw.out) hv1
   obtain⟨b2,off2,s2,rfl,hb2,t0,t1,t2,hs2,-,-,-⟩:=val_at (H2.out _ Hw.out) hv2
   have hneq:∀ W,(binOp .neq 47 (.agg #[.int .i64 v1.1,.string s1,.int .i64 v1.2.2]) (.agg #[.int .i64 v2.1,.string s2,.int .i64 v2.2.2])).run Tryz.prog W=.ok (.bool (!decide (v1=v2))) W:=fun W=>by
    rw[vl_neq,vl_is,hs1,hs2]
   have hgd:=sval_guard
   have hil:(i:Int)<(xl:Int):=by omega
   have hi0:(0:Int)≤(i:Int):=Int.natCast_nonneg i
   have HS:=zZ (fun (W:World) (hW:Below wr.heap.size wr W)=>And.intro (((P1.out.to hD.out).to hW).cell (j:=2) rfl) (And.intro (((P2.out.to hD.out).to hW).cell (j:=2) rfl)
    (And.intro (And.intro ((hW.cell (p:=⟨b1,off1+i * 3,none⟩) hb1).trans u0) (And.intro ((hW.cell (p:=⟨b1,off1+i * 3+1,none⟩) hb1).trans u1) ((hW.cell (p:=⟨b1,off1+i * 3+2,none⟩) hb1).trans u2)))
    (And.intro ((hW.cell (p:=⟨b2,off2+i * 3,none⟩) hb2).trans t0) (And.intro ((hW.cell (p:=⟨b2,off2+i * 3+1,none⟩) hb2).trans t1) ((hW.cell (p:=⟨b2,off2+i * 3+2,none⟩) hb2).trans t2))))))
   have Hne:Hid (v1≠v2→r=false):=zZ fun he=>by
    rw[Hr.out]
    exact zK fun e=>he (by rw[e,hv2] at hv1;injection hv1 with hv1;exact hv1.symm)
   have Heq:Hid (v1=v2→∀ j,j<i+1→xs[j]?=ys[j]?):=zZ fun he j hj=>by
    by_cases hji:j<i
    ·exact hsame.out j hji
    ·obtain rfl:j=i:=by omega
     rw[hv1,hv2,he]
   clear hv1 hv2 u0 u1 u2 t0 t1 t2 hs1 hs2 hsame
   by_cases hvv:v1=v2
   ·have Hq:=zZ (Heq.out hvv)
    rw[zJ hvv] at hneq
    clear Heq Hne hvv
    generalize v1.1=a1 at *
    generalize v1.2.2=a2 at *
    generalize v2.1=a3 at *
    generalize v2.2.2=a4 at *
    go_wp2
    refine sch_start [(0,true),(1,true),(2,true),(3,true),(4,true),(5,true),(6,true),(7,true),(8,true),(9,true),(10,true)] (fun W=>Below wr.heap.size wr W) (by kernel_rfl) rfl (by kernel_rfl) (fun _ _ _ _ _ h=>h) (zA _ wr).drew (fun hH=>?_)
    repeat (first | (refine sch_yes (v:=?_) rfl rfl ?_ hH ?_;rotate_left;(focus ((intro W hW;obtain⟨x0,y0,⟨u0,u1,u2⟩,t0,t1,t2⟩:=HS.out W hW;go_simp) <;> with_reducible rfl));simp only[Act.put,zY,zX,zQ]) | (refine sch_no rfl rfl hH ?_;simp only[Act.put,zY,zX,zQ]))
    refine sch_done ?_
    have HD:=zZ (hD.out.trans (hH.mono hD.out.size))
    clear hH HS
    go_wp2
    go_roundw
    case rel=>exact⟨i+1,by omega,by go_num,HD,Hq⟩
    case measure=>simp[intOf];omega
   ·have Hq:=zZ (Hne.out hvv)
    rw[zK hvv] at hneq
    clear Heq Hne hvv
    generalize v1.1=a1 at *
    generalize v1.2.2=a2 at *
    generalize v2.1=a3 at *
    generalize v2.2.2=a4 at *
    go_wp2
    refine sch_start [(0,true),(1,true),(2,true),(3,true),(4,true),(5,true),(6,true),(7,true),(8,true),(9,true),(10,true)] (fun W=>Below wr.heap.size wr W) (by kernel_rfl) rfl (by kernel_rfl) (fun _ _ _ _ _ h=>h) (zA _ wr).drew (fun hH=>?_)
    repeat (first | (refine sch_yes (v:=?_) rfl rfl ?_ hH ?_;rotate_left;(focus ((intro W hW;obtain⟨x0,y0,⟨u0,u1,u2⟩,t0,t1,t2⟩:=HS.out W hW;go_simp) <;> with_reducible rfl));simp only[Act.put,zY,zX,zQ]) | (refine sch_no rfl rfl hH ?_;simp only[Act.put,zY,zX,zQ]))
    refine sch_done ?_
    have HD:=zZ (Hw.out.trans (hH.mono Hw.out.size))
    clear hH HS
    go_wp2
    go_ret
    exact⟨by rw[Hq.out];rfl,HD.out⟩
  ·obtain rfl:i=xl:=by omega
   have Hq:Hid (r=true):=zZ (by
    rw[Hr.out]
    refine zJ (List.ext_getElem? fun j=>?_)
    by_cases hj:j<i
    ·exact hsame.out j hj
    ·rw[List.getElem?_eq_none (by have:=Hxl.out;omega),List.getElem?_eq_none (by have:=Hyl.out;omega)])
   clear hsame
   go_wp2
   go_ret
   exact⟨by rw[Hq.out];rfl,Hw.out⟩
theorem rgsame_any (A B C:Option Addr) (N c M d K e:Nat) (A1 B1 C1:Option Addr) (N1 c1 M1 d1 K1 e1:Nat) (g h:Gr) (w:World) (hg:rGr (All w) w [.slice A N c,.slice B M d,.slice C K e] g) (hh:rGr (All w) w [.slice A1 N1 c1,.slice B1 M1 d1,.slice C1 K1 e1] h):
  Calls Tryz.prog 12 #[.agg #[.slice A N c,.slice B M d,.slice C K e],.agg #[.slice A1 N1 c1,.slice B1 M1 d1,.slice C1 K1 e1]] w fun e w'=>e=.returned (.bool (decide (g=h)))∧Below w.heap.size w w':=by
 have hB0:Below w.heap.size w ((w.alloc (.cells #[.slice A N c,.slice B M d,.slice C K e] 28)).alloc (.cells #[.slice A1 N1 c1,.slice B1 M1 d1,.slice C1 K1 e1] 28)):=((zA _ w).alloc (zW _) _).alloc (by simp) _
 obtain⟨p1,p2⟩:=blk_two w 28 28 [.slice A N c,.slice B M d,.slice C K e] [.slice A1 N1 c1,.slice B1 M1 d1,.slice C1 K1 e1]
 obtain⟨hM,hMd,hdm⟩:=slice_len (rGr_open hg).2.1
 obtain⟨hM1,hMd1,hdm1⟩:=slice_len (rGr_open hh).2.1
 simp only[maxLen] at hdm hdm1
 have T1:=zZ (fun W (hW:Below w.heap.size w W)=>rssame_any A A1 N c N1 c1 g.1 h.1 W (sch_below hW (rGr_open hg).1) (sch_below hW (rGr_open hh).1))
 have T2:=zZ (fun W (hW:Below w.heap.size w W)=>rints_any C C1 K e K1 e1 g.2.2 h.2.2 W (ids_below hW (rGr_open hg).2.2) (ids_below hW (rGr_open hh).2.2))
 have H1:=zZ (fun W (hW:Below w.heap.size w W)=>obs_below hW (rGr_open hg).2.1)
 have H2:=zZ (fun W (hW:Below w.heap.size w W)=>obs_below hW (rGr_open hh).2.1)
 have Hd:Hid (decide (g=h)=(decide (g.1=h.1) && decide (g.2.2=h.2.2) && decide (g.2.1=h.2.1))):=zZ (by
  obtain⟨a,b,c⟩:=g
  obtain⟨a',b',c'⟩:=h
  simp only[Prod.mk.injEq]
  by_cases e1:a=a' <;> by_cases e2:b=b' <;> by_cases e3:c=c' <;> simp[e1,e2,e3])
 have HB0:=zZ hB0
 have HM:=zZ hM
 have HM1:=zZ hM1
 clear hB0 hg hh hM hM1
 generalize decide (g=h)=r at *
 generalize decide (g.1=h.1)=r1 at *
 generalize decide (g.2.2=h.2.2)=r2 at *
 generalize g.2.1=xs at *
 generalize h.2.1=ys at *
 have c0:=p1.cell (j:=0) rfl
 have d0:=p2.cell (j:=0) rfl
 go_enter Tryz.func12,Tryz.ntmps12
 go_wp2_with fail
 refine (T1.out _ HB0.out).mono ?_
 rintro e w1 ⟨rfl,hB1⟩
 have HB1:=zZ (HB0.out.trans (hB1.mono HB0.out.size))
 replace p1:=p1.to hB1
 replace p2:=p2.to hB1
 clear c0 d0 hB1 HB0
 have c2:=p1.cell (j:=2) rfl
 have d2:=p2.cell (j:=2) rfl
 go_wp2_with fail
 refine (T2.out _ HB1.out).mono ?_
 rintro e w2 ⟨rfl,hB2⟩
 have HB2:=zZ (HB1.out.trans (hB2.mono HB1.out.size))
 replace p1:=p1.to hB2
 replace p2:=p2.to hB2
 clear c2 d2 hB2 HB1 T1 T2
 cases r1
 ·go_wp2
  go_ret
  exact⟨by rw[Hd.out];rfl,HB2.out⟩
 cases r2
 ·go_wp2
  go_ret
  exact⟨by rw[Hd.out];rfl,HB2.out⟩
 have c1:=p1.cell (j:=1) rfl
 have d1:=p2.cell (j:=1) rfl
 by_cases hMM:M=M1
 case neg=>
  have k3:((M:Int) != (M1:Int))=true:=by rw[bne_iff_ne];omega
  have Hr:Hid (r=false):=zZ (by rw[Hd.out,zK (fun e=>hMM (by rw[← HM.out,← HM1.out,e]):¬ xs=ys)];rfl)
  clear Hd hMM
  go_wp2
  go_ret
  exact⟨by rw[Hr.out];rfl,HB2.out⟩
 subst hMM
 have k3:((M:Int) != (M:Int))=false:=by simp
 have Hr:Hid (r=decide (xs=ys)):=zZ (by rw[Hd.out];rfl)
 have P1:=zZ p1
 have P2:=zZ p2
 clear Hd p1 p2
 go_wp2
 clear c1 d1
 go_loopw [7] (fun iv W=>∃ i:Nat,i≤M∧iv=.int .i64 (i:Int)∧Hid (Below w2.heap.size w2 W)∧Hid (∀ j,j<i→xs[j]?=ys[j]?)) (fun iv _=>M - (intOf iv).toNat)
 case atStart=>exact⟨0,by omega,rfl,zZ (zA _ _),zZ fun j hj=>by omega⟩
 case round=>
  rename World=>wr
  obtain⟨i,hi,rfl,hD,hsame⟩:=hrel
  have Hw:=zZ (HB2.out.trans (hD.out.mono HB2.out.size))
  have c1:=(P1.out.to hD.out).cell (j:=1) rfl
  by_cases hin:i<M
  ·obtain⟨o1,ho1⟩:∃ o,xs[i]?=some o:=⟨_,zV (by have:=HM.out;omega)⟩
   obtain⟨o2,ho2⟩:∃ o,ys[i]?=some o:=⟨_,zV (by have:=HM1.out;omega)⟩
   obtain⟨b1,off1,F1,cf1,rfl,hb1,u0,u1,u2,hv1,-,-⟩:=ob_at (H1.out _ Hw.out) ho1
   obtain⟨b2,off2,F2,cf2,rfl,hb2,t0,t1,t2,hv2,-,-⟩:=ob_at (H2.out _ Hw.out) ho2
   have T3:=zZ (fun W (hW:Below wr.heap.size wr W)=>robjects_any F1 F2 cf1 cf2 o1 o2 W (vals_below hW hv1) (vals_below hW hv2))
   have hil:(i:Int)<(M:Int):=by omega
   have hi0:(0:Int)≤(i:Int):=Int.natCast_nonneg i
   have HS:=zZ (fun (W:World) (hW:Below wr.heap.size wr W)=>And.intro (((P1.out.to hD.out).to hW).cell (j:=1) rfl) (And.intro (((P2.out.to hD.out).to hW).cell (j:=1) rfl)
    (And.intro (And.intro ((hW.cell (p:=⟨b1,off1+i * 3,none⟩) hb1).trans u0) (And.intro ((hW.cell (p:=⟨b1,off1+i * 3+1,none⟩) hb1).trans u1) ((hW.cell (p:=⟨b1,off1+i * 3+2,none⟩) hb1).trans u2)))
    (And.intro ((hW.cell (p:=⟨b2,off2+i * 3,none⟩) hb2).trans t0) (And.intro ((hW.cell (p:=⟨b2,off2+i * 3+1,none⟩) hb2).trans t1) ((hW.cell (p:=⟨b2,off2+i * 3+2,none⟩) hb2).trans t2))))))
   have Hne:Hid (o1≠o2→r=false):=zZ fun he=>by
    rw[Hr.out]
    exact zK fun e=>he (by rw[e,ho2] at ho1;injection ho1 with ho1;exact ho1.symm)
   have Heq:Hid (o1=o2→∀ j,j<i+1→xs[j]?=ys[j]?):=zZ fun he j hj=>by
    by_cases hji:j<i
    ·exact hsame.out j hji
    ·obtain rfl:j=i:=by omega
     rw[ho1,ho2,he]
   clear ho1 ho2 u0 u1 u2 t0 t1 t2 hv1 hv2 hsame
   generalize hoo:decide (o1=o2)=bb at *
   have Hoo:=zZ hoo
   clear hoo
   generalize o1.2.2.length=l1 at *
   generalize o2.2.2.length=l2 at *
   generalize o1.1=a1 at *
   generalize o1.2.1=a2 at *
   generalize o2.1=a3 at *
   generalize o2.2.1=a4 at *
   go_wp2
   refine sch_start [(0,true),(1,true),(2,true),(3,true),(4,true),(5,true),(6,true),(7,true),(8,true),(9,true),(10,false),(11,true)] (fun W=>Below wr.heap.size wr W) (by kernel_rfl) rfl (by kernel_rfl) (fun _ _ _ _ _ h=>h) (zA _ wr).drew (fun hH=>?_)
   repeat (first | (refine sch_yes (v:=?_) rfl rfl ?_ hH ?_;rotate_left;(focus ((intro W hW;obtain⟨x0,y0,⟨u0,u1,u2⟩,t0,t1,t2⟩:=HS.out W hW;go_simp) <;> with_reducible rfl));simp only[Act.put,zY,zX,zQ]) | (refine sch_no rfl rfl hH ?_;simp only[Act.put,zY,zX,zQ]))
   refine sch_call rfl rfl (fun K' hK'=>?_)
   go_wp2_with (go_at_call 38;refine (T3.out _ hH).mono ?_;rintro e w4 ⟨rfl,hB4⟩)
   have hD4:=hH.trans (hB4.mono hH.size)
   refine hK'.out _ _ hD4 ?_
   clear hK' hB4 hH
   have hH:=hD4
   repeat (first | (refine sch_yes (v:=?_) rfl rfl ?_ hH ?_;rotate_left;(focus ((intro W hW;obtain⟨x0,y0,⟨u0,u1,u2⟩,t0,t1,t2⟩:=HS.out W hW;go_simp) <;> with_reducible rfl));simp only[Act.put,zY,zX,zQ]) | (refine sch_no rfl rfl hH ?_;simp only[Act.put,zY,zX,zQ]))
   refine sch_done ?_
   have HD:=zZ (hD.out.trans (hD4.mono hD.out.size))
   have HE:=zZ (Hw.out.trans (hD4.mono Hw.out.size))
   clear hH hD4 HS
   cases bb
   ·have Hq:=zZ (Hne.out (of_decide_eq_false Hoo.out))
    go_wp2
    go_ret
    exact⟨by rw[Hq.out];rfl,HE.out⟩
   ·have Hq:=zZ (Heq.out (of_decide_eq_true Hoo.out))
    go_wp2
    go_roundw
    case rel=>exact⟨i+1,by omega,by go_num,HD,Hq⟩
    case measure=>simp[intOf];omega
  ·obtain rfl:i=M:=by omega
   have Hq:Hid (r=true):=zZ (by
    rw[Hr.out]
    refine zJ (List.ext_getElem? fun j=>?_)
    by_cases hj:j<i
    ·exact hsame.out j hj
    ·rw[List.getElem?_eq_none (by have:=HM.out;omega),List.getElem?_eq_none (by have:=HM1.out;omega)])
   clear hsame
   go_wp2
   go_ret
   exact⟨by rw[Hq.out];rfl,Hw.out⟩
theorem rat_any (A:Option Addr) (n c:Nat) (l:List Int) (x:Int) (w:World) (h:rIds (All w) w [.slice A n c] l):
  Calls Tryz.prog 30 #[.slice A n c,.int .i64 x] w fun e w'=>e=.returned (.int .i64 (atL l x))∧w'=w:=by
 obtain⟨hn,hnc,hcm⟩:=slice_len h
 simp only[maxLen] at hcm
 go_enter Tryz.func30,Tryz.ntmps30
 go_wp2
 go_loopw [5] (fun iv w'=>∃ i:Nat,i≤n∧iv=.int .i64 (i:Int)∧w'=w∧∀ j,j<i→l[j]?≠some x) (fun iv _=>n - (intOf iv).toNat)
 case atStart=>exact⟨0,by omega,rfl,rfl,fun j hj=>by omega⟩
 case round=>
  obtain⟨i,hi,rfl,rfl,hno⟩:=hrel
  by_cases hin:i<n
  ·obtain⟨y,hy⟩:∃ y,l[i]?=some y:=⟨_,zV (by omega)⟩
   obtain⟨b,off,rfl,hb,hc,-⟩:=id_at h hy
   have hil:(i:Int)<(n:Int):=by omega
   have hi0:(0:Int)≤(i:Int):=by omega
   by_cases he:y=x
   ·have he':(y == x)=true:=by simp[he]
    have Hr:Hid (atL l x=(i:Int)):=zZ ((idxP_iff _ _ i).2 ⟨⟨y,hy,by simp[he]⟩,fun j b hj hb=>zK fun e=>hno j hj (by rw[hb,e])⟩)
    clear hno he hy
    go_wp2
    go_ret
    exact⟨by rw[Hr.out];rfl,rfl⟩
   ·have he':(y == x)=false:=by simp[he]
    have Hr:Hid (∀ j,j<i+1→l[j]?≠some x):=zZ fun j hj=>by
     by_cases hji:j<i
     ·exact hno j hji
     ·obtain rfl:j=i:=by omega
      rw[hy]
      simpa using he
    clear hno he hy
    go_wp2
    go_roundw
    case rel=>exact⟨i+1,by omega,by go_num,by trivial,Hr.out⟩
    case measure=>simp[intOf];omega
  ·obtain rfl:i=n:=by omega
   have Hr:Hid (atL l x = -1):=zZ (atL_none.2 fun hx=>by
    obtain⟨j,hj⟩:=List.getElem?_of_mem hx
    exact hno j (by have:=(List.getElem?_eq_some_iff.1 hj).1;omega) hj)
   clear hno
   go_wp2
   go_ret
   exact⟨by rw[Hr.out];rfl,rfl⟩
structure RowGo (base:Nat) (w:World) (v:Value) (w':World) (v':Value):Prop where
 bel:Below base w w'
 kept:∀ b,b<w.heap.size→some b≠v.ownBlock→w'.heap[b]?=w.heap[b]?
 new:v'.ownBlock=v.ownBlock∨∃ k,v'.ownBlock=some k∧w.heap.size≤k
theorem rmet_any (base:Nat) (v:Value) (l:List Int) (x:Int) (w:World) (hown:w.ownsRow base 3 1 v l.length (ints l)) (hb:base≤w.heap.size) (hl:l.length≤1000) (hw:∀ y∈l,(Lit.int .i64 y).wf=true):
  Calls Tryz.prog 67 #[v,.int .i64 x] w fun e w'=>∃ v',e=.returned v'∧w'.ownsRow base 3 1 v' (metL l x).length (ints (metL l x))∧RowGo base w v w' v':=by
 obtain⟨j0,hj,hy0,hy1,hy2⟩:=info_parts info_int
 obtain⟨A,c,rfl⟩:=own_slice3 hown
 have T1:=zZ (rhas_any A l.length c l x w (rIds_stays.to (S':=All w) (w':=w) (Keeps.mono fun b hb=>hb.2) (ids_own hown rfl hw)))
 have Hm:Hid (metL l x=if x<0∨x∈l then l else l++[x]):=zZ rfl
 have Ho:=zZ hown
 have hlen:Hid ((l++[x]).length=l.length+[x].length):=zZ List.length_append
 have Hla:=zZ (ints_append l [x])
 clear hown hw
 go_enter Tryz.func67,Tryz.ntmps67
 go_wp2_with fail
 refine T1.out.mono ?_
 rintro e wz ⟨rfl,hwz⟩
 replace hwz:=hwz.symm
 subst hwz
 by_cases h0:x<0
 ·have h0':decide (x<0)=true:=zJ h0
  have Hr:Hid (metL l x=l):=zZ (by rw[Hm.out,if_pos (.inl h0)])
  generalize decide (x∈l)=bb at *
  clear Hm h0
  go_wp2
  go_ret
  rw[Hr.out]
  exact⟨_,rfl,Ho.out,zA _ _,fun _ _ _=>rfl,.inl rfl⟩
 ·have h0':decide (x<0)=false:=zK h0
  by_cases h1:x∈l
  ·have Hr:Hid (metL l x=l):=zZ (by rw[Hm.out,if_pos (.inr h1)])
   rw[zJ h1]
   clear Hm h0 h1
   go_wp2
   go_ret
   rw[Hr.out]
   exact⟨_,rfl,Ho.out,zA _ _,fun _ _ _=>rfl,.inl rfl⟩
  ·have Hr:Hid (metL l x=l++[x]):=zZ (by rw[Hm.out,if_neg (fun e=>e.elim h0 h1)])
   rw[zK h1]
   clear Hm h0 h1
   have t3:base≤(w.alloc (.cells #[.int .i64 x] 3)).heap.size:=by simp only[World.size_alloc];omega
   have t5:=Ho.out.alloc (.cells #[.int .i64 x] 3)
   generalize hll:l.length=n at *
   go_wp2_with (first
    | (at_builtin;refine wpList_app rfl (.tmp 15) (.tmp 17) 26 rfl base 3 j0 (.int .i64 0) 8 Tryz.underlying26 hj hy0 hy1 hy2 rfl (.slice A n c) n (ints l) rfl t5 (some ⟨w.heap.size,0,none⟩) 1 1 (ints [x]) rfl rfl (lit_ints _ [x]) (ints_one _) (by simp only[maxLen];omega) (by omega) t3 ?_;intro v4 w4 hown4 hg4 hv4)
    | fail)
   go_ret
   subst hll
   rw[Hr.out]
   refine⟨_,rfl,by rw[hlen.out,Hla.out];exact hown4,?_,fun b hb1 hb2=>?_,?_⟩
   ·exact ((zA base w).alloc hb _).grown hg4 (by simp only[World.size_alloc];omega) (fun k hk=>(Ho.out.lt k hk).1)
   ·rw[hg4.block b (by simp only[World.size_alloc];omega) hb2,Below.heap_alloc _ _ _ hb1]
   ·exact hv4.imp id fun e=>⟨_,e,by rw[World.size_alloc];omega⟩
structure MeetN (g:Gr) (l:List Int) (i:Nat):Prop where
 nd:l.Nodup
 ids:∀ x∈l,IdG g x
 ord:∃ n,i+n=8∧ordG g=ordN g n l i
theorem MeetN.start {g:Gr} (hm:mayG g=true):MeetN g (g.2.2.foldl metL []) 0:=⟨mets_nodup (by simp),roots_ids hm,8,rfl,ordG_yes hm⟩
theorem MeetN.few {g:Gr} {l:List Int} {i:Nat} (hm:mayG g=true) (h:MeetN g l i):l.length≤8:=ids_few hm l h.nd h.ids
theorem mets_ids {g:Gr} {rs l:List Int} (hl:∀ x∈l,IdG g x) (hr:∀ r∈rs,r = -1∨IdG g r):∀ x∈rs.foldl metL l,IdG g x:=fun x hx=>by
 rcases mets_mem.1 hx with h | ⟨h1,h2⟩
 ·exact hl x h
 ·exact (hr x h1).resolve_left (by omega)
theorem MeetN.next {g:Gr} {l:List Int} {i:Nat} {o:Ob} (hm:mayG g=true) (h:MeetN g l i) (hi:l[i]?=some o.1) (ho:o∈g.2.1):MeetN g ((refsL g.1 o).foldl metL l) (i+1):=by
 obtain⟨n,h1,h2⟩:=h.ord
 have h8:=h.few hm
 have hl:=(List.getElem?_eq_some_iff.1 hi).1
 obtain⟨k,rfl⟩:∃ k,n=k+1:=⟨n - 1,by omega⟩
 refine⟨mets_nodup h.nd,mets_ids h.ids (refs_led hm ho),k,by omega,?_⟩
 rw[h2,ordN,hi]
 show ordN g k ((refsL g.1 (objG g.2.1 o.1)).foldl metL l) (i+1)=_
 rw[obj_of hm ho]
theorem MeetN.done {g:Gr} {l:List Int} {i:Nat} (h:MeetN g l i) (hi:l.length=i):ordG g=l:=by
 obtain⟨n,-,h2⟩:=h.ord
 rw[h2,← hi]
 exact q_end g n l
theorem preR_led {g:Gr} (hm:mayG g=true) (i:Nat):(∀ x∈preR g i,IdG g x)∧(preR g i).length≤8:=by
 have h:=mets_ids (l:=[]) (rs:=g.2.2.take i) (by simp) (fun r hr=>roots_led hm r (List.mem_of_mem_take hr))
 exact⟨h,ids_few hm _ (preR_nodup g i) h⟩
theorem id_wf {g:Gr} (hm:mayG g=true) {x:Int} (h:IdG g x):(Lit.int .i64 x).wf=true:=by
 obtain⟨o,ho,rfl⟩:=h
 have:=(mayG_obj hm ho).id0
 have:=(mayG_obj hm ho).id1
 exact WalkArith.wf_i64 ⟨by omega,by omega⟩
theorem refsT_led {g:Gr} (hm:mayG g=true) {o:Ob} (ho:o∈g.2.1) (k:Nat):∀ r∈refsT (fldsG g.1 o.2.1) o.2.2 k,r = -1∨IdG g r:=fun r hr=>by
 refine refs_led hm ho r ?_
 rw[refsT] at hr
 rw[refsL]
 obtain⟨p,hp,e⟩:=List.mem_filterMap.1 hr
 exact List.mem_filterMap.2 ⟨p,List.mem_of_mem_take hp,e⟩
theorem rorder_any (A B C:Option Addr) (N c M d K e:Nat) (g:Gr) (w:World) (h:rGr (All w) w [.slice A N c,.slice B M d,.slice C K e] g) (htame:tameS g.1):
  Calls Tryz.prog 29 #[.agg #[.slice A N c,.slice B M d,.slice C K e]] w fun e w'=>∃ A1 c1,e=.returned (.slice A1 (ordG g).length c1)∧rIds (fun b=>w.heap.size≤b∧b<w'.heap.size) w' [.slice A1 (ordG g).length c1] (ordG g)∧Below w.heap.size w w':=by
 have hB0:Below w.heap.size w (w.alloc (.cells #[.slice A N c,.slice B M d,.slice C K e] 28)):=(zA _ w).alloc (zW _) _
 obtain⟨hN,-,hcm⟩:=slice_len (rGr_open h).1
 obtain⟨hM,-,-⟩:=slice_len (rGr_open h).2.1
 obtain⟨hK,-,-⟩:=slice_len (rGr_open h).2.2
 simp only[maxLen] at hcm
 have p1:=Blk.new w 28 [.slice A N c,.slice B M d,.slice C K e]
 have s0:(w.alloc (.cells #[.slice A N c,.slice B M d,.slice C K e] 28)).heap.size=w.heap.size+1:=by simp
 have T1:=zZ (rgmay_any A B C N c M d K e g _ (gr_below hB0 h) htame)
 have HB0:=zZ hB0
 have c0:=p1.cell (j:=0) rfl
 have c1:=p1.cell (j:=1) rfl
 have c2:=p1.cell (j:=2) rfl
 clear hB0
 go_enter Tryz.func29,Tryz.ntmps29
 go_wp2_with fail
 refine T1.out.mono ?_
 rintro e w1 ⟨rfl,hB1⟩
 have H1:=zZ (HB0.out.trans (hB1.mono HB0.out.size))
 have s1:w.heap.size+1≤w1.heap.size:=by rw[← s0];exact hB1.size
 replace p1:=p1.to hB1
 clear hB1 HB0 T1 c0 c1 c2 s0
 by_cases hm:mayG g=true
 rotate_left
 ·replace hm:mayG g=false:=by simpa using hm
  rw[hm]
  go_wp2
  go_ret
  rw[ordG_no hm]
  exact⟨none,0,rfl,⟨none,0,[],rfl,zW _,Nat.zero_le _,.inl rfl,Chunks.nil⟩,H1.out⟩
 rw[hm]
 have hM8:=(mayG_parts hm).2.1
 have hK3:=(mayG_parts hm).2.2.2.1
 rw[hM] at hM8
 rw[hK] at hK3
 have Hg:=zZ (gr_below H1.out h)
 have c2:=p1.cell (j:=2) rfl
 clear h
 go_wp2
 go_loopw [4,5] (fun lv iv w'=>∃ (i:Nat) (v:Value),i≤K∧iv=.int .i64 (i:Int)∧lv=v∧Hid (w'.ownsRow w1.heap.size 3 1 v (preR g i).length (ints (preR g i)))∧Hid (Below w1.heap.size w1 w')) (fun _ iv _=>K - (intOf iv).toNat)
 case atStart=>exact⟨0,.slice none 0 0,by omega,rfl,rfl,zZ (World.ownsRow_nil _ _ _ _),zZ (zA _ _)⟩
 case round=>
  rename World=>wr
  obtain⟨i,v,hi,rfl,rfl,ho,hB⟩:=hrel
  have hs:=hB.out.size
  have c2':=(p1.to hB.out).cell (j:=2) rfl
  obtain⟨hpi,hp8⟩:=preR_led hm i
  by_cases hin:i<K
  ·obtain⟨r,hr⟩:∃ r,g.2.2[i]?=some r:=⟨_,zV (by omega)⟩
   obtain⟨b,off,rfl,hb,x1,xb⟩:=id_at (ids_below hB.out (rGr_open Hg.out).2.2) hr
   have hil:(i:Int)<(K:Int):=by omega
   have hi0:(0:Int)≤(i:Int):=by omega
   have TM:=zZ (rmet_any w1.heap.size _ (preR g i) r wr ho.out hs (by omega) (fun y hy=>id_wf hm (hpi y hy)))
   rw[← preR_next hr] at TM
   have HB:=zZ hB.out
   clear hr hpi hp8 ho hB
   go_wp2_with fail
   refine TM.out.mono ?_
   rintro e wz ⟨v',rfl,hown,hgo⟩
   have HB2:=zZ (HB.out.trans hgo.bel)
   have Ho2:=zZ hown
   clear hgo hown TM
   go_wp2
   go_roundw
   case rel=>exact⟨i+1,_,by omega,by go_num,rfl,Ho2,HB2⟩
   case measure=>simp[intOf];omega
  ·have hiK:i=K:=by omega
   have hpre:preR g i=g.2.2.foldl metL []:=by rw[preR,List.take_of_length_le (by omega)]
   rw[hpre] at ho
   clear hiK hpre hpi hp8
   go_wp2
   clear c2'
   go_loopw [4,6] (fun lv iv w'=>∃ (i:Nat) (v:Value) (l:List Int),i≤l.length∧iv=.int .i64 (i:Int)∧lv=v∧Hid (w'.ownsRow w1.heap.size 3 1 v l.length (ints l))∧Hid (Below w1.heap.size w1 w')∧Hid (MeetN g l i)) (fun _ iv _=>8 - (intOf iv).toNat)
   case atStart=>exact⟨0,_,_,by omega,rfl,rfl,ho,hB,zZ (MeetN.start hm)⟩
   case round=>
    clear ho hB hs
    rename World=>wx
    obtain⟨i,v,l,hi,rfl,rfl,ho,hB,hN8⟩:=hrel
    have hs:=hB.out.size
    have h8:=hN8.out.few hm
    obtain⟨Al,cl,rfl⟩:=own_slice3 ho.out
    by_cases hin:i<l.length
    ·obtain⟨x,hx⟩:∃ x,l[i]?=some x:=⟨_,zV (by omega)⟩
     obtain⟨o,hob,rfl⟩:=hN8.out.ids x (List.mem_of_getElem? hx)
     obtain⟨J,hJ,hgo⟩:=obj_place hm hob
     have hmo:=mayG_obj hm hob
     have Hnx:=zZ (hN8.out.next hm hx hob)
     have hrd:=ids_own ho.out rfl (fun y hy=>id_wf hm (hN8.out.ids y hy))
     obtain⟨b4,off4,rfl,hb4,x4,-⟩:=id_at hrd hx
     obtain⟨bo,offo,A2,c2o,rfl,hbo,x0,x1,x2,hov,ob1,ob2⟩:=ob_at (rGr_open Hg.out).2.1 hgo
     obtain⟨t,ht⟩:∃ t:Nat,o.2.1=(t:Int):=⟨o.2.1.toNat,by have:=hmo.t0;omega⟩
     have htN:t<N:=by have:=hmo.t1;omega
     have hgt:g.1[t]?=some g.1[t]:=zV (by omega)
     obtain⟨bt,offt,st,AF,cF,rfl,hbt,-,y1,-,-,hfs⟩:=typ_at (rGr_open Hg.out).1 hgt
     have hFe:=fldsG_at ht hgt
     rw[← hFe] at y1 hfs
     have hlen:=hmo.len
     have hfl:(fldsG g.1 o.2.1).length=o.2.2.length:=hlen
     have hol5:o.2.2.length≤5:=by have:=fields_few hm o.2.1;omega
     rw[hfl] at y1 hfs
     have hJM:J<M:=by have:=(List.getElem?_eq_some_iff.1 hgo).1;omega
     have hil:(i:Int)<(l.length:Int):=by omega
     have hi0:(0:Int)≤(i:Int):=by omega
     have hjl:(J:Int)<(M:Int):=by omega
     have hj0:(0:Int)≤(J:Int):=by omega
     rw[ht] at x1
     have l1:=p1.lt
     have HX:=zZ (fun (W:World) (hW:Below w1.heap.size w1 W)=>And.intro (And.intro ((hW.cell (p:=⟨w.heap.size,0,none⟩) l1).trans (p1.cell (j:=0) rfl)) (And.intro ((hW.cell (p:=⟨w.heap.size,1,none⟩) l1).trans (p1.cell (j:=1) rfl)) ((hW.cell (p:=⟨w.heap.size,2,none⟩) l1).trans (p1.cell (j:=2) rfl))))
      (And.intro (And.intro ((hW.cell (p:=⟨bo,offo+J * 3,none⟩) hbo).trans x0) (And.intro ((hW.cell (p:=⟨bo,offo+J * 3+1,none⟩) hbo).trans x1) ((hW.cell (p:=⟨bo,offo+J * 3+2,none⟩) hbo).trans x2))) ((hW.cell (p:=⟨bt,offt+t * 2+1,none⟩) hbt).trans y1)))
     have TF:=zZ (fun W (hW:Below w1.heap.size w1 W)=>rgfind_any _ _ C N c M d K e g o.1 W (gr_below hW Hg.out))
     rw[hJ] at TF
     have Hov:=zZ hov
     have Hfs:=zZ hfs
     have Hob:=zZ hob
     have Hlen:=zZ hlen
     have hb4':b4<wx.heap.size:=hb4.2
     have HSx:=zZ (fun (W:World) (hW:Below wx.heap.size wx W)=>And.intro (HX.out W (hB.out.trans (hW.mono (by omega)))) ((hW.cell (p:=⟨b4,off4+i,none⟩) hb4').trans x4))
     have Hids:=zZ hN8.out.ids
     have hnd0:=zZ hN8.out.nd
     clear x0 x1 x2 y1 x4 hov hfs hFe hgt hlen hfl hob hmo hJ hgo hx hrd hN8 hb4
     generalize hol:o.2.2.length=ol at *
     go_wp2
     have TFx:=zZ (fun W (hW:Below wx.heap.size wx W)=>TF.out W (hB.out.trans (hW.mono (by omega))))
     clear TF
     go_cut [7] (fun vb wy=>∃ b7:Nat,vb=.pointer (some ⟨b7,0,none⟩)∧Blk wy b7 53 [.int .i64 o.1,.int .i64 (t:Int),.slice A2 ol c2o]∧wx.heap.size≤b7∧Hid (Below wx.heap.size wx wy))
     case first=>
      refine fr_start (fun W=>Below wx.heap.size wx W) 12 (by kernel_rfl) rfl (fun _ _ _ _ _ h=>h) (zA _ wx).drew (fun hH=>?_)
      have hDs:wx.heap.size≤wx.drew.heap.size:=hH.size
      generalize wx.drew=wd at *
      (refine fr_yes 0 (v:=?_) rfl (by kernel_rfl) rfl ?_ hH ?_;rotate_left;(focus ((intro W hW;obtain⟨⟨⟨a0,a1,a2⟩,⟨b0,b1,b2⟩,d0⟩,n0⟩:=HSx.out W hW;go_simp) <;> with_reducible rfl));simp only[Act.put,zY,zX,zQ]);(refine fr_yes 1 (v:=?_) rfl (by kernel_rfl) rfl ?_ hH ?_;rotate_left;(focus ((intro W hW;obtain⟨⟨⟨a0,a1,a2⟩,⟨b0,b1,b2⟩,d0⟩,n0⟩:=HSx.out W hW;go_simp) <;> with_reducible rfl));simp only[Act.put,zY,zX,zQ]);(refine fr_yes 2 (v:=?_) rfl (by kernel_rfl) rfl ?_ hH ?_;rotate_left;(focus ((intro W hW;obtain⟨⟨⟨a0,a1,a2⟩,⟨b0,b1,b2⟩,d0⟩,n0⟩:=HSx.out W hW;go_simp) <;> with_reducible rfl));simp only[Act.put,zY,zX,zQ]);(refine fr_yes 3 (v:=?_) rfl (by kernel_rfl) rfl ?_ hH ?_;rotate_left;(focus ((intro W hW;obtain⟨⟨⟨a0,a1,a2⟩,⟨b0,b1,b2⟩,d0⟩,n0⟩:=HSx.out W hW;go_simp) <;> with_reducible rfl));simp only[Act.put,zY,zX,zQ]);(refine fr_yes 4 (v:=?_) rfl (by kernel_rfl) rfl ?_ hH ?_;rotate_left;(focus ((intro W hW;obtain⟨⟨⟨a0,a1,a2⟩,⟨b0,b1,b2⟩,d0⟩,n0⟩:=HSx.out W hW;go_simp) <;> with_reducible rfl));simp only[Act.put,zY,zX,zQ]);(refine fr_yes 5 (v:=?_) rfl (by kernel_rfl) rfl ?_ hH ?_;rotate_left;(focus ((intro W hW;obtain⟨⟨⟨a0,a1,a2⟩,⟨b0,b1,b2⟩,d0⟩,n0⟩:=HSx.out W hW;go_simp) <;> with_reducible rfl));simp only[Act.put,zY,zX,zQ]);(refine fr_yes 6 (v:=?_) rfl (by kernel_rfl) rfl ?_ hH ?_;rotate_left;(focus ((intro W hW;obtain⟨⟨⟨a0,a1,a2⟩,⟨b0,b1,b2⟩,d0⟩,n0⟩:=HSx.out W hW;go_simp) <;> with_reducible rfl));simp only[Act.put,zY,zX,zQ])
      refine fr_op [7,10] (by kernel_rfl) (by simp) ?_;intro jj hjj;simp only[List.mem_cons,List.not_mem_nil,or_false] at hjj;rcases hjj with rfl | rfl
      ·refine⟨_,rfl,rfl,fun K hK=>?_⟩
       go_wp2_with (go_at_call 31;refine (TFx.out _ hH).mono ?_;rintro e wg ⟨rfl,hCg⟩)
       have hDg:=hH.trans (hCg.mono hH.size)
       refine hK.out _ _ hDg ?_
       clear hK hH hCg
       have hH:=hDg
       (refine fr_yes 8 (v:=?_) rfl (by kernel_rfl) rfl ?_ hH ?_;rotate_left;(focus ((intro W hW;obtain⟨⟨⟨a0,a1,a2⟩,⟨b0,b1,b2⟩,d0⟩,n0⟩:=HSx.out W hW;go_simp) <;> with_reducible rfl));simp only[Act.put,zY,zX,zQ]);(refine fr_yes 9 (v:=?_) rfl (by kernel_rfl) rfl ?_ hH ?_;rotate_left;(focus ((intro W hW;obtain⟨⟨⟨a0,a1,a2⟩,⟨b0,b1,b2⟩,d0⟩,n0⟩:=HSx.out W hW;go_simp) <;> with_reducible rfl));simp only[Act.put,zY,zX,zQ])
       refine fr_op [10] (by kernel_rfl) (by simp) ?_;intro jj hjj;simp only[List.mem_cons,List.not_mem_nil,or_false] at hjj;subst hjj;refine⟨_,rfl,rfl,fun K hK=>?_⟩
       go_wp2
       refine hK.out _ _ (hDg.alloc hDg.size (.cells #[.int .i64 0,.int .i64 0,.slice none 0 0] 53)) ?_
       clear hK hH
       refine fr_op [11] (by kernel_rfl) (by simp) ?_;intro jj hjj;simp only[List.mem_cons,List.not_mem_nil,or_false] at hjj;subst hjj;refine⟨_,rfl,rfl,fun K hK=>?_⟩
       go_wp2
       have hDe:=hDg.alloc hDg.size (.cells #[.int .i64 o.1,.int .i64 (t:Int),.slice A2 ol c2o] 53)
       refine hK.out _ _ hDe ?_
       clear hK
       refine fr_done (by kernel_rfl) ?_
       go_wp2
       go_meet
       case rel=>exact⟨_,rfl,Blk.new _ _ [.int .i64 o.1,.int .i64 (t:Int),.slice A2 ol c2o],hDg.size,zZ hDe⟩
      ·refine⟨_,rfl,rfl,fun K hK=>?_⟩
       go_wp2
       have hDz:=hH.alloc hH.size (.cells #[.int .i64 0,.int .i64 0,.slice none 0 0] 53)
       have vz:=Blk.new wd 53 [.int .i64 0,.int .i64 0,.slice none 0 0]
       refine hK.out _ _ hDz ?_
       clear hK hH
       have hH:=hDz
       generalize wd.alloc (.cells #[.int .i64 0,.int .i64 0,.slice none 0 0] 53)=wz at *
       refine fr_op [7] (by kernel_rfl) (by simp) ?_;intro jj hjj;simp only[List.mem_cons,List.not_mem_nil,or_false] at hjj;subst hjj;refine⟨_,rfl,rfl,fun K hK=>?_⟩
       go_wp2_with (go_at_call 31;refine (TFx.out _ hDz).mono ?_;rintro e wg ⟨rfl,hCg⟩)
       have hDg:=hDz.trans (hCg.mono hDz.size)
       have vg:=vz.to hCg
       refine hK.out _ _ hDg ?_
       clear hK hH hCg hDz vz
       have hH:=hDg
       (refine fr_yes 8 (v:=?_) rfl (by kernel_rfl) rfl ?_ hH ?_;rotate_left;(focus ((intro W hW;obtain⟨⟨⟨a0,a1,a2⟩,⟨b0,b1,b2⟩,d0⟩,n0⟩:=HSx.out W hW;go_simp) <;> with_reducible rfl));simp only[Act.put,zY,zX,zQ]);(refine fr_yes 9 (v:=?_) rfl (by kernel_rfl) rfl ?_ hH ?_;rotate_left;(focus ((intro W hW;obtain⟨⟨⟨a0,a1,a2⟩,⟨b0,b1,b2⟩,d0⟩,n0⟩:=HSx.out W hW;go_simp) <;> with_reducible rfl));simp only[Act.put,zY,zX,zQ])
       have z0:=vg.cell (j:=0) rfl
       have z1:=vg.cell (j:=1) rfl
       have z2:=vg.cell (j:=2) rfl
       have f0:=vg.frozen 0
       have f1:=vg.frozen 1
       have f2:=vg.frozen 2
       refine fr_op [11] (by kernel_rfl) (by simp) ?_;intro jj hjj;simp only[List.mem_cons,List.not_mem_nil,or_false] at hjj;subst hjj;refine⟨_,rfl,rfl,fun K hK=>?_⟩
       go_wp2
       have hDe:=((hDg.setCell (p:=⟨wd.heap.size,0,none⟩) hDs (.int .i64 o.1)).setCell (p:=⟨wd.heap.size,1,none⟩) hDs (.int .i64 (t:Int))).setCell (p:=⟨wd.heap.size,2,none⟩) hDs (.slice A2 ol c2o)
       refine hK.out _ _ hDe ?_
       clear hK hH
       refine fr_done (by kernel_rfl) ?_
       go_wp2
       go_meet
       case rel=>exact⟨_,rfl,((vg.set 0 (.int .i64 o.1)).set 1 (.int .i64 (t:Int))).set 2 (.slice A2 ol c2o),hDs,zZ hDe⟩
     case rest=>
      obtain⟨b7,rfl,p7,hb7,hBx⟩:=hcut
      have HBc:=zZ (hB.out.trans (hBx.out.mono (by omega)))
      have Hoc:=zZ (own_below ho.out hBx.out)
      have hbn:some b7≠(Value.slice (some ⟨b4,off4,none⟩) l.length cl).ownBlock:=fun e=>by have:=(ho.out.lt b7 e.symm).2;omega
      have P7:=zZ p7
      have hnd:=hnd0.out
      have Hst:=zZ (fun k=>mets_ids (l:=l) (rs:=refsT (fldsG g.1 o.2.1) o.2.2 k) Hids.out (refsT_led hm Hob.out k))
      have Hfw:=zZ (fun k=>ids_few hm _ (mets_nodup (rs:=refsT (fldsG g.1 o.2.1) o.2.2 k) hnd) (Hst.out k))
      have Hall:Hid (refsT (fldsG g.1 o.2.1) o.2.2 ol=refsL g.1 o):=zZ (by have:=refsT_all (s:=g.1) (o:=o);rwa [Hlen.out] at this)
      have Hyes:=zZ (fun (k:Nat) f v h1 h2 h5=>refsT_yes (fs:=fldsG g.1 o.2.1) (vs:=o.2.2) (i:=k) (f:=f) (v:=v) h1 h2 h5)
      have Hno:=zZ (fun (k:Nat) f h1 h5=>refsT_no (fs:=fldsG g.1 o.2.1) (vs:=o.2.2) (i:=k) (f:=f) h1 (by rw[Hlen.out];exact hol.symm) h5)
      have Hpre:=zZ (mets_pre (refsL g.1 o) l)
      rw[ht] at Hfs Hst Hfw Hall Hyes Hno
      have hl0:refsT (fldsG g.1 (t:Int)) o.2.2 0=[]:=rfl
      clear p7 hB ho hnd
      go_wp2
      go_loopw [4,8] (fun lv kv w'=>∃ (k:Nat) (v:Value),k≤ol∧kv=.int .i64 (k:Int)∧lv=v∧Hid (w'.ownsRow w1.heap.size 3 1 v ((refsT (fldsG g.1 (t:Int)) o.2.2 k).foldl metL l).length (ints ((refsT (fldsG g.1 (t:Int)) o.2.2 k).foldl metL l)))∧Hid (Below w1.heap.size w1 w')∧Hid (Blk w' b7 53 [.int .i64 o.1,.int .i64 (t:Int),.slice A2 ol c2o]∧some b7≠v.ownBlock∧w1.heap.size≤b7)) (fun _ kv _=>ol - (intOf kv).toNat)
      case atStart=>exact⟨0,_,by omega,rfl,rfl,Hoc,HBc,zZ ⟨P7.out,hbn,by omega⟩⟩
      case round=>
       clear Hoc HBc P7 hbn hBx hb7
       rename World=>wy
       obtain⟨k,v,hk,rfl,rfl,ho,hB,hP⟩:=hrel
       have hsy:=hB.out.size
       obtain⟨⟨a0,a1,a2⟩,-,d0⟩:=HX.out _ hB.out
       have e1:=hP.out.1.cell (j:=1) rfl
       have e2:=hP.out.1.cell (j:=2) rfl
       by_cases hkn:k<ol
       ·obtain⟨v,hv⟩:∃ v,o.2.2[k]?=some v:=⟨_,zV (by omega)⟩
        obtain⟨f,hf⟩:∃ f,(fldsG g.1 (t:Int))[k]?=some f:=⟨_,zV (by have:=(slice_len Hfs.out).1;omega)⟩
        obtain⟨bv,offv,sv,rfl,hbv,-,-,v2,-,-,-,hvb⟩:=val_at Hov.out hv
        obtain⟨bf,offf,sx',tx,rfl,hbf,-,m1,-,-,-,-,-,-⟩:=fld_at Hfs.out hf
        have hkl:(k:Int)<(ol:Int):=by omega
        have hk00:(0:Int)≤(k:Int):=by omega
        have htl:(t:Int)<(N:Int):=by omega
        have ht00:(0:Int)≤(t:Int):=by omega
        have v2':=(hB.out.cell (p:=⟨bv,offv+k * 3+2,none⟩) hbv).trans v2
        have m1':=(hB.out.cell (p:=⟨bf,offf+k * 3+1,none⟩) hbf).trans m1
        by_cases h5:f.2.1=5
        ·have hys:=Hyes.out k f v hf hv h5
         have TM:=zZ (rmet_any w1.heap.size _ _ v.2.2 wy ho.out hsy (by have:=Hfw.out k;omega) (fun y hy=>id_wf hm (Hst.out k y hy)))
         have hfo:metL ((refsT (fldsG g.1 (t:Int)) o.2.2 k).foldl metL l) v.2.2=(refsT (fldsG g.1 (t:Int)) o.2.2 (k+1)).foldl metL l:=by rw[hys,List.foldl_append];rfl
         rw[hfo] at TM
         have h5':(f.2.1 == 5)=true:=by simp[h5]
         have HB:=zZ hB.out
         clear hv hf v2 m1 h5 hys hfo ho hB hvb
         generalize v.2.2=vr at *
         generalize f.2.1=fk at *
         go_wp2_with fail
         refine TM.out.mono ?_
         rintro e wz ⟨v',rfl,hown,hgo⟩
         have HB2:=zZ (HB.out.trans hgo.bel)
         have Ho2:=zZ hown
         have hbl:=hP.out.1.lt
         have HP2:Hid (Blk wz b7 53 [.int .i64 o.1,.int .i64 (t:Int),.slice (some ⟨bv,offv,none⟩) ol c2o]∧some b7≠v'.ownBlock∧w1.heap.size≤b7):=zZ ⟨(hgo.kept b7 hbl hP.out.2.1).trans hP.out.1,by
          rcases hgo.new with e | ⟨q,e,hq⟩
          ·rw[e];exact hP.out.2.1
          ·rw[e];intro e2;injection e2 with e2;omega,hP.out.2.2⟩
         clear hgo hown TM
         go_wp2
         go_roundw
         case rel=>exact⟨k+1,_,by omega,by go_num,rfl,Ho2,HB2,HP2⟩
         case measure=>simp[intOf];omega
        ·have hns:=Hno.out k f hf h5
         have h5':(f.2.1 == 5)=false:=by simp[h5]
         have Ho2:Hid (wy.ownsRow w1.heap.size 3 1 _ ((refsT (fldsG g.1 (t:Int)) o.2.2 (k+1)).foldl metL l).length (ints ((refsT (fldsG g.1 (t:Int)) o.2.2 (k+1)).foldl metL l))):=zZ (by rw[hns];exact ho.out)
         clear hv hf v2 m1 h5 hns ho hvb
         generalize f.2.1=fk at *
         go_wp2
         go_roundw
         case rel=>exact⟨k+1,_,by omega,by go_num,rfl,Ho2,hB,hP⟩
         case measure=>simp[intOf];omega
       ·have hko:k=ol:=by omega
        rw[hko,Hall.out] at ho
        clear hko
        go_wp2
        go_roundw
        case rel=>
         refine⟨i+1,_,(refsL g.1 o).foldl metL l,?_,by go_num,rfl,ho,hB,Hnx⟩
         obtain⟨mm,e⟩:=Hpre.out
         rw[e,List.length_append]
         omega
        case measure=>simp[intOf];omega
    ·have hil:l.length=i:=by omega
     have Hor:=zZ (hN8.out.done hil)
     have hrd:=ids_own ho.out rfl (fun y hy=>id_wf hm (hN8.out.ids y hy))
     have Hrd:=zZ hrd
     clear hrd ho hN8 hil
     go_wp2
     go_ret
     rw[Hor.out]
     exact⟨Al,cl,rfl,rIds_stays.to (Keeps.mono fun b hb=>⟨by omega,hb.2⟩) Hrd.out,H1.out.trans (hB.out.mono H1.out.size)⟩
theorem canon_ob {g:Gr} (hm:mayG g=true) {i:Nat} {o:Ob} (h:(ordG g)[i]?=some o.1) (ho:o∈g.2.1):(canonG g).2.1[i]?=some ((i:Int),o.2.1,leadV (atL (ordG g)) (fldsG g.1 o.2.1) o.2.2):=by
 have:=canon_at hm h
 rwa [canO,obj_of hm ho] at this
theorem rcanon_any (A B C:Option Addr) (N c M d K e:Nat) (g:Gr) (w:World) (h:rGr (All w) w [.slice A N c,.slice B M d,.slice C K e] g) (htame:tameS g.1):
  Calls Tryz.prog 28 #[.agg #[.slice A N c,.slice B M d,.slice C K e]] w fun e w'=>∃ A1 c1 B1 d1 C1 e1,e=.returned (.agg #[.slice A1 (canonG g).1.length c1,.slice B1 (canonG g).2.1.length d1,.slice C1 (canonG g).2.2.length e1]) ∧
   rGr (All w') w' [.slice A1 (canonG g).1.length c1,.slice B1 (canonG g).2.1.length d1,.slice C1 (canonG g).2.2.length e1] (canonG g)∧Below w.heap.size w w':=by
 obtain⟨i0,hi,hz0,hz1,hz2⟩:=info_parts info_obs
 obtain⟨j0,hj,hy0,hy1,hy2⟩:=info_parts info_int
 obtain⟨k0,hk,hx0,hx1,hx2⟩:=info_parts info_vals
 obtain⟨hN,-,hcm⟩:=slice_len (rGr_open h).1
 obtain⟨hMM,-,-⟩:=slice_len (rGr_open h).2.1
 obtain⟨hK,-,-⟩:=slice_len (rGr_open h).2.2
 simp only[maxLen] at hcm
 have hB0:Below w.heap.size w ((w.alloc (.cells #[.slice A N c,.slice B M d,.slice C K e] 28)).alloc (.cells #[.slice none 0 0,.slice none 0 0,.slice none 0 0] 28)):=((zA _ w).alloc (zW _) _).alloc (by simp) _
 obtain⟨p1,p2⟩:=blk_two w 28 28 [.slice A N c,.slice B M d,.slice C K e] [.slice none 0 0,.slice none 0 0,.slice none 0 0]
 have s0:((w.alloc (.cells #[.slice A N c,.slice B M d,.slice C K e] 28)).alloc (.cells #[.slice none 0 0,.slice none 0 0,.slice none 0 0] 28)).heap.size=w.heap.size+1+1:=by simp
 have T1:=zZ (rgmay_any A B C N c M d K e g _ (gr_below hB0 h) htame)
 have T2:=zZ (fun W (hW:Below w.heap.size w W)=>rorder_any A B C N c M d K e g W (gr_below hW h) htame)
 have H00:=zZ hB0
 have c0:=p1.cell (j:=0) rfl
 have c1:=p1.cell (j:=1) rfl
 have c2:=p1.cell (j:=2) rfl
 clear hB0
 go_enter Tryz.func28,Tryz.ntmps28
 go_wp2_with fail
 refine T1.out.mono ?_
 rintro e wa ⟨rfl,hBa⟩
 have Ha:=zZ (H00.out.trans (hBa.mono H00.out.size))
 have sa:w.heap.size+1+1≤wa.heap.size:=by rw[← s0];exact hBa.size
 replace p1:=p1.to hBa
 replace p2:=p2.to hBa
 clear hBa H00 T1 c0 c1 c2 s0
 by_cases hm:mayG g=true
 rotate_left
 ·replace hm:mayG g=false:=by simpa using hm
  rw[hm]
  have y0:=p2.cell (j:=0) rfl
  have y1:=p2.cell (j:=1) rfl
  have y2:=p2.cell (j:=2) rfl
  have g0:=p2.frozen 0
  have g1:=p2.frozen 1
  have g2:=p2.frozen 2
  go_wp2
  have P9:=((p2.set 0 (.slice none 0 0)).set 1 (.slice none 0 0)).set 2 (.slice none 0 0)
  refine ret_cell0 (d:=.struct _) (cs:=[.slice none 0 0,.slice none 0 0,.slice none 0 0]) rfl P9 rfl rfl rfl rfl rfl ?_
  rw[canonG_no hm]
  refine⟨none,0,none,0,none,0,rfl,rGr_none _,?_⟩
  exact ((Ha.out.setCell (p:=⟨w.heap.size+1,0,none⟩) (by simp) (.slice none 0 0)).setCell (p:=⟨w.heap.size+1,1,none⟩) (by simp) (.slice none 0 0)).setCell (p:=⟨w.heap.size+1,2,none⟩) (by simp) (.slice none 0 0)
 rw[hm]
 have hM8:=ordG_few hm
 have hK3:=(mayG_parts hm).2.2.2.1
 rw[hK] at hK3
 have c0:=p1.cell (j:=0) rfl
 have c1:=p1.cell (j:=1) rfl
 have c2:=p1.cell (j:=2) rfl
 go_wp2_with fail
 refine (T2.out _ Ha.out).mono ?_
 rintro e w2 ⟨A4,c4,rfl,hl,hB2⟩
 have s2:=hB2.size
 have p3:=Blk.new w2 28 [.slice A N c,.slice none 0 0,.slice none 0 0]
 have hB3:Below w2.heap.size w2 (w2.alloc (.cells #[.slice A N c,.slice none 0 0,.slice none 0 0] 28)):=(zA _ w2).alloc (zW _) _
 have hB23:=hB2.trans (hB3.mono hB2.size)
 have s1:(w2.alloc (.cells #[.slice A N c,.slice none 0 0,.slice none 0 0] 28)).heap.size=w2.heap.size+1:=by simp
 have H0:=zZ (Ha.out.trans (hB23.mono Ha.out.size))
 have Hg:Hid (rGr (fun k=>k<w.heap.size) _ [.slice A N c,.slice B M d,.slice C K e] g):=zZ (rGr_stays.to (S:=All w) (fun k hk=>⟨hk,H0.out.block k hk⟩) h)
 have P1:=zZ ((p1.to hB2).to hB3)
 have P2:=zZ ((p2.to hB2).to hB3)
 have P3:=zZ p3
 have Hl0:=zZ (rIds_stays.to (S':=fun k=>k<w2.heap.size) (fun k hk=>⟨hk.2,hB3.block k hk.2⟩) hl)
 have hb2:w.heap.size+1+1≤w2.heap.size:=by omega
 replace p1:=p1.to hB2
 clear h hB23 hB2 hB3 p2 p3 hl Ha T2 c0 c1 c2
 have c0:=p1.cell (j:=0) rfl
 have c1:=p1.cell (j:=1) rfl
 have c2:=p1.cell (j:=2) rfl
 obtain⟨MM,rfl⟩:∃ x,x=M:=⟨_,rfl⟩
 generalize hM:(ordG g).length=M at *
 go_wp2
 generalize w2.alloc (.cells #[.slice A N c,.slice none 0 0,.slice none 0 0] 28)=w1 at *
 clear c0 c1 c2 p1 s2 sa
 go_loopw [6] (fun iv w'=>∃ (i:Nat) (vO:Value) (xs:List Value),i≤M∧iv=.int .i64 (i:Int)∧Hid (RowIn w2.heap.size 1 28 53 3 [.slice A N c,.slice none 0 0,.slice none 0 0] w1 vO i xs w')∧Hid (Chunks 3 (rOb (fun k=>w1.heap.size≤k∧k<w'.heap.size∧some k≠vO.ownBlock) w') xs ((canonG g).2.1.take i))) (fun iv _=>M - (intOf iv).toNat)
 case atStart=>exact⟨0,.slice none 0 0,[],by omega,rfl,zZ (RowIn.start P3.out rfl),zZ Chunks.nil⟩
 case round=>
  rename World=>wr
  obtain⟨i,vO,xs,hi',rfl,hO,hch⟩:=hrel
  have hsr:=hO.out.bel.size
  by_cases hin:i<M
  ·obtain⟨x,hx⟩:∃ x,(ordG g)[i]?=some x:=⟨_,zV (by omega)⟩
   obtain⟨o,hom,rfl,-⟩:=ord_obj hm (List.mem_of_getElem? hx)
   obtain⟨J,hJ,ho⟩:=obj_place hm hom
   obtain⟨b4,off4,rfl,hb4,x4,-⟩:=id_at Hl0.out hx
   have hJM:J<MM:=by have:=(List.getElem?_eq_some_iff.1 ho).1;omega
   have htk:=take_at (canon_ob hm hx hom)
   have hmo:=mayG_obj hm hom
   have hlv:=leadV_len (atL (ordG g)) (fldsG g.1 o.2.1) o.2.2 hmo.len
   obtain⟨bo,offo,A2,c2,rfl,hbo,x0,x1,x2,hov,ob1,ob2⟩:=ob_at (rGr_open Hg.out).2.1 ho
   obtain⟨t,ht⟩:∃ t:Nat,o.2.1=(t:Int):=⟨o.2.1.toNat,by have:=hmo.t0;omega⟩
   have htb:(t:Int)≤9223372036854775807:=by rw[← ht];exact ob2.2
   have htN:t<N:=by have:=hmo.t1;omega
   have hgt:g.1[t]?=some g.1[t]:=zV (by omega)
   obtain⟨bt,offt,st,AF,cF,rfl,hbt,-,y1,-,-,hfs⟩:=typ_at (rGr_open Hg.out).1 hgt
   have hFe:=fldsG_at ht hgt
   rw[← hFe] at y1 hfs
   have hlen:=hmo.len
   have hol5:o.2.2.length≤5:=by have:=fields_few hm o.2.1;omega
   have hfl:(fldsG g.1 o.2.1).length=o.2.2.length:=hlen
   rw[hfl] at y1 hfs
   have hatb:=zZ (fun x=>atL_wf (L:=ordG g) (by omega) x)
   have hl1:w.heap.size<w1.heap.size:=by omega
   have HX:=zZ (fun (W:World) (hW:Below w2.heap.size w1 W)=>And.intro ((hW.cell (p:=⟨w.heap.size,0,none⟩) (by show w.heap.size<_;omega)).trans (P1.out.cell (j:=0) rfl)) (And.intro ((hW.cell (p:=⟨w.heap.size,1,none⟩) (by show w.heap.size<_;omega)).trans (P1.out.cell (j:=1) rfl)) (And.intro ((hW.cell (p:=⟨w.heap.size,2,none⟩) (by show w.heap.size<_;omega)).trans (P1.out.cell (j:=2) rfl))
    (And.intro ((hW.cell (p:=⟨bo,offo+J * 3,none⟩) (by show bo<_;omega)).trans x0) (And.intro ((hW.cell (p:=⟨bo,offo+J * 3+1,none⟩) (by show bo<_;omega)).trans x1) (And.intro ((hW.cell (p:=⟨bo,offo+J * 3+2,none⟩) (by show bo<_;omega)).trans x2) ((hW.cell (p:=⟨bt,offt+t * 2+1,none⟩) (by show bt<_;omega)).trans y1)))))))
   rw[ht] at HX
   have Htk:=zZ htk
   have Hov:=zZ hov
   have Hfs:=zZ hfs
   have Hlen:=zZ hlen
   have Hlv:=zZ hlv
   obtain⟨a0,a1,a2,a3,a4,a5,a6⟩:=HX.out wr hO.out.bel
   have hjl:(J:Int)<(MM:Int):=by omega
   have hi00:(0:Int)≤(i:Int):=by omega
   have hj00:(0:Int)≤(J:Int):=by omega
   have hil:(i:Int)<(M:Int):=by omega
   have HSx:=zZ (fun (W:World) (hW:Below wr.heap.size wr W)=>And.intro (HX.out W (hO.out.bel.trans (hW.mono (by omega)))) (((hO.out.bel.trans (hW.mono (by omega))).cell (p:=⟨b4,off4+i,none⟩) hb4).trans x4))
   have TFx:=zZ (fun W (hW:Below wr.heap.size wr W)=>rgfind_any _ _ C N c MM d K e g o.1 W (rGr_stays.to (S':=All _) (fun k hk=>⟨by show k<_;have:=hW.size;have:k<w.heap.size:=hk;omega,(hO.out.bel.trans (hW.mono (by omega))).block k (by have:k<w.heap.size:=hk;omega)⟩) Hg.out))
   rw[hJ] at TFx
   clear a0 a1 a2 a3 a4 a5 a6
   clear ho hom htk hmo hlv hov hfs hlen hfl hFe hgt x0 x1 x2 y1 hx x4 hJ
   generalize hold:o.2.2.length=ol at *
   rw[ht] at Htk
   go_wp2
   go_cut [7] (fun vb wy=>∃ b7:Nat,vb=.pointer (some ⟨b7,0,none⟩)∧Blk wy b7 53 [.int .i64 o.1,.int .i64 (t:Int),.slice A2 ol c2]∧wr.heap.size≤b7∧Hid (Below wr.heap.size wr wy))
   case first=>
    refine fr_start (fun W=>Below wr.heap.size wr W) 12 (by kernel_rfl) rfl (fun _ _ _ _ _ h=>h) (zA _ wr).drew (fun hH=>?_)
    have hDs:wr.heap.size≤wr.drew.heap.size:=hH.size
    generalize wr.drew=wd at *
    (refine fr_yes 0 (v:=?_) rfl (by kernel_rfl) rfl ?_ hH ?_;rotate_left;(focus ((intro W hW;obtain⟨⟨a0,a1,a2,a3,a4,a5,a6⟩,n0⟩:=HSx.out W hW;go_simp) <;> with_reducible rfl));simp only[Act.put,zY,zX,zQ]);(refine fr_yes 1 (v:=?_) rfl (by kernel_rfl) rfl ?_ hH ?_;rotate_left;(focus ((intro W hW;obtain⟨⟨a0,a1,a2,a3,a4,a5,a6⟩,n0⟩:=HSx.out W hW;go_simp) <;> with_reducible rfl));simp only[Act.put,zY,zX,zQ]);(refine fr_yes 2 (v:=?_) rfl (by kernel_rfl) rfl ?_ hH ?_;rotate_left;(focus ((intro W hW;obtain⟨⟨a0,a1,a2,a3,a4,a5,a6⟩,n0⟩:=HSx.out W hW;go_simp) <;> with_reducible rfl));simp only[Act.put,zY,zX,zQ]);(refine fr_yes 3 (v:=?_) rfl (by kernel_rfl) rfl ?_ hH ?_;rotate_left;(focus ((intro W hW;obtain⟨⟨a0,a1,a2,a3,a4,a5,a6⟩,n0⟩:=HSx.out W hW;go_simp) <;> with_reducible rfl));simp only[Act.put,zY,zX,zQ]);(refine fr_yes 4 (v:=?_) rfl (by kernel_rfl) rfl ?_ hH ?_;rotate_left;(focus ((intro W hW;obtain⟨⟨a0,a1,a2,a3,a4,a5,a6⟩,n0⟩:=HSx.out W hW;go_simp) <;> with_reducible rfl));simp only[Act.put,zY,zX,zQ]);(refine fr_yes 5 (v:=?_) rfl (by kernel_rfl) rfl ?_ hH ?_;rotate_left;(focus ((intro W hW;obtain⟨⟨a0,a1,a2,a3,a4,a5,a6⟩,n0⟩:=HSx.out W hW;go_simp) <;> with_reducible rfl));simp only[Act.put,zY,zX,zQ]);(refine fr_yes 6 (v:=?_) rfl (by kernel_rfl) rfl ?_ hH ?_;rotate_left;(focus ((intro W hW;obtain⟨⟨a0,a1,a2,a3,a4,a5,a6⟩,n0⟩:=HSx.out W hW;go_simp) <;> with_reducible rfl));simp only[Act.put,zY,zX,zQ])
    refine fr_op [7,10] (by kernel_rfl) (by simp) ?_;intro jj hjj;simp only[List.mem_cons,List.not_mem_nil,or_false] at hjj;rcases hjj with rfl | rfl
    ·refine⟨_,rfl,rfl,fun K hK=>?_⟩
     go_wp2_with (go_at_call 31;refine (TFx.out _ hH).mono ?_;rintro e wg ⟨rfl,hCg⟩)
     have hDg:=hH.trans (hCg.mono hH.size)
     refine hK.out _ _ hDg ?_
     clear hK hH hCg
     have hH:=hDg
     (refine fr_yes 8 (v:=?_) rfl (by kernel_rfl) rfl ?_ hH ?_;rotate_left;(focus ((intro W hW;obtain⟨⟨a0,a1,a2,a3,a4,a5,a6⟩,n0⟩:=HSx.out W hW;go_simp) <;> with_reducible rfl));simp only[Act.put,zY,zX,zQ]);(refine fr_yes 9 (v:=?_) rfl (by kernel_rfl) rfl ?_ hH ?_;rotate_left;(focus ((intro W hW;obtain⟨⟨a0,a1,a2,a3,a4,a5,a6⟩,n0⟩:=HSx.out W hW;go_simp) <;> with_reducible rfl));simp only[Act.put,zY,zX,zQ])
     refine fr_op [10] (by kernel_rfl) (by simp) ?_;intro jj hjj;simp only[List.mem_cons,List.not_mem_nil,or_false] at hjj;subst hjj;refine⟨_,rfl,rfl,fun K hK=>?_⟩
     go_wp2
     refine hK.out _ _ (hDg.alloc hDg.size (.cells #[.int .i64 0,.int .i64 0,.slice none 0 0] 53)) ?_
     clear hK hH
     refine fr_op [11] (by kernel_rfl) (by simp) ?_;intro jj hjj;simp only[List.mem_cons,List.not_mem_nil,or_false] at hjj;subst hjj;refine⟨_,rfl,rfl,fun K hK=>?_⟩
     go_wp2
     have hDe:=hDg.alloc hDg.size (.cells #[.int .i64 o.1,.int .i64 (t:Int),.slice A2 ol c2] 53)
     refine hK.out _ _ hDe ?_
     clear hK
     refine fr_done (by kernel_rfl) ?_
     go_wp2
     go_meet
     case rel=>exact⟨_,rfl,Blk.new _ _ [.int .i64 o.1,.int .i64 (t:Int),.slice A2 ol c2],hDg.size,zZ hDe⟩
    ·refine⟨_,rfl,rfl,fun K hK=>?_⟩
     go_wp2
     have hDz:=hH.alloc hH.size (.cells #[.int .i64 0,.int .i64 0,.slice none 0 0] 53)
     have vz:=Blk.new wd 53 [.int .i64 0,.int .i64 0,.slice none 0 0]
     refine hK.out _ _ hDz ?_
     clear hK hH
     have hH:=hDz
     generalize wd.alloc (.cells #[.int .i64 0,.int .i64 0,.slice none 0 0] 53)=wz at *
     refine fr_op [7] (by kernel_rfl) (by simp) ?_;intro jj hjj;simp only[List.mem_cons,List.not_mem_nil,or_false] at hjj;subst hjj;refine⟨_,rfl,rfl,fun K hK=>?_⟩
     go_wp2_with (go_at_call 31;refine (TFx.out _ hDz).mono ?_;rintro e wg ⟨rfl,hCg⟩)
     have hDg:=hDz.trans (hCg.mono hDz.size)
     have vg:=vz.to hCg
     refine hK.out _ _ hDg ?_
     clear hK hH hCg hDz vz
     have hH:=hDg
     (refine fr_yes 8 (v:=?_) rfl (by kernel_rfl) rfl ?_ hH ?_;rotate_left;(focus ((intro W hW;obtain⟨⟨a0,a1,a2,a3,a4,a5,a6⟩,n0⟩:=HSx.out W hW;go_simp) <;> with_reducible rfl));simp only[Act.put,zY,zX,zQ]);(refine fr_yes 9 (v:=?_) rfl (by kernel_rfl) rfl ?_ hH ?_;rotate_left;(focus ((intro W hW;obtain⟨⟨a0,a1,a2,a3,a4,a5,a6⟩,n0⟩:=HSx.out W hW;go_simp) <;> with_reducible rfl));simp only[Act.put,zY,zX,zQ])
     have z0:=vg.cell (j:=0) rfl
     have z1:=vg.cell (j:=1) rfl
     have z2:=vg.cell (j:=2) rfl
     have f0:=vg.frozen 0
     have f1:=vg.frozen 1
     have f2:=vg.frozen 2
     refine fr_op [11] (by kernel_rfl) (by simp) ?_;intro jj hjj;simp only[List.mem_cons,List.not_mem_nil,or_false] at hjj;subst hjj;refine⟨_,rfl,rfl,fun K hK=>?_⟩
     go_wp2
     have hDe:=((hDg.setCell (p:=⟨wd.heap.size,0,none⟩) hDs (.int .i64 o.1)).setCell (p:=⟨wd.heap.size,1,none⟩) hDs (.int .i64 (t:Int))).setCell (p:=⟨wd.heap.size,2,none⟩) hDs (.slice A2 ol c2)
     refine hK.out _ _ hDe ?_
     clear hK hH
     refine fr_done (by kernel_rfl) ?_
     go_wp2
     go_meet
     case rel=>exact⟨_,rfl,((vg.set 0 (.int .i64 o.1)).set 1 (.int .i64 (t:Int))).set 2 (.slice A2 ol c2),hDs,zZ hDe⟩
   case rest=>
   obtain⟨b7,rfl,p7,hb7,hBc⟩:=hcut
   have hsc:=hBc.out.size
   have hbl:=p7.lt
   have q1:=p7.alloc (.cells #[.int .i64 (i:Int),.int .i64 (t:Int),.slice none 0 0] 53)
   have q2:=Blk.new wc 53 [.int .i64 (i:Int),.int .i64 (t:Int),.slice none 0 0]
   have hB2:=hBc.out.alloc hBc.out.size (.cells #[.int .i64 (i:Int),.int .i64 (t:Int),.slice none 0 0] 53)
   have s2:(wc.alloc (.cells #[.int .i64 (i:Int),.int .i64 (t:Int),.slice none 0 0] 53)).heap.size=1+wc.heap.size:=by rw[Nat.add_comm];exact World.size_alloc ..
   have Q1:=zZ q1
   have Q2:=zZ q2
   have HB2:=zZ hB2
   have k1:=p7.cell (j:=1) rfl
   clear q1 q2 hB2 hBc TFx HSx
   go_wp2
   generalize wc.alloc (.cells #[.int .i64 (i:Int),.int .i64 (t:Int),.slice none 0 0] 53)=wi at *
   clear p7 k1
   have Hla:=zZ (fun (k:Nat) f v (h1:(fldsG g.1 o.2.1)[k]?=some f) (h2:o.2.2[k]?=some v)=>leadV_at (atL (ordG g)) h1 h2)
   rw[ht] at Hla
   generalize hlvd:leadV (atL (ordG g)) (fldsG g.1 (t:Int)) o.2.2=lv at *
   rw[ht] at Hlv Hfs
   rw[hlvd] at Hlv
   clear hlvd
   have hs2:=HB2.out.size
   go_loopw [9] (fun kv w'=>∃ (k:Nat) (vF:Value) (ys:List Value),k≤ol∧kv=.int .i64 (k:Int)∧Hid (RowIn wc.heap.size 2 53 47 3 [.int .i64 (i:Int),.int .i64 (t:Int),.slice none 0 0] wi vF k ys w')∧Hid (Chunks 3 (fun cs x=>∀ S W,rVal S W cs x) ys (lv.take k))) (fun kv _=>ol - (intOf kv).toNat)
   case atStart=>exact⟨0,.slice none 0 0,[],by omega,rfl,zZ (RowIn.start Q2.out rfl),zZ Chunks.nil⟩
   case round=>
    rename World=>wx
    obtain⟨k,vF,ys,hk',rfl,hI,hcv⟩:=hrel
    have sx:=hI.out.bel.size
    have hBi:Below wr.heap.size wr wx:=HB2.out.trans (hI.out.bel.mono (by omega))
    have hBx:Below w2.heap.size w1 wx:=hO.out.bel.trans (hBi.mono (by omega))
    have q6:=(hI.out.bel.cell (p:=⟨b7,2,none⟩) (by show b7<_;omega)).trans (Q1.out.cell (j:=2) rfl)
    obtain⟨AF2,cF2,rfl⟩:=own_slice3 hI.out.own
    by_cases hkn:k<ol
    ·obtain⟨v,hv⟩:∃ v,o.2.2[k]?=some v:=⟨_,zV (by omega)⟩
     obtain⟨f,hf⟩:∃ f,(fldsG g.1 (t:Int))[k]?=some f:=⟨_,zV (by have:=(slice_len Hfs.out).1;omega)⟩
     have hla:=Hla.out k f v hf hv
     have Htv:=zZ (take_at hla)
     obtain⟨bv,offv,sv,rfl,hbv,v0,v1,v2,hsv,hsm,hvn,hvb⟩:=val_at Hov.out hv
     obtain⟨bf,offf,sx',tx,rfl,hbf,-,m1,-,-,-,-,-,-⟩:=fld_at Hfs.out hf
     have hkl:(k:Int)<(ol:Int):=by omega
     have hk00:(0:Int)≤(k:Int):=by omega
     obtain⟨vn,vs,vr⟩:=v
     obtain⟨fa,fk,fb⟩:=f
     simp only at v0 v1 v2 m1 hsv hvn hvb hla
     have v0':=(hBx.cell (p:=⟨bv,offv+k * 3,none⟩) (by show bv<_;omega)).trans v0
     have v1':=(hBx.cell (p:=⟨bv,offv+k * 3+1,none⟩) (by show bv<_;omega)).trans v1
     have v2':=(hBx.cell (p:=⟨bv,offv+k * 3+2,none⟩) (by show bv<_;omega)).trans v2
     have hB9:Below wx.heap.size wx (wx.alloc (.cells #[.int .i64 vn,.string sv,.int .i64 vr] 47)):=(zA _ wx).alloc (zW _) _
     have n9:=Blk.new wx 47 [.int .i64 vn,.string sv,.int .i64 vr]
     have hIy:=hI.out.more (by omega) hB9
     have d1b:=(hB9.cell (p:=⟨b7,1,none⟩) (by show b7<_;omega)).trans ((hI.out.bel.cell (p:=⟨b7,1,none⟩) (by show b7<_;omega)).trans (Q1.out.cell (j:=1) rfl))
     have hBy:=hBx.trans (hB9.mono (by omega))
     have m1':=(hBy.cell (p:=⟨bf,offf+k * 3+1,none⟩) (by show bf<_;omega)).trans m1
     obtain⟨a0,a1,a2,a3,a4,a5,a6⟩:=HX.out _ hBy
     have d1:=hIy.bx.cell (j:=1) rfl
     have d2:=hIy.bx.cell (j:=2) rfl
     have n0:=n9.cell (j:=0) rfl
     have n1:=n9.cell (j:=1) rfl
     have n2:=n9.cell (j:=2) rfl
     have f2:=n9.frozen 2
     have Hvs:=zZ hsv
     have Hwn:Hid ((Lit.int .i64 vn).wf=true):=zZ (WalkArith.wf_i64 hvn)
     have Hwr:Hid ((Lit.int .i64 vr).wf=true):=zZ (WalkArith.wf_i64 hvb)
     have HB9:=zZ hB9
     have N9:=zZ n9
     have sy:(wx.alloc (.cells #[.int .i64 vn,.string sv,.int .i64 vr] 47)).heap.size=wx.heap.size+1:=by simp
     have HBx:=zZ hBx
     clear hv hf hla v0 v1 v2 m1 hsv hvn hvb hB9 n9 hIy hBy hBx hBi
     by_cases h5:fk=5
     ·subst h5
      rw[if_pos rfl] at Htv
      have hlw:=(Hl0.out)
      have TA:=zZ (rat_any (some ⟨b4,off4,none⟩) M c4 (ordG g) vr _ (rIds_stays.to (S':=All (wx.alloc (.cells #[.int .i64 vn,.string sv,.int .i64 vr] 47))) (fun k hk=>⟨by show k<_;have:k<w2.heap.size:=hk;omega,(HBx.out.trans (HB9.out.mono (by omega))).block k hk⟩) hlw))
      have hax:=hatb.out vr
      clear hlw
      generalize atL (ordG g) vr=ax at *
      go_wp2_with fail
      refine TA.out.mono ?_
      rintro e wz ⟨rfl,hwz⟩
      subst hwz
      have hd2:=d2
      clear TA d2
      have d2:=(World.cell?_setCell_far (wx.alloc (.cells #[.int .i64 vn,.string sv,.int .i64 vr] 47)) ⟨wx.heap.size,2,none⟩ ⟨wc.heap.size,2,none⟩ (.int .i64 ax) (by show wx.heap.size≠wc.heap.size;omega)).trans hd2
      have Hset:=zZ (HB9.out.setCell (p:=⟨wx.heap.size,2,none⟩) (zW _) (.int .i64 ax))
      have N9':=zZ (N9.out.set 2 (.int .i64 ax))
      have z0:=N9'.out.cell (j:=0) rfl
      have z1:=N9'.out.cell (j:=1) rfl
      have z2:=N9'.out.cell (j:=2) rfl
      have Hwj:Hid ((Lit.int .i64 ax).wf=true):=zZ (WalkArith.wf_i64 ⟨by omega,by omega⟩)
      clear N9 hd2 hax
      generalize wx.alloc (.cells #[.int .i64 vn,.string sv,.int .i64 vr] 47)=wz at *
      have szx:wx.heap.size≤wz.heap.size:=by omega
      clear sy
      have ssz:(wz.setCell ⟨wx.heap.size,2,none⟩ (.int .i64 ax)).heap.size=wz.heap.size:=by simp
      have hIt:=hI.out.more (by omega) (Hset.out)
      have t1:k+1≤maxLen:=by simp only[maxLen];omega
      have t2:(k+1) * 32≤140737488355328:=by omega
      have t3:wi.heap.size≤((wz.setCell ⟨wx.heap.size,2,none⟩ (.int .i64 ax)).alloc (.cells #[.int .i64 vn,.string sv,.int .i64 ax] 47)).heap.size:=by have:=(Hset.out).size;simp only[World.size_alloc] at this ⊢;omega
      have t4:Rd ((wz.setCell ⟨wx.heap.size,2,none⟩ (.int .i64 ax)).alloc (.cells #[.int .i64 vn,.string sv,.int .i64 ax] 47)) (some ⟨wz.heap.size,0,none⟩) [.int .i64 vn,.string sv,.int .i64 ax]:=by have:=(Blk.new (wz.setCell ⟨wx.heap.size,2,none⟩ (.int .i64 ax)) 47 [.int .i64 vn,.string sv,.int .i64 ax]).rd;rwa [ssz] at this
      have t5:=hIt.own.alloc (.cells #[.int .i64 vn,.string sv,.int .i64 ax] 47)
      go_wp2_with (first
       | (at_builtin;refine wpList_apps rfl (.tmp 73) (.tmp 75) 51 rfl wi.heap.size 47 k0 (.agg #[.int .i64 0,.string ⟨#[]⟩,.int .i64 0]) 3 32 Tryz.underlying51 hk hx0 hx1 hx2 rfl (by omega) (.slice AF2 k cF2) k ys rfl t5 (some ⟨wz.heap.size,0,none⟩) 1 1 [.int .i64 vn,.string sv,.int .i64 ax] rfl rfl t4 (by simp[Value.oneCell']) t1 t2 t3 ?_;intro v4 w4 hown4 hg4 hv4;obtain⟨bx4,hR4⟩:=hI.out.step (by omega) (Hset.out) hg4 hown4;obtain⟨A4,c4,rfl⟩:=own_slice3 hown4;have e4:=bx4.cell (j:=2) rfl;have f4:=bx4.frozen 2;have HR4:=zZ hR4;clear hR4 hown4 hg4 hv4 bx4)
       | fail)
      go_roundw
      case rel=>exact⟨k+1,_,_,by omega,by go_num,HR4,zZ (by rw[Htv.out];exact hcv.out.append (Chunks.one rfl fun S W=>rVal_mk (v:=(vn,vs,ax)) Hvs.out hsm Hwn.out Hwj.out))⟩
      case measure=>simp[intOf];omega
     ·have hk5:(fk == 5)=false:=by simpa using h5
      rw[if_neg h5] at Htv
      clear h5
      have hIt:=hI.out.more (by omega) (HB9.out)
      have t1:k+1≤maxLen:=by simp only[maxLen];omega
      have t2:(k+1) * 32≤140737488355328:=by omega
      have t3:wi.heap.size≤((wx.alloc (.cells #[.int .i64 vn,.string sv,.int .i64 vr] 47)).alloc (.cells #[.int .i64 vn,.string sv,.int .i64 vr] 47)).heap.size:=by have:=(HB9.out).size;simp only[World.size_alloc] at this ⊢;omega
      have t4:Rd ((wx.alloc (.cells #[.int .i64 vn,.string sv,.int .i64 vr] 47)).alloc (.cells #[.int .i64 vn,.string sv,.int .i64 vr] 47)) (some ⟨wx.heap.size+1,0,none⟩) [.int .i64 vn,.string sv,.int .i64 vr]:=by have:=(Blk.new (wx.alloc (.cells #[.int .i64 vn,.string sv,.int .i64 vr] 47)) 47 [.int .i64 vn,.string sv,.int .i64 vr]).rd;rwa [sy] at this
      have t5:=hIt.own.alloc (.cells #[.int .i64 vn,.string sv,.int .i64 vr] 47)
      go_wp2_with (first
       | (at_builtin;refine wpList_apps rfl (.tmp 73) (.tmp 75) 51 rfl wi.heap.size 47 k0 (.agg #[.int .i64 0,.string ⟨#[]⟩,.int .i64 0]) 3 32 Tryz.underlying51 hk hx0 hx1 hx2 rfl (by omega) (.slice AF2 k cF2) k ys rfl t5 (some ⟨wx.heap.size+1,0,none⟩) 1 1 [.int .i64 vn,.string sv,.int .i64 vr] rfl rfl t4 (by simp[Value.oneCell']) t1 t2 t3 ?_;intro v4 w4 hown4 hg4 hv4;obtain⟨bx4,hR4⟩:=hI.out.step (by omega) (HB9.out) hg4 hown4;obtain⟨A4,c4,rfl⟩:=own_slice3 hown4;have e4:=bx4.cell (j:=2) rfl;have f4:=bx4.frozen 2;have HR4:=zZ hR4;clear hR4 hown4 hg4 hv4 bx4)
       | fail)
      go_roundw
      case rel=>exact⟨k+1,_,_,by omega,by go_num,HR4,zZ (by rw[Htv.out];exact hcv.out.append (Chunks.one rfl fun S W=>rVal_mk (v:=(vn,vs,vr)) Hvs.out hsm Hwn.out Hwr.out))⟩
      case measure=>simp[intOf];omega
    ·have hkol:k=ol:=by omega
     rw[List.take_of_length_le (by have:=Hlv.out;omega)] at hcv
     have HoF:Hid (wx.ownsRow wi.heap.size 47 3 (.slice AF2 ol cF2) ol ys):=zZ (by have:=hI.out.own;rwa [hkol] at this)
     have hval:rOb (fun k=>wr.heap.size≤k∧k<wx.heap.size) wx [.int .i64 (i:Int),.int .i64 (t:Int),.slice AF2 ol cF2] ((i:Int),(t:Int),lv):=by
      have hv:=own_vals HoF.out Hlv.out hcv.out
      have hl:=HoF.out.lt
      have e:=rOb_mk (S:=fun k=>wr.heap.size≤k∧k<wx.heap.size) (w:=wx) (o:=((i:Int),(t:Int),lv)) (A:=AF2) (n:=ol) (c:=cF2) (show (Lit.int .i64 (i:Int)).wf=true from WalkArith.wf_i64 ⟨by omega,by omega⟩) (show (Lit.int .i64 (t:Int)).wf=true from WalkArith.wf_i64 ⟨by omega,by omega⟩) (rVals_stays.to (Keeps.mono fun b hb=>by have:=hl b hb;omega) hv)
      exact e
     have q0:=hI.out.bx.cell (j:=0) rfl
     have q1:=hI.out.bx.cell (j:=1) rfl
     have q2:wx.cell? ⟨wc.heap.size,2,none⟩=some (.slice AF2 ol cF2):=by have:=hI.out.bx.cell (j:=2) rfl;rwa [hkol] at this
     have hOt:=hO.out.more (by omega) hBi
     obtain⟨Av,cv,rfl⟩:=own_slice3 hO.out.own
     have d1:=hOt.bx.cell (j:=1) rfl
     have t1:i+1≤maxLen:=by simp only[maxLen];omega
     have t2:(i+1) * 40≤140737488355328:=by omega
     have t3:w1.heap.size≤(wx.alloc (.cells #[.int .i64 (i:Int),.int .i64 (t:Int),.slice AF2 ol cF2] 53)).heap.size:=by simp only[World.size_alloc];omega
     have t4:=(Blk.new wx 53 [.int .i64 (i:Int),.int .i64 (t:Int),.slice AF2 ol cF2]).rd
     have t5:=hOt.own.alloc (.cells #[.int .i64 (i:Int),.int .i64 (t:Int),.slice AF2 ol cF2] 53)
     have HBi:=zZ hBi
     have Hval:=zZ hval
     clear hkol hBi hval hOt HX Hov Hfs Hla hatb
     go_wp2_with (first
      | (at_builtin;refine wpList_apps rfl (.tmp 79) (.tmp 81) 25 rfl w1.heap.size 53 i0 (.agg #[.int .i64 0,.int .i64 0,.slice none 0 0]) 3 40 Tryz.underlying25 hi hz0 hz1 hz2 rfl (by omega) (.slice Av i cv) i xs rfl t5 (some ⟨wx.heap.size,0,none⟩) 1 1 [.int .i64 (i:Int),.int .i64 (t:Int),.slice AF2 ol cF2] rfl rfl t4 (by simp[Value.oneCell']) t1 t2 t3 ?_;intro v4 w4 hown4 hg4 hv4;obtain⟨bx4,hR4⟩:=hO.out.step (by omega) HBi.out hg4 hown4;have HC4:=zZ (hO.out.obs (by omega) hch.out HBi.out Hval.out rfl hg4 hv4);obtain⟨A4,c4,rfl⟩:=own_slice3 hown4;have e4:=bx4.cell (j:=1) rfl;have f4:=bx4.frozen 1;have HR4:=zZ hR4;clear hR4 hown4 hg4 hv4 bx4)
      | fail)
     go_roundw
     case rel=>exact⟨i+1,_,_,by omega,by go_num,HR4,zZ (by rw[Htk.out];exact HC4.out)⟩
     case measure=>simp[intOf];omega
  ·have hiM:i=M:=by omega
   rw[List.take_of_length_le (by rw[canon_len hm];omega)] at hch
   obtain⟨Av,cv,rfl⟩:=own_slice3 hO.out.own
   have hOM:Hid (RowIn w2.heap.size 1 28 53 3 [.slice A N c,.slice none 0 0,.slice none 0 0] w1 (.slice Av M cv) M xs wr):=zZ (by have:=hO.out;rwa [hiM] at this)
   rw[hiM] at hch
   clear hiM hO
   have hl1:w.heap.size<w1.heap.size:=by omega
   have HX:=zZ (fun (W:World) (hW:Below w2.heap.size w1 W)=>And.intro ((hW.cell (p:=⟨w.heap.size,0,none⟩) (by show w.heap.size<_;omega)).trans (P1.out.cell (j:=0) rfl)) (And.intro ((hW.cell (p:=⟨w.heap.size,1,none⟩) (by show w.heap.size<_;omega)).trans (P1.out.cell (j:=1) rfl)) ((hW.cell (p:=⟨w.heap.size,2,none⟩) (by show w.heap.size<_;omega)).trans (P1.out.cell (j:=2) rfl))))
   obtain⟨a0,a1,a2⟩:=HX.out wr hOM.out.bel
   have hrl:(g.2.2.map (atL (ordG g))).length=K:=by rw[List.length_map,hK]
   go_wp2
   clear a0 a1 a2
   go_loopw [11] (fun jv w'=>∃ (j:Nat) (v:Value),j≤K∧jv=.int .i64 (j:Int)∧Hid (RowIn w2.heap.size 2 28 3 1 [.slice A N c,.slice Av M cv,.slice none 0 0] wr v j (ints ((g.2.2.map (atL (ordG g))).take j)) w')) (fun jv _=>K - (intOf jv).toNat)
   case atStart=>exact⟨0,.slice none 0 0,by omega,rfl,zZ (RowIn.start hOM.out.bx rfl)⟩
   case round=>
    rename World=>wq
    obtain⟨j,v2,hj',rfl,hR⟩:=hrel
    have sq:=hR.out.bel.size
    have hBq:Below w2.heap.size w1 wq:=hOM.out.bel.trans hR.out.bel
    obtain⟨a0,a1,a2⟩:=HX.out wq hBq
    obtain⟨A2,c2,rfl⟩:=own_slice3 hR.out.own
    by_cases hjn:j<K
    ·obtain⟨x,hx⟩:∃ x,g.2.2[j]?=some x:=⟨_,zV (by omega)⟩
     have hax:(g.2.2.map (atL (ordG g)))[j]?=some (atL (ordG g) x):=by rw[List.getElem?_map,hx];rfl
     have Htk:=zZ (take_at hax)
     obtain⟨b,off,rfl,hb,x0,hxb⟩:=id_at (rGr_open Hg.out).2.2 hx
     have hjl:(j:Int)<(K:Int):=by omega
     have hj0:(0:Int)≤(j:Int):=by omega
     have hlt:=hR.out.bx.lt
     have S0:=And.intro (hR.out.bx.cell (j:=2) rfl) (And.intro a2 ((hBq.cell (p:=⟨b,off+j,none⟩) (by show b<_;omega)).trans x0))
     have hlt1:w.heap.size<wq.heap.size:=by omega
     have hbq:b<wq.heap.size:=by have:b<w.heap.size:=hb;omega
     have HSt:=zZ (fun (W:World) (hW:Below wq.heap.size wq W)=>And.intro ((hW.cell (p:=⟨w2.heap.size,2,none⟩) hlt).trans S0.1) (And.intro ((hW.cell (p:=⟨w.heap.size,2,none⟩) hlt1).trans S0.2.1) ((hW.cell (p:=⟨b,off+j,none⟩) hbq).trans S0.2.2)))
     have TA:=zZ (fun W (hW:Below wq.heap.size wq W)=>rat_any A4 M c4 (ordG g) x W (rIds_stays.to (S':=All W) (fun k hk=>⟨by show k<_;have:=hW.size;have:k<w2.heap.size:=hk;omega,by rw[hW.block k (by have:k<w2.heap.size:=hk;omega),hBq.block k hk]⟩) Hl0.out))
     have hab:=atL_wf (L:=ordG g) (by omega) x
     clear hx hax hBq x0 a0 a1
     generalize (g.2.2.map (atL (ordG g))).take j=ra at *
     generalize atL (ordG g) x=ax at *
     go_wp2
     clear a2
     refine scl_start 12 [(0,true),(1,true),(2,true),(3,true),(4,true),(5,true),(6,true),(7,true),(8,false),(9,false),(10,false),(11,true),(12,false)]
      (fun W=>W.cell? ⟨w2.heap.size,2,none⟩=some (.slice A2 j c2)∧W.cell? ⟨w.heap.size,2,none⟩=some (.slice (some ⟨b,off,none⟩) K e)∧W.cell? ⟨b,off+j,none⟩=some (.int .i64 x)) (by kernel_rfl) rfl (by kernel_rfl) (fun _ _ _ _ _ h=>h) (HSt.out _ (zA _ wq).drew) (fun hH=>?_)
     repeat (first | (refine scl_yes (v:=?_) rfl rfl ?_ hH ?_;rotate_left;(focus ((rintro W ⟨hW1,hW2,hW3⟩;go_simp) <;> with_reducible rfl));simp only[Act.put,zY,zX,zQ]) | (refine scl_no rfl rfl hH ?_;simp only[Act.put,zY,zX,zQ]))
     refine scl_call rfl rfl (fun K' hK'=>?_)
     go_wp2_with (go_at_call 30;refine (TA.out _ (zA _ wq).drew).mono ?_;rintro e wz ⟨rfl,hwz⟩)
     subst hwz
     refine hK'.out _ _ (fun _=>HSt.out _ (zA _ wq).drew) ?_
     clear hK' hH
     refine scl_call rfl rfl (fun K' hK'=>?_)
     go_wp2
     have hQ1:Below wq.heap.size wq (wq.drew.alloc (.cells #[.int .i64 ax] 3)):=((zA _ wq).drew).alloc (zW _) _
     refine hK'.out _ _ (fun _=>HSt.out _ hQ1) ?_
     clear hK'
     have hH:=HSt.out _ hQ1
     have t3:wr.heap.size≤(wq.drew.alloc (.cells #[.int .i64 ax] 3)).heap.size:=by have:=hQ1.size;omega
     have t5:=(own_below hR.out.own (zA _ wq).drew).alloc (.cells #[.int .i64 ax] 3)
     refine scl_call rfl rfl (fun K' hK'=>?_)
     refine wp_app (.tmp 92) (.tmp 100) 26 rfl wr.heap.size 3 j0 (.int .i64 0) 8 Tryz.underlying26 hj hy0 hy1 hy2 rfl (.slice A2 j c2) j (ints ra) rfl t5 (some ⟨wq.heap.size,0,none⟩) 1 1 (ints [ax]) rfl rfl (lit_ints wq.drew [ax]) (ints_one _) (by simp only[maxLen];omega) (by omega) t3 ?_
     intro v4 w4 hown4 hg4 hv4
     obtain⟨bx4,hR4⟩:=hR.out.step (wq:=wq.drew) (by omega) (zA _ wq).drew hg4 hown4
     obtain⟨A4',c4',rfl⟩:=own_slice3 hown4
     have e4:=bx4.cell (j:=2) rfl
     have f4:=bx4.frozen 2
     have HR4:=zZ hR4
     have S4:=And.intro e4 (And.intro (hg4.cell hH.2.1 (fun e=>by have:=(hR.out.own.lt w.heap.size e.symm).1;omega)) (hg4.cell hH.2.2 (fun e=>by have:=(hR.out.own.lt b e.symm).1;have:b<w.heap.size:=hb;omega)))
     clear hR4 hown4 hg4 hv4 bx4
     refine hK'.out _ _ (fun _=>S4) ?_
     clear hK' hH
     have hH:=S4
     repeat (first | (refine scl_yes (v:=?_) rfl rfl ?_ hH ?_;rotate_left;(focus ((rintro W ⟨hW1,hW2,hW3⟩;go_simp) <;> with_reducible rfl));simp only[Act.put,zY,zX,zQ]) | (refine scl_no rfl rfl hH ?_;simp only[Act.put,zY,zX,zQ]))
     refine scl_call rfl rfl (fun K' hK'=>?_)
     go_wp2
     refine hK'.out _ _ (fun h=>absurd rfl h) ?_
     clear hK' hH
     refine scl_done ?_
     go_wp2
     go_roundw
     case rel=>exact⟨j+1,_,by omega,by go_num,zZ (by rw[Htk.out,ints_append];exact HR4.out)⟩
     case measure=>simp[intOf];omega
    ·have hjK:j=K:=by omega
     have HRK:Hid (RowIn w2.heap.size 2 28 3 1 [.slice A N c,.slice Av M cv,.slice none 0 0] wr (.slice A2 K c2) K (ints (g.2.2.map (atL (ordG g)))) wq):=zZ (by have:=hR.out;rwa [List.take_of_length_le (by omega),hjK] at this)
     clear hR hjK
     have e0:=HRK.out.bx.cell (j:=0) rfl
     have e1:=HRK.out.bx.cell (j:=1) rfl
     have e2:=HRK.out.bx.cell (j:=2) rfl
     have r2:Blk wq (w.heap.size+1) 28 [.slice none 0 0,.slice none 0 0,.slice none 0 0]:=(hBq.block (w.heap.size+1) (by omega)).trans P2.out
     have y0:=r2.cell (j:=0) rfl
     have y1:=r2.cell (j:=1) rfl
     have y2:=r2.cell (j:=2) rfl
     have g0:=r2.frozen 0
     have g1:=r2.frozen 1
     have g2:=r2.frozen 2
     have HBq:=zZ hBq
     clear hBq
     go_wp2
     have P9:=((r2.set 0 (.slice A N c)).set 1 (.slice Av M cv)).set 2 (.slice A2 K c2)
     refine ret_cell0 (d:=.struct _) (cs:=[.slice A N c,.slice Av M cv,.slice A2 K c2]) rfl P9 rfl rfl rfl rfl rfl ?_
     rw[canonG_yes hm] at *
     have hol':((ordG g).mapIdx (canO g (ordG g))).length=M:=by rw[List.length_mapIdx];exact hM
     have hwf:∀ r∈g.2.2.map (atL (ordG g)),(Lit.int .i64 r).wf=true:=fun r hr=>by
      obtain⟨y,-,rfl⟩:=List.mem_map.1 hr
      have:=atL_wf (L:=ordG g) (by omega) y
      exact WalkArith.wf_i64 ⟨by omega,by omega⟩
     refine⟨A,c,Av,cv,A2,c2,?_,?_,?_⟩
     ·show _=Ending.returned (Value.agg #[.slice A g.1.length c,.slice Av ((ordG g).mapIdx (canO g (ordG g))).length cv,.slice A2 (g.2.2.map (atL (ordG g))).length c2])
      rw[hN,hol',hrl]
     ·show rGr _ _ [.slice A g.1.length c,.slice Av ((ordG g).mapIdx (canO g (ordG g))).length cv,.slice A2 (g.2.2.map (atL (ordG g))).length c2] _
      rw[hN,hol',hrl]
      refine built_graph (S:=fun k=>k<w.heap.size) (r2:=w.heap.size+1) (s:=g.1) hOM.out hch.out HRK.out (rGr_open Hg.out).1 (fun k hk=>⟨by omega,by omega⟩) (by omega) (by omega) (fun k h1 h2=>?_) (by simp) hol' hrl hwf
      rw[Below.heap_setCell _ _ _ _ h1,Below.heap_setCell _ _ _ _ h1,Below.heap_setCell _ _ _ _ h1]
     ·have hz9:=H0.out.trans (HBq.out.mono (by omega))
      exact ((hz9.setCell (p:=⟨w.heap.size+1,0,none⟩) (by simp) (.slice A N c)).setCell (p:=⟨w.heap.size+1,1,none⟩) (by simp) (.slice Av M cv)).setCell (p:=⟨w.heap.size+1,2,none⟩) (by simp) (.slice A2 K c2)
def shortG (g:Gr):Prop:=(∀ t∈g.1,t.1.length≤1048576∧∀ f∈t.2,f.1.length≤1048576∧True∧f.2.2.length≤1048576)∧(∀ o∈g.2.1,True∧True∧∀ v∈o.2.2,True∧v.2.1.length≤1048576∧True)∧∀ n∈g.2.2,True
theorem short_tame {g:Gr} (hf:fewG g=true) (h:shortG g):tameG g∧tameS g.1:=by
 obtain⟨h1,h2,-⟩:=h
 simp only[fewG,fewS,Bool.and_eq_true,decide_eq_true_eq,List.all_eq_true] at hf
 obtain⟨⟨⟨⟨f1,f2⟩,f3⟩,f4⟩,f5⟩:=hf
 refine⟨⟨⟨by omega,fun t ht=>?_⟩,⟨by omega,fun o ho=>?_⟩,by omega⟩,fun t ht=>⟨(h1 t ht).1,fun f hf=>((h1 t ht).2 f hf).1⟩⟩
 ·obtain⟨a,b⟩:=h1 t ht
  have:=f1 t ht
  refine⟨by omega,by omega,fun f hf=>?_⟩
  obtain⟨c,-,d⟩:=b f hf
  exact⟨by omega,by omega⟩
 ·obtain⟨-,-,a⟩:=h2 o ho
  have:=f5 o ho
  exact⟨by omega,fun v hv=>by have:=(a v hv).2.1;omega⟩
end Go.Proofs.YtnljjnkindjeoaaGreatDoor
