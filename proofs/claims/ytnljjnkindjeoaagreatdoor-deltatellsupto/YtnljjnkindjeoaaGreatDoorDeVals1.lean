/- The contracts of delta's newValues. Conditions: what each lemma names; they hold of a graph that may be. -/
import Derived.Test.YtnljjnkindjeoaaGreatDoorDeMap
import Derived.Test.YtnljjnkindjeoaaGreatDoorGCanon
import Derived.Test.YtnljjnkindjeoaaGreatDoorGGraph
import Derived.Test.YtnljjnkindjeoaaGreatDoorGGen
import Derived.Test.YtnljjnkindjeoaaGreatDoorAl
set_option maxRecDepth 100000
set_option maxHeartbeats 2000000
namespace Go.Proofs.YtnljjnkindjeoaaGreatDoor
open Go.RowKit Go.Maps
abbrev OwnV (base:Nat) (w:World) (v:Value) (vs:List Vl):Prop:=∃ A1 c1 xs,v=.slice A1 vs.length c1∧w.ownsRow base 47 3 (.slice A1 vs.length c1) vs.length xs∧Chunks 3 (fun cs x=>∀ S W,rVal S W cs x) xs vs
theorem made_zero:∀ n,n≤5→Chunks 3 (fun cs x=>∀ S W,rVal S W cs x) (madeCells (Value.agg #[.int .i64 0,.string ⟨#[]⟩,.int .i64 0]).cells (n * 3)).toList (List.replicate n vz):=by
 intro n hn
 refine⟨by simp[size_madeCells],fun i a ha S W=>?_⟩
 have hi:i<n:=by have:=(List.getElem?_eq_some_iff.1 ha).1;rwa [List.length_replicate] at this
 have hz:a=vz:=by rw[List.getElem?_replicate,if_pos hi] at ha;exact (Option.some.inj ha).symm
 subst hz
 clear ha
 have key:((madeCells (Value.agg #[.int .i64 0,.string ⟨#[]⟩,.int .i64 0]).cells (n * 3)).toList.drop (i * 3)).take 3=[.int .i64 0,.string ⟨#[]⟩,.int .i64 0]:=by
  have h1:n=1∨n=2∨n=3∨n=4∨n=5:=by omega
  have h2:i=0∨i=1∨i=2∨i=3∨i=4:=by omega
  rcases h1 with rfl | rfl | rfl | rfl | rfl <;> rcases h2 with rfl | rfl | rfl | rfl | rfl <;> first | (exfalso;omega) | simp[madeCells,Value.cells,List.range_succ]
 rw[key]
 exact rVal_mk (v:=vz) rfl (Nat.zero_le _) (by decide) (by decide)
theorem newValues_any (A:Option Addr) (N c:Nat) (s:Sch) (t:Int) (w:World) (h:rSch (All w) w [.slice A N c] s) (h5:(fldsG s t).length≤5):
  Calls Tryz.prog 145 #[.agg #[.slice A N c],.int .i64 t] w fun r w'=>∃ v,r=.returned (.tuple #[v,.bool (decide (0≤t) && decide (t<(N:Int)))])∧((decide (0≤t) && decide (t<(N:Int)))=true→OwnV w.heap.size w' v (List.replicate (fldsG s t).length vz))∧Below w.heap.size w w':=by
 have hB0:Below w.heap.size w (w.alloc (.cells #[.slice A N c] 24)):=(zA _ w).alloc (zW _) _
 have p0:=Blk.new w 24 [.slice A N c]
 obtain⟨hN,hNc,hcm⟩:=slice_len h
 have T1:=zZ (fun W=>isPlaceD_any t (N:Int) W)
 have c0:=p0.cell (j:=0) rfl
 by_cases hp:(decide (0≤t) && decide (t<(N:Int)))=true
 ·rw[hp] at T1 ⊢
  obtain⟨tn,rfl⟩:∃ tn:Nat,t=(tn:Int):=⟨t.toNat,by simp at hp;omega⟩
  have htN:tn<N:=by simp at hp;omega
  have hgt:s[tn]?=some s[tn]:=zV (by omega)
  obtain⟨bt,offt,st,AF,cF,rfl,hbt,-,y1,-,-,hfs⟩:=typ_at (sch_below hB0 h) hgt
  have hFe:=fldsG_at (t:=(tn:Int)) rfl hgt
  rw[← hFe] at y1 hfs
  have htl:(tn:Int)<(N:Int):=by omega
  have ht0:(0:Int)≤(tn:Int):=by omega
  generalize hfl:(fldsG s (tn:Int)).length=fl at *
  have hmk:=fun W=>made_run (P:=Tryz.prog) 51 47 (.agg #[.int .i64 0,.string ⟨#[]⟩,.int .i64 0]) 3 32 rfl (by kernel_rfl) fl (by omega) (by simp only[maxLen];omega) W
  have HB0:=zZ hB0
  have Hmz:=zZ (made_zero fl h5)
  have hsm:=made_len (Value.agg #[.int .i64 0,.string ⟨#[]⟩,.int .i64 0]).cells (fl * 3)
  clear hB0 h hgt hFe hfs hp p0
  generalize hZ:(madeCells (Value.agg #[.int .i64 0,.string ⟨#[]⟩,.int .i64 0]).cells (fl * 3)).toList=Z at *
  have Hfl:=zZ hfl
  clear hZ hfl
  go_enter Tryz.func145,Tryz.ntmps145
  go_wp2_with fail
  generalize w.alloc (.cells #[.slice (some ⟨bt,offt,none⟩) N c] 24)=w1 at *
  refine (T1.out _).mono ?_
  rintro e w2 ⟨rfl,rfl⟩
  have b2:=Blk.new w2 47 Z
  go_wp2
  go_ret2
  refine⟨.slice (some ⟨w2.heap.size,0,none⟩) fl fl,rfl,fun _=>?_,HB0.out.alloc HB0.out.size _⟩
  refine⟨some ⟨w2.heap.size,0,none⟩,fl,Z,by rw[List.length_replicate],?_,Hmz.out⟩
  rw[List.length_replicate]
  exact⟨by rw[hsm],.inr ⟨w2.heap.size,fl,Z.toArray,rfl,HB0.out.size,b2,zW _,by simp only[maxLen];omega,by simp[hsm],by simp[List.take_of_length_le,hsm]⟩⟩
 ·replace hp:(decide (0≤t) && decide (t<(N:Int)))=false:=by simpa using hp
  rw[hp] at T1 ⊢
  clear h hp
  go_enter Tryz.func145,Tryz.ntmps145
  go_wp2_with fail
  refine (T1.out _).mono ?_
  rintro e w2 ⟨rfl,rfl⟩
  go_wp2
  go_ret2
  exact⟨.slice none 0 0,rfl,fun e=>(by cases e),hB0⟩
end Go.Proofs.YtnljjnkindjeoaaGreatDoor
