/- A row of the call's own, whose elements look into other blocks, grows by an element that is laid ahead of an append; bytes of a text, and of a row of the call's own, as readings. No condition. -/
import Derived.Test.YtdlkmjfbmenedaaGreatDoorGGen
import Derived.Lib.ConvBytes
import Derived.Test.YtdlkmjfbmenedaaGreatDoorAl
namespace Go.Proofs.YtdlkmjfbmenedaaGreatDoor
open Go.RowKit
theorem row_step {α:Type} {R:Reader α} (hR:Stays R) {w wr w3:World} {v:Value} {k size:Nat} {e t:TypeId} {xs ys:List Value} {pre:List α} {a:α}
  (hB:Below w.heap.size w wr) (hown:wr.ownsRow w.heap.size e size v k xs) (hch:Chunks size (R (fun b=>b<wr.heap.size∧some b≠v.ownBlock) wr) xs pre)
  (hB3:Below wr.heap.size wr w3) (ha:R (fun b=>wr.heap.size≤b∧b<w3.heap.size) w3 ys a) (hy:ys.length=size):
  (w3.alloc (.cells ys.toArray t)).ownsRow w.heap.size e size v k xs∧Rd (w3.alloc (.cells ys.toArray t)) (some ⟨w3.heap.size,0,none⟩) ys ∧
  Below w.heap.size w (w3.alloc (.cells ys.toArray t)) ∧
  Chunks size (R (fun b=>b<(w3.alloc (.cells ys.toArray t)).heap.size∧some b≠v.ownBlock) (w3.alloc (.cells ys.toArray t))) (xs++ys) (pre++[a]):=by
 have hA:Below w3.heap.size w3 (w3.alloc (.cells ys.toArray t)):=(zA _ w3).alloc (zW _) _
 have hB4:=hB3.trans (hA.mono hB3.size)
 refine⟨own_below hown hB4,(Blk.new w3 t ys).rd,hB.trans (hB4.mono hB.size),?_⟩
 have hvl:=hown.lt
 have hkn:Keeps (fun x=>wr.heap.size≤x∧x<w3.heap.size) (fun x=>x<(w3.alloc (.cells ys.toArray t)).heap.size∧some x≠v.ownBlock) w3 _:=fun x ⟨h1,h2⟩=>
  ⟨⟨Nat.lt_of_lt_of_le h2 hA.size,fun e=>by have:=(hvl x e.symm).2;omega⟩,hA.block x h2⟩
 have hko:Keeps (fun x=>x<wr.heap.size∧some x≠v.ownBlock) (fun x=>x<(w3.alloc (.cells ys.toArray t)).heap.size∧some x≠v.ownBlock) wr _:=fun x ⟨h1,h2⟩=>
  ⟨⟨Nat.lt_of_lt_of_le h1 hB4.size,h2⟩,hB4.block x h1⟩
 exact (hch.imp (fun cs a h=>hR.to hko h)).append (Chunks.one hy (hR.to hkn ha))
theorem bytes_own {w:World} {base:Nat} {v:Value} {b:List Nat} (h:w.ownsRow base 5 1 v b.length (u8s b)) (hb:∀ x∈b,x<256):∃ A c,v=.slice A b.length c∧rBytes (fun k=>base≤k∧k<w.heap.size) w [.slice A b.length c] b:=by
 obtain⟨A,c,rfl,h1,h2,h3⟩:=own_in h
 exact⟨A,c,rfl,A,c,rfl,h1,h2,hb,h3⟩
theorem conv_bytes (s:ByteArray) (w:World):(convert 9 29 (.string s)).run Tryz.prog w=.ok (.slice (some ⟨w.heap.size,0,none⟩) s.size (grownCap w s.size 0 5)) (Lib.bytesWorld w 5 s):=
 Lib.run_convert_string_bytes w _ _ _ s Tryz.underlying9 Tryz.underlying29 Tryz.underlying5
theorem bytesWorld_in (s:ByteArray) (w:World) (hs:s.size≤maxLen) {bs:List Nat} (hb:byt s=bs):Below w.heap.size w (Lib.bytesWorld w 5 s) ∧
  rBytes (fun k=>w.heap.size≤k∧k<(Lib.bytesWorld w 5 s).heap.size) (Lib.bytesWorld w 5 s) [.slice (some ⟨w.heap.size,0,none⟩) s.size (grownCap w s.size 0 5)] bs:=by
 subst hb
 refine⟨⟨rfl,rfl,rfl,by rw[Lib.bytesWorld_size];omega,fun k hk=>Lib.bytesWorld_at_old w _ s k (by omega)⟩,some ⟨w.heap.size,0,none⟩,grownCap w s.size 0 5,by rw[byt_length],by rw[byt_length];exact grownCap_ge _ _ _ _,grownCap_le_maxLen _ _ _ _ hs,byt_lt s,.inr ⟨w.heap.size,0,rfl,⟨zW _,by rw[Lib.bytesWorld_size];omega⟩,fun j u hu=>?_⟩⟩
 have hj:j<s.size:=by
  have:=(List.getElem?_eq_some_iff.1 hu).1
  simpa using this
 rw[Nat.zero_add,Lib.bytesWorld_cell w _ s j hj,← hu]
 have hj2:j<s.data.toList.length:=by rw[Array.length_toList];exact hj
 simp[u8s,byt,List.getD,zV hj2]
end Go.Proofs.YtdlkmjfbmenedaaGreatDoor
