/- The texts Held, FlHeld in one; what each proves, and its conditions, stands before it. -/
import Derived.Test.YthhkkiegfcofjaaDoorBlk
import Derived.Test.YthhkkiegfcofjaaDoorFlAwake
/- What a long walk holds on to: slices that read as lists, blocks by their number; all of it stays over a call that changes nothing that was there. Over any program. No condition. -/
namespace Go.Proofs.YthhkkiegfcofjaaDoor
open Go.RowKit

structure Held (w0 w : World) (rs : List (Option Addr × List Value)) (bl : List (Nat × TypeId × List Value)) : Prop where
  bel : Below w0.heap.size w0 w
  rds : ∀ (i : Nat) (A : Option Addr) (xs : List Value), rs[i]? = some (A, xs) → Rd w A xs
  bls : ∀ (i g : Nat) (t : TypeId) (cs : List Value), bl[i]? = some (g, t, cs) → Blk w g t cs
section
variable {w0 w w' : World} {rs : List (Option Addr × List Value)} {bl : List (Nat × TypeId × List Value)}
theorem Held.below (h : Held w0 w rs bl) (hB : Below w.heap.size w w') : Held w0 w' rs bl :=
  ⟨h.bel.trans (hB.mono h.bel.size), fun i A xs hi => (h.rds i A xs hi).below hB, fun i g t cs hi => (h.bls i g t cs hi).below (h.bls i g t cs hi).lt hB⟩
theorem Held.rd (h : Held w0 w rs bl) {i : Nat} {A : Option Addr} {xs : List Value} (hi : rs[i]? = some (A, xs)) : Rd w A xs := h.rds i A xs hi
theorem Held.cell (h : Held w0 w rs bl) {i g : Nat} {t : TypeId} {cs : List Value} (hi : bl[i]? = some (g, t, cs)) {j : Nat} {u : Value} (hu : cs[j]? = some u) : w.cell? ⟨g, j, none⟩ = some u := (h.bls i g t cs hi).cell hu
theorem Held.more (h : Held w0 w rs bl) {A : Option Addr} {xs : List Value} (hr : Rd w A xs) : Held w0 w ((A, xs) :: rs) bl :=
  ⟨h.bel, fun i B ys hi => by
    cases i with
    | zero => simp at hi; obtain ⟨rfl, rfl⟩ := hi; exact hr
    | succ i => exact h.rds i B ys (by simpa using hi), h.bls⟩
theorem Held.box (h : Held w0 w rs bl) (t : TypeId) (cs : List Value) : Held w0 (w.alloc (.cells cs.toArray t)) rs ((w.heap.size, t, cs) :: bl) := by
  have hB : Below w.heap.size w (w.alloc (.cells cs.toArray t)) := (Below.refl _ w).alloc (Nat.le_refl _) _
  have h' := h.below hB
  refine ⟨h'.bel, h'.rds, fun i g t' cs' hi => ?_⟩
  cases i with
  | zero => simp at hi; obtain ⟨rfl, rfl, rfl⟩ := hi; exact Blk.new w t cs
  | succ i => exact h'.bls i g t' cs' (by simpa using hi)
theorem Held.start (w : World) : Held w w [] [] := ⟨Below.refl _ _, fun _ _ _ h => by simp at h, fun _ _ _ _ h => by simp at h⟩
theorem Held.drew (h : Held w0 w rs bl) : Held w0 w.drew rs bl := h.below ((Below.refl _ w).drew)
end
end Go.Proofs.YthhkkiegfcofjaaDoor

/- What the walks of flow's laws hold on to: a flow in a box, its parts, the variable errors.errorType; bytes in slices. No condition. -/
namespace Go.Proofs.YthhkkiegfcofjaaDoor
open Go.RowKit

/-- The flow f lies in the block k; nothing below the block B is another one than in w0. -/
structure Box (w0 w : World) (k : Nat) (f : Flo) (A : Option Addr) (c : Nat) : Prop where
  bel : Below w0.heap.size w0 w
  blk : Blk w k 25 [.int .u32 f.1, .slice A f.2.length c]
  pts : rPts (All w) w [.slice A f.2.length c] f.2
  han : Han w
section
variable {w0 w w' : World} {k : Nat} {f : Flo} {A : Option Addr} {c : Nat}
theorem Box.below (h : Box w0 w k f A c) (hB : Below w.heap.size w w') : Box w0 w' k f A c :=
  ⟨h.bel.trans (hB.mono h.bel.size), h.blk.below h.blk.lt hB, rPts_stays.to (Keeps.below hB) h.pts, h.han.below hB⟩
theorem Box.alloc (h : Box w0 w k f A c) (o : Obj) : Box w0 (w.alloc o) k f A c := h.below ((Below.refl _ w).alloc (Nat.le_refl _) _)
theorem Box.c0 (h : Box w0 w k f A c) : w.cell? ⟨k, 0, none⟩ = some (.int .u32 f.1) := h.blk.cell rfl
theorem Box.c1 (h : Box w0 w k f A c) : w.cell? ⟨k, 1, none⟩ = some (.slice A f.2.length c) := h.blk.cell rfl
theorem Box.new (hB : Below w0.heap.size w0 w) (hg : Han w) (hp : rPts (All w) w [.slice A f.2.length c] f.2) : Box w0 (w.alloc (.cells #[.int .u32 f.1, .slice A f.2.length c] 25)) w.heap.size f A c :=
  have hA : Below w.heap.size w (w.alloc (.cells #[.int .u32 f.1, .slice A f.2.length c] 25)) := (Below.refl _ w).alloc (Nat.le_refl _) _
  ⟨hB.trans (hA.mono hB.size), Blk.new w 25 [.int .u32 f.1, .slice A f.2.length c], rPts_stays.to (Keeps.below hA) hp, hg.below hA⟩
theorem Box.new' (h : Box w0 w k f A c) {g : Flo} {A' : Option Addr} {c' : Nat} (hp : rPts (All w) w [.slice A' g.2.length c'] g.2) : Box w0 (w.alloc (.cells #[.int .u32 g.1, .slice A' g.2.length c'] 25)) w.heap.size g A' c' := Box.new h.bel h.han hp
end
theorem getFl_nil : getFl [] = ((0, []), 4) := rfl
theorem conv_B (A : Option Addr) (bs : List Nat) (n c : Nat) (w : World) (hn : bs.length = n) (hr : Rd w A (u8s bs)) : (convert 26 9 (.slice A n c)).run Tryd.prog w = .ok (.string (strB bs)) w :=
  conv_str w _ _ _ Tryd.underlying26 Tryd.underlying5 Tryd.underlying9 A bs n c hn hr
end Go.Proofs.YthhkkiegfcofjaaDoor
