/- What a long walk holds on to: slices that read as lists, blocks by their number; all of it stays over a call that changes nothing that was there. Over any program. No condition. -/
import Derived.Test.YthhkkiegfcofjaaDoorBlk
namespace Go.Proofs.YthhkkiegfcofjaaDoor
open Go.RowKit

structure Held (w0 w : World) (rs : List (Option Addr × List Value)) (bl : List (Nat × TypeId × List Value)) : Prop where
  bel : Below w0.heap.size w0 w
  rds : ∀ (i : Nat) (A : Option Addr) (xs : List Value), rs[i]? = some (A, xs) → Rd w A xs
  bls : ∀ (i g : Nat) (t : TypeId) (cs : List Value), bl[i]? = some (g, t, cs) → Blk w g t cs
section
variable {w0 w w' : World} {rs : List (Option Addr × List Value)} {bl : List (Nat × TypeId × List Value)}
theorem Held.below (h : Held w0 w rs bl) (hB : Below w.heap.size w w') : Held w0 w' rs bl :=
  ⟨h.bel.trans (hB.mono h.bel.size), fun i A xs hi => (h.rds i A xs hi).below hB, fun i g t cs hi => (h.bls i g t cs hi).below (h.bls i g t cs hi).lt hB⟩
theorem Held.rd (h : Held w0 w rs bl) {i : Nat} {A : Option Addr} {xs : List Value} (hi : rs[i]? = some (A, xs)) : Rd w A xs := h.rds i A xs hi
theorem Held.cell (h : Held w0 w rs bl) {i g : Nat} {t : TypeId} {cs : List Value} (hi : bl[i]? = some (g, t, cs)) {j : Nat} {u : Value} (hu : cs[j]? = some u) : w.cell? ⟨g, j, none⟩ = some u := (h.bls i g t cs hi).cell hu
theorem Held.more (h : Held w0 w rs bl) {A : Option Addr} {xs : List Value} (hr : Rd w A xs) : Held w0 w ((A, xs) :: rs) bl :=
  ⟨h.bel, fun i B ys hi => by
    cases i with
    | zero => simp at hi; obtain ⟨rfl, rfl⟩ := hi; exact hr
    | succ i => exact h.rds i B ys (by simpa using hi), h.bls⟩
theorem Held.box (h : Held w0 w rs bl) (t : TypeId) (cs : List Value) : Held w0 (w.alloc (.cells cs.toArray t)) rs ((w.heap.size, t, cs) :: bl) := by
  have hB : Below w.heap.size w (w.alloc (.cells cs.toArray t)) := (Below.refl _ w).alloc (Nat.le_refl _) _
  have h' := h.below hB
  refine ⟨h'.bel, h'.rds, fun i g t' cs' hi => ?_⟩
  cases i with
  | zero => simp at hi; obtain ⟨rfl, rfl, rfl⟩ := hi; exact Blk.new w t cs
  | succ i => exact h'.bls i g t' cs' (by simpa using hi)
theorem Held.start (w : World) : Held w w [] [] := ⟨Below.refl _ _, fun _ _ _ h => by simp at h, fun _ _ _ _ h => by simp at h⟩
theorem Held.drew (h : Held w0 w rs bl) : Held w0 w.drew rs bl := h.below ((Below.refl _ w).drew)
end
end Go.Proofs.YthhkkiegfcofjaaDoor
