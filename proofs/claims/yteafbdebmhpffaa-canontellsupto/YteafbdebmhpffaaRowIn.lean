/- A row of the call's own that grows in a field of a block: what stays meanwhile, and what it reads in the end; a graph that is made so. No condition. -/
import Derived.Test.YteafbdebmhpffaaGrRows3
namespace Go.Proofs.Yteafbdebmhpffaa
open Go.RowKit

/-- The row v (n elements, the cells xs) stands in the cell j of the block b, whose other cells are those of cs; all other blocks of the world w0 are as they were. -/
structure RowIn (b j : Nat) (t e : TypeId) (size : Nat) (cs : List Value) (w0 : World) (v : Value) (n : Nat) (xs : List Value) (w : World) : Prop where
  bel : Below b w0 w
  kept : ∀ k, k < w0.heap.size → k ≠ b → w.heap[k]? = w0.heap[k]?
  bx : Blk w b t (cs.set j v)
  own : w.ownsRow w0.heap.size e size v n xs
section
variable {b j n n' size : Nat} {t e : TypeId} {cs xs ys zs : List Value} {w0 w wq wa : World} {v v' : Value} {ob : Obj} {objs : List Ob} {o : Ob}
theorem RowIn.start (hx : Blk w b t cs) (hj : cs[j]? = some (.slice none 0 0)) : RowIn b j t e size cs w (.slice none 0 0) 0 [] w := by
  refine ⟨Below.refl _ _, fun _ _ _ => rfl, ?_, World.ownsRow_nil _ _ _ _⟩
  have : cs.set j (.slice none 0 0) = cs := List.ext_getElem? fun k => by
    rw [List.getElem?_set]
    split
    · rename_i e
      subst e
      split
      · exact hj.symm
      · rename_i h
        exact (List.getElem?_eq_none (by omega)).symm
    · rfl
  rw [this]
  exact hx
theorem RowIn.more (h : RowIn b j t e size cs w0 v n xs w) (hb : b < w0.heap.size) (hq : Below w.heap.size w wq) : RowIn b j t e size cs w0 v n xs wq := by
  have := h.bel.size
  exact ⟨h.bel.trans (hq.mono (by omega)), fun k h1 h2 => by rw [hq.block k (by omega), h.kept k h1 h2], h.bx.to hq, own_below h.own hq⟩
theorem RowIn.step (h : RowIn b j t e size cs w0 v n xs w) (hb : b < w0.heap.size) (hq : Below w.heap.size w wq) (hg : (wq.alloc ob).grownBy wa v.ownBlock) (hown : wa.ownsRow w0.heap.size e size v' n' ys) :
    Blk wa b t (cs.set j v) ∧ RowIn b j t e size cs w0 v' n' ys (wa.setCell ⟨b, j, none⟩ v') := by
  have hlo : ∀ k, v.ownBlock = some k → w0.heap.size ≤ k ∧ k < w.heap.size := fun k hk => h.own.lt k hk
  have s0 := h.bel.size
  have s1 := hq.size
  have s2 : (wq.alloc ob).heap.size = wq.heap.size + 1 := by simp
  have s3 := hg.size
  have keep : ∀ k, k < w0.heap.size → wa.heap[k]? = w.heap[k]? := fun k hk => by
    rw [hg.block k (by omega) (fun e => by have := (hlo k e.symm).1; omega), Below.heap_alloc _ _ _ (by omega), hq.block k (by omega)]
  have bxa : Blk wa b t (cs.set j v) := by
    show wa.heap[b]? = _
    rw [keep b hb]
    exact h.bx
  have kset : ∀ k, k ≠ b → (wa.setCell ⟨b, j, none⟩ v').heap[k]? = wa.heap[k]? := fun k hk => Below.heap_setCell _ _ _ _ hk
  have hset := bxa.set j v'
  rw [List.set_set] at hset
  refine ⟨bxa, ?_, fun k h1 h2 => by rw [kset k h2, keep k h1, h.kept k h1 h2], hset, own_keep hown fun k h1 _ => kset k (by omega)⟩
  exact (((h.bel.trans (hq.mono (by omega))).alloc (by omega) ob).grown hg (by omega) (fun k hk => by have := (hlo k hk).1; omega)).setCell (p := ⟨b, j, none⟩) (Nat.le_refl _) _
theorem RowIn.obs (h : RowIn b j t e size cs w0 v n xs w) (hb : b < w0.heap.size) (hch : Chunks 3 (rOb (fun k => w0.heap.size ≤ k ∧ k < w.heap.size ∧ some k ≠ v.ownBlock) w) xs objs) (hq : Below w.heap.size w wq)
    (ho : rOb (fun k => w.heap.size ≤ k ∧ k < wq.heap.size) wq zs o) (hz : zs.length = 3) (hg : (wq.alloc ob).grownBy wa v.ownBlock) (hv : v'.ownBlock = v.ownBlock ∨ v'.ownBlock = some (wq.alloc ob).heap.size) :
    Chunks 3 (rOb (fun k => w0.heap.size ≤ k ∧ k < (wa.setCell ⟨b, j, none⟩ v').heap.size ∧ some k ≠ v'.ownBlock) (wa.setCell ⟨b, j, none⟩ v')) (xs ++ zs) (objs ++ [o]) := by
  have hlo : ∀ k, v.ownBlock = some k → w0.heap.size ≤ k ∧ k < w.heap.size := fun k hk => h.own.lt k hk
  have s0 := h.bel.size
  have s1 := hq.size
  have s2 : (wq.alloc ob).heap.size = wq.heap.size + 1 := by simp
  have s3 := hg.size
  have keep : ∀ k, k < wq.heap.size → some k ≠ v.ownBlock → wa.heap[k]? = wq.heap[k]? := fun k h1 h2 => by rw [hg.block k (by omega) h2, Below.heap_alloc _ _ _ h1]
  have nv : ∀ k, k < wq.heap.size → some k ≠ v.ownBlock → some k ≠ v'.ownBlock := fun k h1 h2 => by
    rcases hv with e | e
    · rw [e]; exact h2
    · rw [e]; intro e2; injection e2 with e2; omega
  have sz : (wa.setCell ⟨b, j, none⟩ v').heap.size = wa.heap.size := by simp
  have kset : ∀ k, k ≠ b → (wa.setCell ⟨b, j, none⟩ v').heap[k]? = wa.heap[k]? := fun k hk => Below.heap_setCell _ _ _ _ hk
  refine Chunks.append (hch.imp fun cs a hr => rOb_stays.to (fun k hk => ?_) hr) (Chunks.one hz (rOb_stays.to (fun k hk => ?_) ho))
  · obtain ⟨c1, c2, c3⟩ := hk
    refine ⟨⟨c1, by omega, nv k (by omega) c3⟩, ?_⟩
    rw [kset k (by omega), keep k (by omega) c3, hq.block k c2]
  · obtain ⟨c1, c2⟩ := hk
    have c3 : some k ≠ v.ownBlock := fun e => by have := (hlo k e.symm).2; omega
    refine ⟨⟨by omega, by omega, nv k c2 c3⟩, ?_⟩
    rw [kset k (by omega), keep k c2 c3]
end
/-- A graph that is made: its objects and its roots are rows of the call's own in the block b; its schema lies below. The block r2 may be written then. -/
theorem built_graph {b r2 n m N c d e : Nat} {A B C : Option Addr} {x y y' : Value} {xs : List Value} {w5 w6 w W : World} {s : Sch} {objs : List Ob} {rs : List Int} {S : Nat → Prop}
    (hO : RowIn b 1 28 38 3 [.slice A N c, x, y] w5 (.slice B n d) n xs w6) (hch : Chunks 3 (rOb (fun k => w5.heap.size ≤ k ∧ k < w6.heap.size ∧ some k ≠ (Value.slice B n d).ownBlock) w6) xs objs)
    (hR : RowIn b 2 28 3 1 [.slice A N c, .slice B n d, y'] w6 (.slice C m e) m (ints rs) w) (hS : rSch S w5 [.slice A N c] s) (hSb : ∀ k, S k → k < b ∧ k ≠ r2) (hr2 : r2 < b) (hb : b < w5.heap.size)
    (hW : ∀ k, k ≠ r2 → k < w.heap.size → W.heap[k]? = w.heap[k]?) (hsz : w.heap.size ≤ W.heap.size) (hn : objs.length = n) (hm : rs.length = m) (hwf : ∀ r ∈ rs, (Lit.int .i64 r).wf = true) :
    rGr (All W) W [.slice A N c, .slice B n d, .slice C m e] (s, objs, rs) := by
  have s5 := hO.bel.size
  have s6 := hR.bel.size
  refine rGr_mk (rSch_stays.to (fun k hk => ?_) hS) ?_ ?_
  · obtain ⟨h1, h2⟩ := hSb k hk
    refine ⟨by show k < _; omega, ?_⟩
    rw [hW k h2 (by omega), hR.bel.block k h1, hO.bel.block k h1]
  · have hlt := hO.own.lt
    refine own_rSlice rOb_stays (own_keep hO.own fun k h1 h2 => ?_) hn (hch.imp fun cs o hq => rOb_stays.to (fun k hk => ⟨⟨by omega, hk.2.2⟩, ?_⟩) hq)
    · rw [hW k (by omega) (by omega), hR.kept k h2 (by omega)]
    · rw [hW k (by omega) (by omega), hR.kept k hk.2.1 (by omega)]
  · exact rIds_stays.to (fun k hk => ⟨by show k < _; omega, hW k (by omega) (by omega)⟩) (ids_own hR.own hm hwf)
end Go.Proofs.Yteafbdebmhpffaa
