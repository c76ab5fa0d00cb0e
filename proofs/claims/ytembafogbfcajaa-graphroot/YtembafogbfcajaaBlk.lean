/- A block of memory by its number: what it holds, cell by cell; what a store, a new block, a call that keeps what lies below leaves of it. No condition. -/
import Derived.Test.YtembafogbfcajaaWords
import Derived.Deep.WholeRow
namespace Go.Proofs.Ytembafogbfcajaa
open Go.RowKit

/-- In the world w the block g, of type t, holds the values cs, one a cell. -/
def Blk (w : World) (g : Nat) (t : TypeId) (cs : List Value) : Prop := w.heap[g]? = some (.cells cs.toArray t (0, 0))

section
variable {w w' : World} {g g' : Nat} {t : TypeId} {cs : List Value}
theorem Blk.lt (h : Blk w g t cs) : g < w.heap.size := (Array.getElem?_eq_some_iff.1 h).1
theorem Blk.cell (h : Blk w g t cs) {j : Nat} {u : Value} (hu : cs[j]? = some u) : w.cell? ⟨g, j, none⟩ = some u := by
  rw [cell_of_row w g j cs.toArray t (0, 0) h]; simpa using hu
theorem Blk.frozen (h : Blk w g t cs) (j : Nat) : w.frozen? ⟨g, j, none⟩ = false := frozen_of_row w g j _ t h
theorem Blk.set (h : Blk w g t cs) (j : Nat) (u : Value) : Blk (w.setCell ⟨g, j, none⟩ u) g t (cs.set j u) := by
  have := heap_setCell_same w g j cs.toArray t u h
  unfold Blk
  rw [this]
  simp
theorem Blk.other (h : Blk w g t cs) (p : Addr) (u : Value) (hne : g ≠ p.block) : Blk (w.setCell p u) g t cs := (heap_setCell_other w p g u hne).trans h
theorem Blk.new (w : World) (t : TypeId) (cs : List Value) : Blk (w.alloc (.cells cs.toArray t)) w.heap.size t cs := heap_alloc_new w _
theorem Blk.alloc (h : Blk w g t cs) (o : Obj) : Blk (w.alloc o) g t cs := (Below.heap_alloc w o g h.lt).trans h
theorem Blk.below {n : Nat} (h : Blk w g t cs) (hg : g < n) (hb : Below n w w') : Blk w' g t cs := (hb.block g hg).trans h
theorem Blk.rd (h : Blk w g t cs) : Rd w (some ⟨g, 0, none⟩) cs := .inr ⟨g, 0, rfl, h.lt, fun j u hu => by rw [Nat.zero_add]; exact h.cell hu⟩
theorem Blk.row (h : Blk w g t cs) (cs' : List Value) : Blk (w.setRow g cs'.toArray) g t cs' := setRow_heap w g cs.toArray _ t _ h
theorem Blk.row_other (h : Blk w g t cs) (cs' : Array Value) (hne : g ≠ g') : Blk (w.setRow g' cs') g t cs := (setRow_other w g' g cs' hne).trans h
theorem below_setRow {B : Nat} {a : World} (h : Below B a w) (hg : B ≤ g) (cs' : Array Value) : Below B a (w.setRow g cs') :=
  h.trans ⟨rfl, rfl, rfl, by simp, fun k hk => setRow_other w g k cs' (by omega)⟩
end

section
variable {P : Program} {w : World} {o : Oper} {a : Act} {K : Act → World → Prop} {Q : Exit → Act → World → Prop} {g : Nat} {t t' : TypeId} {cs cs' : List Value}
/-- A whole array, or struct, is read out of its block. -/
theorem wp_loadRow (p : Operand) (t : TypeId) (ho : o.op = .load t p) (d : TypeDesc) (hu : P.underlying t = some d) (hd : (match d with | .struct _ | .array _ _ => true | _ => false) = true) (hi : (P.info? t).map (·.size) = some cs.length)
    (hp : a.eval p = .pointer (some ⟨g, 0, none⟩)) (hb : Blk w g t' cs) (h : K (a.put o.dst (.agg cs.toArray)) w) : o.wp P a w K Q := by
  have hl := run_loadVar_row (P := P) w g t' t cs.toArray (0, 0) d hb hu hd (by simpa using hi)
  unfold Oper.wp execOp
  simp only [ho, hp, Instr.loadAt, Instr.sureAddr, Sem.run_bind, Sem.run_pure, Result.andThen, hl]
  exact h
/-- As a walk leaves it where the type's size is known. -/
theorem Blk.stores (hb : Blk w g t' cs) (hlen : cs.length = cs'.length) (h1 : ∀ u ∈ cs', u.oneCell' = true) : (storeCells ⟨g, 0, none⟩ cs').run P w = .ok () (w.setRow g cs'.toArray) := by
  have := run_storeCells_from (P := P) g t' cs' 0 cs.toArray w hb (by simpa using hlen.symm) h1
  simpa using this
/-- A whole array, or struct, is laid into its block. -/
theorem wp_storeRow (p x : Operand) (t : TypeId) (ho : o.op = .store t p x) (hi : (P.info? t).map (·.size) = some cs'.length) (hlen : cs.length = cs'.length) (h1 : ∀ u ∈ cs', u.oneCell' = true)
    (hp : a.eval p = .pointer (some ⟨g, 0, none⟩)) (hx : a.eval x = .agg cs'.toArray) (hb : Blk w g t' cs) (h : K (a.put o.dst undef) (w.setRow g cs'.toArray)) : o.wp P a w K Q := by
  have hl := run_storeVar_row (P := P) w g t' t cs.toArray cs'.toArray hb (by simpa using hi) (by simpa using hlen) (by simpa using h1)
  unfold Oper.wp execOp
  simp only [ho, hp, hx, Instr.storeAt, Instr.sureAddr, Sem.run_bind, Sem.run_pure, Result.andThen, hl]
  exact h
end
end Go.Proofs.Ytembafogbfcajaa
