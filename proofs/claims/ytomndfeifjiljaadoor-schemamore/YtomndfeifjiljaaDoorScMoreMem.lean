/- Rows of types of the law's own that hold what came in: a copy, a copy with one more, a copy with a cell set, a copy that lacks one. Over any program. No condition. -/
import Derived.Test.YtomndfeifjiljaaDoorScMem
import Derived.Test.YtomndfeifjiljaaDoorAppendS
import Derived.Test.YtomndfeifjiljaaDoorScMorePlain
namespace Go.Proofs.YtomndfeifjiljaaDoor
open Go.RowKit

section
variable {α : Type} {size : Nat} {R : List Value → α → Prop} {xs : List Value} {l : List α}
theorem Chunks.cells (h : Chunks size R xs l) (h0 : 0 < size) (hR : ∀ cs a, R cs a → ∀ u ∈ cs, u.oneCell' = true) : ∀ u ∈ xs, u.oneCell' = true := by
  intro u hu
  obtain ⟨j, hj⟩ := List.getElem?_of_mem hu
  have hlt := (List.getElem?_eq_some_iff.1 hj).1
  have hm := Nat.mod_lt j h0
  have hd := Nat.div_add_mod j size
  have hi : j / size < l.length := by
    rw [h.1] at hlt
    exact Nat.div_lt_of_lt_mul (by rw [Nat.mul_comm]; exact hlt)
  have hc := h.2 (j / size) l[j / size] (List.getElem?_eq_getElem hi)
  refine hR _ _ hc u (List.mem_of_getElem? (i := j % size) ?_)
  rw [List.getElem?_take, if_pos hm, List.getElem?_drop, Nat.mul_comm, hd]
  exact hj
theorem Chunks.take (h : Chunks size R xs l) (k : Nat) : Chunks size R (xs.take (k * size)) (l.take k) := by
  refine ⟨?_, fun i a ha => ?_⟩
  · rw [List.length_take, List.length_take, h.1]
    rcases Nat.le_total k l.length with hk | hk
    · rw [Nat.min_eq_left hk, Nat.min_eq_left (Nat.mul_le_mul_right _ hk)]
    · rw [Nat.min_eq_right hk, Nat.min_eq_right (Nat.mul_le_mul_right _ hk)]
  · rw [List.getElem?_take] at ha
    split at ha
    · rename_i hik
      have h1 := h.2 i a ha
      have hle : i * size + size ≤ k * size := by rw [← Nat.succ_mul]; exact Nat.mul_le_mul_right _ hik
      rw [List.drop_take, List.take_take, Nat.min_eq_left (by omega)]
      exact h1
    · cases ha
end
/-- One cell of a pair set. -/
theorem Chunks.set2 {α : Type} {R : List Value → α → Prop} {xs : List Value} {l : List α} (h : Chunks 2 R xs l) {I : Nat} (hI : I < l.length) {u v : Value} {a : α} (hu : xs[I * 2]? = some u) (hR : R [u, v] a) : Chunks 2 R (xs.set (I * 2 + 1) v) (l.set I a) := by
  have hxl := h.1
  refine ⟨by rw [List.length_set, List.length_set]; exact hxl, fun i b hb => ?_⟩
  rw [List.getElem?_set] at hb
  by_cases hi : I = i
  · subst hi
    rw [if_pos rfl, if_pos hI] at hb
    injection hb with hb
    subst hb
    have e : ((xs.set (I * 2 + 1) v).drop (I * 2)).take 2 = [u, v] := by
      apply List.ext_getElem?
      intro j
      rw [List.getElem?_take, List.getElem?_drop, List.getElem?_set]
      match j with
      | 0 => rw [if_pos (by omega), if_neg (by omega)]; simpa using hu
      | 1 => rw [if_pos (by omega), if_pos rfl, if_pos (by omega)]; rfl
      | j + 2 => rw [if_neg (by omega)]; simp
    rw [e]
    exact hR
  · rw [if_neg hi] at hb
    have e : ((xs.set (I * 2 + 1) v).drop (i * 2)).take 2 = (xs.drop (i * 2)).take 2 := by
      apply List.ext_getElem?
      intro j
      rw [List.getElem?_take, List.getElem?_take]
      split
      · rw [List.getElem?_drop, List.getElem?_drop, List.getElem?_set, if_neg (by omega)]
      · rfl
    rw [e]
    exact h.2 i b hb
theorem typ_cells {S : Nat → Prop} {w : World} {xs : List Value} {l : Sch} (h : Chunks 2 (rTyp S w) xs l) : ∀ u ∈ xs, u.oneCell' = true :=
  h.cells (by omega) fun cs a h u hu => by
    obtain ⟨s, A, c, rfl, _⟩ := rTyp_open h
    simp at hu
    rcases hu with rfl | rfl <;> rfl
theorem fld_cells {S : Nat → Prop} {w : World} {xs : List Value} {l : List Fld} (h : Chunks 3 (rFld S w) xs l) : ∀ u ∈ xs, u.oneCell' = true :=
  h.cells (by omega) fun cs a h u hu => by
    obtain ⟨s, t, rfl, _⟩ := rFld_open h
    simp at hu
    rcases hu with rfl | rfl | rfl <;> rfl
/-- A row of the law's own whose elements look into what came in. -/
theorem row_reads {α : Type} {R : Reader α} (hR : Stays R) {w W : World} {base e size n : Nat} {v : Value} {xs : List Value} {l : List α} (ho : W.ownsRow base e size v n xs) (hn : l.length = n) (hc : Chunks size (R (All w) w) xs l) (hB : Below w.heap.size w W) :
    ∃ A c, v = .slice A n c ∧ n ≤ c ∧ c ≤ maxLen ∧ rSlice size R (All W) W [v] l := by
  obtain ⟨A, c, rfl, hnc, hcm, hrd⟩ := own_in ho
  refine ⟨A, c, rfl, hnc, hcm, A, c, xs, by rw [hn], by omega, hcm, ?_, hc.imp fun cs a h => hR.to (Keeps.below hB) h⟩
  rcases hrd with h | ⟨b, off, e, hb, hcell⟩
  · exact .inl h
  · exact .inr ⟨b, off, e, hb.2, hcell⟩
theorem own_frozen {W : World} {base e size n g cap : Nat} {xs : List Value} (h : W.ownsRow base e size (.slice (some ⟨g, 0, none⟩) n cap) n xs) (hn : 0 < n) (j : Nat) : W.frozen? ⟨g, j, none⟩ = false := by
  rcases h.2 with ⟨_, h2⟩ | ⟨g', cap', cur, h1, _, hcur, _⟩
  · omega
  · injection h1 with e1
    injection e1 with e1
    injection e1 with e1
    subst e1
    exact frozen_of_row W g j cur e hcur
/-- The row behind the store of a type's fields: the schema with a field more. -/
theorem row_wide {w W : World} {base e base2 e2 g cap : Nat} {xs zs : List Value} {x : Sch} {I : Nat} {t : Typ} {s : ByteArray} {A2 : Option Addr} {n2 c2 : Nat} {gs : List Fld}
    (ho : W.ownsRow base e 2 (.slice (some ⟨g, 0, none⟩) x.length cap) x.length xs) (hc : Chunks 2 (rTyp (All w) w) xs x) (hB : Below w.heap.size w W) (hbase : w.heap.size ≤ base)
    (hI : x[I]? = some t) (hu : xs[I * 2]? = some (.string s)) (hs : byt s = t.1) (hss : s.size ≤ maxLen)
    (ho2 : W.ownsRow base2 e2 3 (.slice A2 n2 c2) n2 zs) (hn2 : gs.length = n2) (hc2 : Chunks 3 (rFld (All w) w) zs gs) (hne : g < base2) :
    rSch (All (W.setCell ⟨g, I * 2 + 1, none⟩ (.slice A2 n2 c2))) (W.setCell ⟨g, I * 2 + 1, none⟩ (.slice A2 n2 c2)) [.slice (some ⟨g, 0, none⟩) x.length cap] (x.set I (t.1, gs)) := by
  have hlt := (List.getElem?_eq_some_iff.1 hI).1
  have hgl := ho.lt g rfl
  obtain ⟨A2', c2', hv2, hnc2, hcm2, hrd2⟩ := own_in ho2
  injection hv2 with e1 e3 e4
  subst e1 e4
  have hfr : ∀ b, b ≠ g → (W.setCell ⟨g, I * 2 + 1, none⟩ (.slice A2 n2 c2)).heap[b]? = W.heap[b]? := fun b hb => heap_setCell_other W ⟨g, I * 2 + 1, none⟩ b _ hb
  have hsz : (W.setCell ⟨g, I * 2 + 1, none⟩ (.slice A2 n2 c2)).heap.size = W.heap.size := by simp
  have hkeep : Keeps (All w) (All (W.setCell ⟨g, I * 2 + 1, none⟩ (.slice A2 n2 c2))) w (W.setCell ⟨g, I * 2 + 1, none⟩ (.slice A2 n2 c2)) := fun b hb => by
    have hb' : b < w.heap.size := hb
    refine ⟨?_, ?_⟩
    · show b < _
      rw [hsz]
      exact Nat.lt_of_lt_of_le hb' hB.size
    · rw [hfr b (by omega)]
      exact hB.block b hb
  have hflds : rFlds (All (W.setCell ⟨g, I * 2 + 1, none⟩ (.slice A2 n2 c2))) (W.setCell ⟨g, I * 2 + 1, none⟩ (.slice A2 n2 c2)) [.slice A2 n2 c2] gs := by
    refine ⟨A2, c2, zs, by rw [hn2], by omega, hcm2, ?_, hc2.imp fun cs a h => rFld_stays.to hkeep h⟩
    rcases hrd2 with h | ⟨b, off, e, hb, hcell⟩
    · exact .inl h
    · refine .inr ⟨b, off, e, by show b < _; rw [hsz]; exact hb.2, fun j u hj => ?_⟩
      exact (World.cell?_of_block (w := W) (a := ⟨b, off + j, none⟩) (hfr b (by omega))).trans (hcell j u hj)
  rcases ho.2 with ⟨h1, h2⟩ | ⟨g', cap', cur, h1, _, hcur, hnc, hcm, hrest⟩
  · exact absurd h2 (by omega)
  · injection h1 with e1 e2 e3
    injection e1 with e1
    injection e1 with e1
    subst e1 e3
    have hblk : Blk W g e cur.toList := by unfold Blk; rw [hcur]
    have hcell : ∀ j u, xs[j]? = some u → W.cell? ⟨g, j, none⟩ = some u := fun j u hj => by
      have := ho.cells (g := g) rfl j u hj
      rw [addr_add, Nat.zero_add] at this
      exact this
    have hxl := hc.1
    refine ⟨some ⟨g, 0, none⟩, cap, xs.set (I * 2 + 1) (.slice A2 n2 c2), by rw [List.length_set], by rw [List.length_set]; exact hnc, hcm, ?_, (hc.imp fun cs a h => rTyp_stays.to hkeep h).set2 hlt hu (rTyp_mk hs hss hflds)⟩
    refine .inr ⟨g, 0, rfl, by show g < _; rw [hsz]; exact hgl.2, fun j u hj => ?_⟩
    rw [Nat.zero_add]
    have hb2 := hblk.set (I * 2 + 1) (.slice A2 n2 c2)
    rw [List.getElem?_set] at hj
    have hclen : ∀ j u, W.cell? ⟨g, j, none⟩ = some u → cur.toList[j]? = some u := fun j u h => by
      have := cell_of_row W g j cur e (0, 0) hcur
      rw [this] at h
      simpa using h
    by_cases hji : I * 2 + 1 = j
    · subst hji
      rw [if_pos rfl] at hj
      split at hj
      · injection hj with hj
        subst hj
        refine hb2.cell ?_
        rw [List.getElem?_set, if_pos rfl]
        have hin : I * 2 + 1 < xs.length := by omega
        have := hclen _ _ (hcell _ _ (List.getElem?_eq_getElem hin))
        rw [if_pos (List.getElem?_eq_some_iff.1 this).1]
      · cases hj
    · rw [if_neg hji] at hj
      refine hb2.cell ?_
      rw [List.getElem?_set, if_neg hji]
      exact hclen _ _ (hcell _ _ hj)
/-- The address of a slice of types from a place on. -/
def cutT (A : Option Addr) (c s : Nat) : Option Addr := if c = s then A else A.map (·.add (s * 2))
theorem cutT_rd {W : World} {b off c n s : Nat} {xs : List Value} (hxl : xs.length = n * 2) (hs : s ≤ n) (hc : n ≤ c) (h : Rd W (some ⟨b, off, none⟩) xs) : Rd W (cutT (some ⟨b, off, none⟩) c s) (xs.drop (s * 2)) := by
  unfold cutT
  by_cases hcs : c = s
  · rw [if_pos hcs, List.drop_of_length_le (by omega)]
    exact Rd.nil _ _
  · rw [if_neg hcs, Option.map_some, addr_add]
    exact h.drop _
theorem run_fromT (A : Option Addr) (n c s : Nat) (hs : s + 1 ≤ n) (W : World) : (Instr.sliceAt 22 (.slice A n c) (some (.int .i64 ((s : Int) + 1))) none none).run Tryd.prog W = .ok (.slice (cutT A c (s + 1)) (n - (s + 1)) (c - (s + 1))) W := by
  have h1 : ((s : Int) + 1) = ((s + 1 : Nat) : Int) := by omega
  rw [h1]
  simp [Instr.sliceAt, Instr.slice, underlying, Tryd.underlying22, Instr.sliceBounds, Instr.sliceBound, asIntOf, cutT, Result.andThen, Sem.run_bind]
  rw [if_pos (show (0 : Int) ≤ (s : Int) + 1 ∧ (s : Int) + 1 ≤ (n : Int) by omega)]
theorem run_uptoT (b off n c s : Nat) (hs : s ≤ n) (hc : n ≤ c) (W : World) : (Instr.sliceAt 22 (.slice (some ⟨b, off, none⟩) n c) none (some (.int .i64 (s : Int))) none).run Tryd.prog W = .ok (.slice (some ⟨b, off, none⟩) s c) W := by
  simp [Instr.sliceAt, Instr.slice, underlying, Tryd.underlying22, Instr.sliceBounds, Instr.sliceBound, asIntOf, Result.andThen, Sem.run_bind]
  rw [if_pos (show s ≤ c by omega)]
  simp [addr_add]
end Go.Proofs.YtomndfeifjiljaaDoor
