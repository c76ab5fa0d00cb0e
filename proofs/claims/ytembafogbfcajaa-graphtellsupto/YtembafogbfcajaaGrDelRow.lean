/- A row of objects, some of which are struck out: its cells. The builtin clear. No condition. -/
import Derived.Test.YtembafogbfcajaaGrOwn
import Derived.Laws.IdiomCopy
namespace Go.Proofs.Ytembafogbfcajaa
open Go.RowKit

/-- The cells of objects, each with the block of its values. -/
def cellsZ (z : List (Ob × Nat)) : List Value := z.flatMap fun p => [.int .i64 p.1.1, .int .i64 p.1.2.1, .slice (some ⟨p.2, 0, none⟩) p.1.2.2.length p.1.2.2.length]
theorem cellsZ_len (z : List (Ob × Nat)) : (cellsZ z).length = z.length * 3 := by
  induction z with
  | nil => rfl
  | cons p z ih => rw [cellsZ, List.flatMap_cons, List.length_append, List.length_cons, ← cellsZ, ih]; simp; omega
theorem cellsZ_append (y z : List (Ob × Nat)) : cellsZ (y ++ z) = cellsZ y ++ cellsZ z := by simp [cellsZ]
theorem cellsZ_cons (p : Ob × Nat) (z : List (Ob × Nat)) : cellsZ (p :: z) = .int .i64 p.1.1 :: .int .i64 p.1.2.1 :: .slice (some ⟨p.2, 0, none⟩) p.1.2.2.length p.1.2.2.length :: cellsZ z := rfl
theorem obCells_z : ∀ {os : List Ob} {bs : List Nat}, os.length = bs.length → obCells os bs = cellsZ (os.zip bs)
  | [], [], _ => rfl
  | o :: os, b :: bs, h => by rw [obCells, List.zip_cons_cons, cellsZ_cons, obCells_z (by simpa using h)]
  | [], b :: bs, h => by simp at h
  | o :: os, [], h => by simp at h
/-- Objects with their blocks, between lo and hi. -/
def InZ (lo hi : Nat) (w : World) (z : List (Ob × Nat)) : Prop := (∀ p ∈ z, lo < p.2 ∧ p.2 < hi ∧ OwnF w p.2 p.1) ∧ (z.map (·.2)).Pairwise (· < ·)
theorem ObIn.z {lo hi : Nat} {w : World} {ds : List Value} {os : List Ob} (h : ObIn lo hi w ds os) : ∃ z : List (Ob × Nat), ds = cellsZ z ∧ z.map (·.1) = os ∧ InZ lo hi w z := by
  obtain ⟨bs, rfl, h2, h3, h4⟩ := h
  refine ⟨os.zip bs, obCells_z h2, by rw [List.map_fst_zip (by omega)], fun p hp => ?_, by rw [List.map_snd_zip (by omega)]; exact h3⟩
  obtain ⟨i, hi⟩ := List.getElem?_of_mem hp
  rw [List.getElem?_zip_eq_some] at hi
  exact h4 i p.1 p.2 hi.1 hi.2
theorem InZ.ob {lo hi : Nat} {w : World} {z : List (Ob × Nat)} (h : InZ lo hi w z) : ObIn lo hi w (cellsZ z) (z.map (·.1)) := by
  refine ⟨z.map (·.2), ?_, by simp, h.2, fun i o b ho hb => ?_⟩
  · rw [obCells_z (by simp), List.zip_map', List.map_id']
  · rw [List.getElem?_map, Option.map_eq_some_iff] at ho hb
    obtain ⟨p, hp, rfl⟩ := ho
    obtain ⟨q, hq, rfl⟩ := hb
    rw [hp] at hq
    injection hq with e
    subst e
    exact h.1 p (List.mem_of_getElem? hp)
theorem InZ.filter {lo hi : Nat} {w : World} {z : List (Ob × Nat)} (h : InZ lo hi w z) (k : Ob × Nat → Bool) : InZ lo hi w (z.filter k) :=
  ⟨fun p hp => h.1 p (List.mem_filter.1 hp).1, h.2.sublist (List.filter_sublist.map _)⟩
theorem InZ.keep {lo hi : Nat} {w w' : World} {z : List (Ob × Nat)} (h : InZ lo hi w z) (hk : ∀ b, lo < b → b < hi → w'.heap[b]? = w.heap[b]?) : InZ lo hi w' z :=
  ⟨fun p hp => by obtain ⟨h1, h2, h3⟩ := h.1 p hp; exact ⟨h1, h2, h3.keep (hk _ h1 h2)⟩, h.2⟩
/-- The row's first cells, read. -/
theorem pre_slice {α : Type} {size b n c : Nat} {R : Reader α} {S : Nat → Prop} {w : World} {t : TypeId} {cs rest : List Value} {l : List α} (hb : Blk w b t (cs ++ rest)) (hc : Chunks size (R S w) cs l) (hS : S b) (hl : l.length = n) (hnc : n ≤ c) (hcm : c ≤ maxLen) :
    rSlice size R S w [.slice (some ⟨b, 0, none⟩) n c] l := by
  subst hl
  exact ⟨_, _, cs, rfl, hnc, hcm, .inr ⟨b, 0, rfl, hS, fun j u hu => by rw [Nat.zero_add]; exact hb.cell (by rw [List.getElem?_append_left (List.getElem?_eq_some_iff.1 hu).1]; exact hu)⟩, hc⟩
theorem blk_setCells {b : Nat} {t : TypeId} : ∀ (vs : List Value) (o : Nat) (w : World) (cs : List Value), Blk w b t cs → ∃ ds, Blk (w.setCells b o vs) b t ds ∧ ds.length = cs.length ∧ ds.take o = cs.take o ∧ w.grownBy (w.setCells b o vs) (some b)
  | [], _, w, cs, h => ⟨cs, h, rfl, rfl, World.grownBy.refl _ _⟩
  | v :: vs, o, w, cs, h => by
    obtain ⟨ds, h1, h2, h3, h4⟩ := blk_setCells vs (o + 1) (w.setCell ⟨b, o, none⟩ v) (cs.set o v) (h.set o v)
    have hb := (Below.refl b w).setCell (p := ⟨b, o, none⟩) (Nat.le_refl _) v
    refine ⟨ds, h1, by rw [h2, List.length_set], ?_, ⟨h4.os.trans hb.os, h4.tape.trans hb.tape, h4.output.trans hb.output, Nat.le_trans hb.size h4.size, fun k hk hne => ?_⟩⟩
    · have : ds.take o = (ds.take (o + 1)).take o := by rw [List.take_take, Nat.min_eq_left (by omega)]
      rw [this, h3, List.take_take, Nat.min_eq_left (by omega), List.take_set_of_le (Nat.le_refl _)]
    · have := h4.block k (by simpa using hk) hne
      exact this.trans (Below.heap_setCell _ _ _ _ (by simpa using hne))
theorem zero_one (n : Nat) : ∀ v ∈ (Builtin.zeroCells #[Value.int .i64 0, .int .i64 0, .slice none 0 0] n).toList, v.oneCell' = true := by
  intro v hv
  simp only [Builtin.zeroCells, Array.toList_map, List.mem_map] at hv
  obtain ⟨i, -, rfl⟩ := hv
  have : i % 3 = 0 ∨ i % 3 = 1 ∨ i % 3 = 2 := by omega
  simp only [List.size_toArray, List.length_cons, List.length_nil, Nat.zero_add]
  rcases this with e | e | e <;> rw [e] <;> rfl
theorem zero_len (n : Nat) : (Builtin.zeroCells #[Value.int .i64 0, .int .i64 0, .slice none 0 0] n).toList.length = n * 3 := by simp [Builtin.zeroCells]
/-- 'clear' of the rest of a row of objects. -/
theorem run_clear {b : Nat} {cs : List Value} {w : World} (hb : Blk w b 49 cs) (o n c : Nat) (hn : 0 < n) (hl : o + n * 3 ≤ cs.length) :
    ∃ w' ds, (∀ ty, (Builtin.clear_ #[25] ty #[.slice (some ⟨b, o, none⟩) n c]).run Try.prog w = .ok (.tuple #[]) w') ∧ Blk w' b 49 ds ∧ ds.length = cs.length ∧ ds.take o = cs.take o ∧ w.grownBy w' (some b) := by
  obtain ⟨ds, h1, h2, h3, h4⟩ := blk_setCells (Builtin.zeroCells #[Value.int .i64 0, .int .i64 0, .slice none 0 0] n).toList o w cs hb
  refine ⟨_, ds, fun ty => ?_, h1, h2, h3, h4⟩
  have hz : (zeroValue 49).run Try.prog w = .ok (.agg #[.int .i64 0, .int .i64 0, .slice none 0 0]) w := by kernel_rfl
  have hs := run_storeCells_cells (P := Try.prog) b o (Builtin.zeroCells #[Value.int .i64 0, .int .i64 0, .slice none 0 0] n).toList 0 w
    (fun j hj => by rw [zero_len] at hj; rw [Nat.add_zero, hb.cell (j := o + j) (List.getElem?_eq_getElem (by omega))]; rfl) (fun j _ => hb.frozen _) (zero_one n)
  have hu : Try.prog.underlying 25 = some (.slice 49) := Try.underlying25
  obtain ⟨m, rfl⟩ : ∃ m, n = m + 1 := ⟨n - 1, by omega⟩
  simp only [Nat.add_zero] at hs
  simp [Builtin.clear_, run_underlying hu, hz, Value.cells, hs]
/-- The rest of a row of objects, and its beginning. -/
theorem run_rest (b n i : Nat) (h : i < n) (W : World) : (Instr.slice 25 (.slice (some ⟨b, 0, none⟩) n n) (some (.int .i64 (i : Int))) none none).run Try.prog W = .ok (.slice (some ⟨b, i * 3, none⟩) (n - i) (n - i)) W := by
  have hu : Try.prog.underlying 25 = some (.slice 49) := Try.underlying25
  obtain ⟨j, hj, hs⟩ : ∃ j, Try.prog.info? 49 = some j ∧ j.size = 3 := by
    have : (Try.prog.info? 49).map (·.size) = some 3 := by kernel_rfl
    obtain ⟨j, h1, h2⟩ := Option.map_eq_some_iff.1 this
    exact ⟨j, h1, h2⟩
  have h1 : i ≤ n := by omega
  have h2 : ¬ n = i := by omega
  simp [Instr.slice, Instr.sliceBounds, Instr.sliceBound, asIntOf, run_underlying hu, sizeOf, typeInfo, hj, hs, h1, h2, addr_add, Nat.mul_comm]
theorem run_first (b n i : Nat) (h : i ≤ n) (W : World) : (Instr.slice 25 (.slice (some ⟨b, 0, none⟩) n n) none (some (.int .i64 (i : Int))) none).run Try.prog W = .ok (.slice (some ⟨b, 0, none⟩) i n) W := by
  have hu : Try.prog.underlying 25 = some (.slice 49) := Try.underlying25
  obtain ⟨j, hj, hs⟩ : ∃ j, Try.prog.info? 49 = some j ∧ j.size = 3 := by
    have : (Try.prog.info? 49).map (·.size) = some 3 := by kernel_rfl
    obtain ⟨j, h1, h2⟩ := Option.map_eq_some_iff.1 this
    exact ⟨j, h1, h2⟩
  simp [Instr.slice, Instr.sliceBounds, Instr.sliceBound, asIntOf, run_underlying hu, sizeOf, typeInfo, hj, h, addr_add]
end Go.Proofs.Ytembafogbfcajaa
