/- The texts GrDelRow, GrCome, GrVisit, GrComeTo, GrDel, GrSweep in one; what each proves, and its conditions, stands before it. -/
import Derived.Test.YteafbdebmhpffaaGrOwn
import Derived.Laws.IdiomCopy
import Derived.Test.YteafbdebmhpffaaGrActsAll
import Derived.Test.YteafbdebmhpffaaGrHave
import Derived.Test.YteafbdebmhpffaaGrRow
import Derived.Test.YteafbdebmhpffaaForkLAll
import Derived.Maps.OwnSet
import Derived.Deep.DeepCutAuto
import Derived.BigQuiet
import Derived.Laws.EntriesVeiled
import Derived.Test.YteafbdebmhpffaaGrTame
import Derived.Test.YteafbdebmhpffaaGrMayAll
/- A row of objects, some of which are struck out: its cells. The builtin clear. No condition. -/
namespace Go.Proofs.Yteafbdebmhpffaa
open Go.RowKit

/-- The cells of objects, each with the block of its values. -/
def cellsZ (z : List (Ob × Nat)) : List Value := z.flatMap fun p => [.int .i64 p.1.1, .int .i64 p.1.2.1, .slice (some ⟨p.2, 0, none⟩) p.1.2.2.length p.1.2.2.length]
theorem cellsZ_len (z : List (Ob × Nat)) : (cellsZ z).length = z.length * 3 := by
  induction z with
  | nil => rfl
  | cons p z ih => rw [cellsZ, List.flatMap_cons, List.length_append, List.length_cons, ← cellsZ, ih]; simp; omega
theorem cellsZ_append (y z : List (Ob × Nat)) : cellsZ (y ++ z) = cellsZ y ++ cellsZ z := by simp [cellsZ]
theorem cellsZ_cons (p : Ob × Nat) (z : List (Ob × Nat)) : cellsZ (p :: z) = .int .i64 p.1.1 :: .int .i64 p.1.2.1 :: .slice (some ⟨p.2, 0, none⟩) p.1.2.2.length p.1.2.2.length :: cellsZ z := rfl
theorem obCells_z : ∀ {os : List Ob} {bs : List Nat}, os.length = bs.length → obCells os bs = cellsZ (os.zip bs)
  | [], [], _ => rfl
  | o :: os, b :: bs, h => by rw [obCells, List.zip_cons_cons, cellsZ_cons, obCells_z (by simpa using h)]
  | [], b :: bs, h => by simp at h
  | o :: os, [], h => by simp at h
/-- Objects with their blocks, between lo and hi. -/
def InZ (lo hi : Nat) (w : World) (z : List (Ob × Nat)) : Prop := (∀ p ∈ z, lo < p.2 ∧ p.2 < hi ∧ OwnF w p.2 p.1) ∧ (z.map (·.2)).Pairwise (· < ·)
theorem ObIn.z {lo hi : Nat} {w : World} {ds : List Value} {os : List Ob} (h : ObIn lo hi w ds os) : ∃ z : List (Ob × Nat), ds = cellsZ z ∧ z.map (·.1) = os ∧ InZ lo hi w z := by
  obtain ⟨bs, rfl, h2, h3, h4⟩ := h
  refine ⟨os.zip bs, obCells_z h2, by rw [List.map_fst_zip (by omega)], fun p hp => ?_, by rw [List.map_snd_zip (by omega)]; exact h3⟩
  obtain ⟨i, hi⟩ := List.getElem?_of_mem hp
  rw [List.getElem?_zip_eq_some] at hi
  exact h4 i p.1 p.2 hi.1 hi.2
theorem InZ.ob {lo hi : Nat} {w : World} {z : List (Ob × Nat)} (h : InZ lo hi w z) : ObIn lo hi w (cellsZ z) (z.map (·.1)) := by
  refine ⟨z.map (·.2), ?_, by simp, h.2, fun i o b ho hb => ?_⟩
  · rw [obCells_z (by simp), List.zip_map', List.map_id']
  · rw [List.getElem?_map, Option.map_eq_some_iff] at ho hb
    obtain ⟨p, hp, rfl⟩ := ho
    obtain ⟨q, hq, rfl⟩ := hb
    rw [hp] at hq
    injection hq with e
    subst e
    exact h.1 p (List.mem_of_getElem? hp)
theorem InZ.filter {lo hi : Nat} {w : World} {z : List (Ob × Nat)} (h : InZ lo hi w z) (k : Ob × Nat → Bool) : InZ lo hi w (z.filter k) :=
  ⟨fun p hp => h.1 p (List.mem_filter.1 hp).1, h.2.sublist (List.filter_sublist.map _)⟩
theorem InZ.keep {lo hi : Nat} {w w' : World} {z : List (Ob × Nat)} (h : InZ lo hi w z) (hk : ∀ b, lo < b → b < hi → w'.heap[b]? = w.heap[b]?) : InZ lo hi w' z :=
  ⟨fun p hp => by obtain ⟨h1, h2, h3⟩ := h.1 p hp; exact ⟨h1, h2, h3.keep (hk _ h1 h2)⟩, h.2⟩
/-- The row's first cells, read. -/
theorem pre_slice {α : Type} {size b n c : Nat} {R : Reader α} {S : Nat → Prop} {w : World} {t : TypeId} {cs rest : List Value} {l : List α} (hb : Blk w b t (cs ++ rest)) (hc : Chunks size (R S w) cs l) (hS : S b) (hl : l.length = n) (hnc : n ≤ c) (hcm : c ≤ maxLen) :
    rSlice size R S w [.slice (some ⟨b, 0, none⟩) n c] l := by
  subst hl
  exact ⟨_, _, cs, rfl, hnc, hcm, .inr ⟨b, 0, rfl, hS, fun j u hu => by rw [Nat.zero_add]; exact hb.cell (by rw [List.getElem?_append_left (List.getElem?_eq_some_iff.1 hu).1]; exact hu)⟩, hc⟩
theorem blk_setCells {b : Nat} {t : TypeId} : ∀ (vs : List Value) (o : Nat) (w : World) (cs : List Value), Blk w b t cs → ∃ ds, Blk (w.setCells b o vs) b t ds ∧ ds.length = cs.length ∧ ds.take o = cs.take o ∧ w.grownBy (w.setCells b o vs) (some b)
  | [], _, w, cs, h => ⟨cs, h, rfl, rfl, World.grownBy.refl _ _⟩
  | v :: vs, o, w, cs, h => by
    obtain ⟨ds, h1, h2, h3, h4⟩ := blk_setCells vs (o + 1) (w.setCell ⟨b, o, none⟩ v) (cs.set o v) (h.set o v)
    have hb := (Below.refl b w).setCell (p := ⟨b, o, none⟩) (Nat.le_refl _) v
    refine ⟨ds, h1, by rw [h2, List.length_set], ?_, ⟨h4.os.trans hb.os, h4.tape.trans hb.tape, h4.output.trans hb.output, Nat.le_trans hb.size h4.size, fun k hk hne => ?_⟩⟩
    · have : ds.take o = (ds.take (o + 1)).take o := by rw [List.take_take, Nat.min_eq_left (by omega)]
      rw [this, h3, List.take_take, Nat.min_eq_left (by omega), List.take_set_of_le (Nat.le_refl _)]
    · have := h4.block k (by simpa using hk) hne
      exact this.trans (Below.heap_setCell _ _ _ _ (by simpa using hne))
theorem zero_one (n : Nat) : ∀ v ∈ (Builtin.zeroCells #[Value.int .i64 0, .int .i64 0, .slice none 0 0] n).toList, v.oneCell' = true := by
  intro v hv
  simp only [Builtin.zeroCells, Array.toList_map, List.mem_map] at hv
  obtain ⟨i, -, rfl⟩ := hv
  have : i % 3 = 0 ∨ i % 3 = 1 ∨ i % 3 = 2 := by omega
  simp only [List.size_toArray, List.length_cons, List.length_nil, Nat.zero_add]
  rcases this with e | e | e <;> rw [e] <;> rfl
theorem zero_len (n : Nat) : (Builtin.zeroCells #[Value.int .i64 0, .int .i64 0, .slice none 0 0] n).toList.length = n * 3 := by simp [Builtin.zeroCells]
/-- 'clear' of the rest of a row of objects. -/
theorem run_clear {b : Nat} {cs : List Value} {w : World} (hb : Blk w b 38 cs) (o n c : Nat) (hn : 0 < n) (hl : o + n * 3 ≤ cs.length) :
    ∃ w' ds, (∀ ty, (Builtin.clear_ #[25] ty #[.slice (some ⟨b, o, none⟩) n c]).run Try.prog w = .ok (.tuple #[]) w') ∧ Blk w' b 38 ds ∧ ds.length = cs.length ∧ ds.take o = cs.take o ∧ w.grownBy w' (some b) := by
  obtain ⟨ds, h1, h2, h3, h4⟩ := blk_setCells (Builtin.zeroCells #[Value.int .i64 0, .int .i64 0, .slice none 0 0] n).toList o w cs hb
  refine ⟨_, ds, fun ty => ?_, h1, h2, h3, h4⟩
  have hz : (zeroValue 38).run Try.prog w = .ok (.agg #[.int .i64 0, .int .i64 0, .slice none 0 0]) w := by kernel_rfl
  have hs := run_storeCells_cells (P := Try.prog) b o (Builtin.zeroCells #[Value.int .i64 0, .int .i64 0, .slice none 0 0] n).toList 0 w
    (fun j hj => by rw [zero_len] at hj; rw [Nat.add_zero, hb.cell (j := o + j) (List.getElem?_eq_getElem (by omega))]; rfl) (fun j _ => hb.frozen _) (zero_one n)
  have hu : Try.prog.underlying 25 = some (.slice 38) := Try.underlying25
  obtain ⟨m, rfl⟩ : ∃ m, n = m + 1 := ⟨n - 1, by omega⟩
  simp only [Nat.add_zero] at hs
  simp [Builtin.clear_, run_underlying hu, hz, Value.cells, hs]
/-- The rest of a row of objects, and its beginning. -/
theorem run_rest (b n i : Nat) (h : i < n) (W : World) : (Instr.slice 25 (.slice (some ⟨b, 0, none⟩) n n) (some (.int .i64 (i : Int))) none none).run Try.prog W = .ok (.slice (some ⟨b, i * 3, none⟩) (n - i) (n - i)) W := by
  have hu : Try.prog.underlying 25 = some (.slice 38) := Try.underlying25
  obtain ⟨j, hj, hs⟩ : ∃ j, Try.prog.info? 38 = some j ∧ j.size = 3 := by
    have : (Try.prog.info? 38).map (·.size) = some 3 := by kernel_rfl
    obtain ⟨j, h1, h2⟩ := Option.map_eq_some_iff.1 this
    exact ⟨j, h1, h2⟩
  have h1 : i ≤ n := by omega
  have h2 : ¬ n = i := by omega
  simp [Instr.slice, Instr.sliceBounds, Instr.sliceBound, asIntOf, run_underlying hu, sizeOf, typeInfo, hj, hs, h1, h2, addr_add, Nat.mul_comm]
theorem run_first (b n i : Nat) (h : i ≤ n) (W : World) : (Instr.slice 25 (.slice (some ⟨b, 0, none⟩) n n) none (some (.int .i64 (i : Int))) none).run Try.prog W = .ok (.slice (some ⟨b, 0, none⟩) i n) W := by
  have hu : Try.prog.underlying 25 = some (.slice 38) := Try.underlying25
  obtain ⟨j, hj, hs⟩ : ∃ j, Try.prog.info? 38 = some j ∧ j.size = 3 := by
    have : (Try.prog.info? 38).map (·.size) = some 3 := by kernel_rfl
    obtain ⟨j, h1, h2⟩ := Option.map_eq_some_iff.1 this
    exact ⟨j, h1, h2⟩
  simp [Instr.slice, Instr.sliceBounds, Instr.sliceBound, asIntOf, run_underlying hu, sizeOf, typeInfo, hj, h, addr_add]
end Go.Proofs.Yteafbdebmhpffaa

/- The contract of what comeTo goes through the objects by: a set of ids, that grows by all that one comes to. Condition: a graph that may be. -/
namespace Go.Proofs.Yteafbdebmhpffaa
open Go.RowKit Go.Maps

theorem come_law : Keyed Try.prog 3 := int_keyed Try.underlying3
theorem come_zero (w : World) : (zeroValue 69).run Try.prog w = .ok (.agg #[]) w := by kernel_rfl
/-- The map in the block b has the keys M. -/
def SetM (w : World) (b : Nat) (M : List Int) : Prop := ∃ D : DataW Unit, w.ownsMap Try.prog 3 unitElem b M.length D ∧ ∀ x, (Lit.int .i64 x).wf = true → Maps.has D (.int .i64 x) = decide (x ∈ M)
theorem SetM.kept {w w' : World} {b : Nat} {M : List Int} {row : Option Nat} (h : SetM w b M) (hg : w.grownBy w' row) (hn : some b ≠ row) : SetM w' b M := by
  obtain ⟨D, h1, h2⟩ := h
  exact ⟨D, h1.kept hg hn, h2⟩
theorem below_grown {w w' : World} (h : Below w.heap.size w w') (row : Option Nat) : w.grownBy w' row := ⟨h.os, h.tape, h.output, h.size, fun b hb _ => h.block b hb⟩
theorem SetM.below {w w' : World} {b : Nat} {M : List Int} (h : SetM w b M) (hB : Below w.heap.size w w') : SetM w' b M := h.kept (below_grown hB none) (by simp)
theorem SetM.add {D : DataW Unit} {w : World} {b : Nat} {M : List Int} {x : Int} (h : w.ownsMap Try.prog 3 unitElem b (M.length + 1) (D.put (.int .i64 x) (.agg []))) (hm : IsMap D) (hh : ∀ y, (Lit.int .i64 y).wf = true → Maps.has D (.int .i64 y) = decide (y ∈ M)) : SetM w b (M ++ [x]) := by
  refine ⟨_, by rw [List.length_append]; exact h, fun y hy => ?_⟩
  by_cases e : y = x
  · subst e
    rw [has_put_same hm (by trivial)]
    simp
  · rw [has_put_other (by simpa using e), hh y hy]
    simp [e]

/-- What the walk finds in memory: the graph's box, the set's and the closure's cells, the graph itself, all of it apart from the set's block Mb. -/
structure CW (A B C : Option Addr) (N c M d K e : Nat) (g : Gr) (Gb Mc Vc Mb : Nat) (w : World) : Prop where
  gb : Blk w Gb 28 [.slice A N c, .slice B M d, .slice C K e]
  mc : w.cell? ⟨Mc, 0, none⟩ = some (.map (some Mb))
  vc : w.cell? ⟨Vc, 0, none⟩ = some (.func (.func 69) #[] #[.pointer (some ⟨Mc, 0, none⟩), .pointer (some ⟨Gb, 0, none⟩), .pointer (some ⟨Vc, 0, none⟩)])
  rd : rGr (fun b => b < w.heap.size ∧ b ≠ Mb) w [.slice A N c, .slice B M d, .slice C K e] g
  ne : Gb ≠ Mb ∧ Mc ≠ Mb ∧ Vc ≠ Mb
section
variable {A B C : Option Addr} {N c M d K e : Nat} {g : Gr} {Gb Mc Vc Mb : Nat} {w w' : World}
theorem CW.to (h : CW A B C N c M d K e g Gb Mc Vc Mb w) (hg : w.grownBy w' (some Mb)) : CW A B C N c M d K e g Gb Mc Vc Mb w' := by
  obtain ⟨n1, n2, n3⟩ := h.ne
  exact ⟨(hg.block _ h.gb.lt (by simpa using n1)).trans h.gb, hg.cell h.mc (by simpa using n2), hg.cell h.vc (by simpa using n3),
    rGr_stays.to (fun b hb => ⟨⟨Nat.lt_of_lt_of_le hb.1 hg.size, hb.2⟩, hg.block b hb.1 (by simpa using hb.2)⟩) h.rd, h.ne⟩
theorem CW.below (h : CW A B C N c M d K e g Gb Mc Vc Mb w) (hB : Below w.heap.size w w') : CW A B C N c M d K e g Gb Mc Vc Mb w' := h.to (below_grown hB _)
theorem CW.all (h : CW A B C N c M d K e g Gb Mc Vc Mb w) : rGr (All w) w [.slice A N c, .slice B M d, .slice C K e] g := rGr_stays.to (Keeps.mono fun _ hb => hb.1) h.rd
end
/-- What a call of the walk leaves. -/
abbrev Visits (g : Gr) (Mb : Nat) (id : Int) (L : List Int) (w : World) (e : Ending) (w' : World) : Prop :=
  e = .returned (.tuple #[]) ∧ ∃ L', SetM w' Mb L' ∧ L'.length + cntG g.2.1 L' ≤ g.2.1.length ∧ Dfs g L L' id ∧ w.grownBy w' (some Mb)

set_option maxRecDepth 100000 in
set_option maxHeartbeats 2000000 in
theorem visit_skip (A B C : Option Addr) (N c M d K e : Nat) (g : Gr) (Gb Mc Vc Mb : Nat) (id : Int) (L : List Int) (w : World) (hid : (Lit.int .i64 id).wf = true) (hL : L.length + cntG g.2.1 L ≤ g.2.1.length) (hC : CW A B C N c M d K e g Gb Mc Vc Mb w) (hS : SetM w Mb L) (hsk : id = -1 ∨ id ∈ L) :
    Calls Try.prog 69 #[.int .i64 id, .pointer (some ⟨Mc, 0, none⟩), .pointer (some ⟨Gb, 0, none⟩), .pointer (some ⟨Vc, 0, none⟩)] w (Visits g Mb id L w) := by
  have Hd := Lib.hid (Dfs.skip (g := g) hsk)
  have HS := Lib.hid hS
  obtain ⟨D, hown, hhas⟩ := hS
  have hkey : keyOf Try.prog 3 (.int .i64 id) = some (.int .i64 id) := keyOf_int_mk Try.underlying3 hid
  have hh := hhas id hid
  have m1 := hC.mc
  have hmlt := hown.lt
  clear hhas hC
  by_cases hm : id ∈ L
  · rw [decide_eq_true hm] at hh
    clear hm hsk
    go_enter Try.func69, Try.ntmps69
    go_wp2_with (first | (at_lookup; refine wpList_lookup_own_unit _ rfl _ _ 66 rfl 3 69 come_law rfl (come_zero _) Mb L.length D rfl hown _ _ rfl hkey ?_; rw [hh]) | fail)
    go_end0
    exact ⟨rfl, L, HS.out.kept (World.grownBy_alloc _ _ none) (by simp), hL, Hd.out, World.grownBy_alloc _ _ _⟩
  · rw [decide_eq_false hm] at hh
    have h1 : (id == -1) = true := by simp [hsk.resolve_right hm]
    clear hm hsk
    go_enter Try.func69, Try.ntmps69
    go_wp2_with (first | (at_lookup; refine wpList_lookup_own_unit _ rfl _ _ 66 rfl 3 69 come_law rfl (come_zero _) Mb L.length D rfl hown _ _ rfl hkey ?_; rw [hh]) | fail)
    go_end0
    exact ⟨rfl, L, HS.out.kept (World.grownBy_alloc _ _ none) (by simp), hL, Hd.out, World.grownBy_alloc _ _ _⟩
end Go.Proofs.Yteafbdebmhpffaa

/- The contract of the closure that comeTo goes through the objects by, which calls itself. Condition: a graph that may be. -/
namespace Go.Proofs.Yteafbdebmhpffaa
open Go.RowKit Go.Maps

theorem keepM {w w' : World} {b : Nat} (hg : w.grownBy w' (some b)) : Keeps (fun x => x < w.heap.size ∧ x ≠ b) (fun x => x < w'.heap.size ∧ x ≠ b) w w' := fun x hx => ⟨⟨Nat.lt_of_lt_of_le hx.1 hg.size, hx.2⟩, hg.block x hx.1 (by simpa using hx.2)⟩

set_option maxRecDepth 100000 in
set_option maxHeartbeats 4000000 in
theorem visit_go (A B C : Option Addr) (N c M d K e : Nat) (g : Gr) (Gb Mc Vc Mb : Nat) (hmay : mayG g = true) (o : Ob) (ho : o ∈ g.2.1) (L : List Int) (w : World) (hn : o.1 ∉ L) (hL : L.length + cntG g.2.1 L ≤ g.2.1.length) (hC : CW A B C N c M d K e g Gb Mc Vc Mb w) (hS : SetM w Mb L)
    (hrec : ∀ (id : Int) (L' : List Int) (W : World), (Lit.int .i64 id).wf = true → (id = -1 ∨ findG g.2.1 id ≠ -1) → cntG g.2.1 L' < cntG g.2.1 L → L'.length + cntG g.2.1 L' ≤ g.2.1.length → CW A B C N c M d K e g Gb Mc Vc Mb W → SetM W Mb L' →
      Calls Try.prog 69 #[.int .i64 id, .pointer (some ⟨Mc, 0, none⟩), .pointer (some ⟨Gb, 0, none⟩), .pointer (some ⟨Vc, 0, none⟩)] W (Visits g Mb id L' W)) :
    Calls Try.prog 69 #[.int .i64 o.1, .pointer (some ⟨Mc, 0, none⟩), .pointer (some ⟨Gb, 0, none⟩), .pointer (some ⟨Vc, 0, none⟩)] w (Visits g Mb o.1 L w) := by
  have hmo := mayG_obj hmay ho
  have hid : (Lit.int .i64 o.1).wf = true := WalkArith.wf_i64 ⟨by have := hmo.id0; omega, by have := hmo.id1; omega⟩
  obtain ⟨D, hown, hhas⟩ := hS
  have hkey : keyOf Try.prog 3 (.int .i64 o.1) = some (.int .i64 o.1) := keyOf_int_mk Try.underlying3 hid
  have hh := hhas o.1 hid
  rw [decide_eq_false hn] at hh
  have m1 := hC.mc
  have m1' := fun u => (hC.below ((Below.refl _ w).alloc (Nat.le_refl _) u)).mc
  have hmlt := hown.lt
  have hm8 := (mayG_parts hmay).2.1
  have hlm : L.length < maxLen := by simp only [maxLen]; omega
  have h1 : (o.1 == -1) = false := by have := hmo.id0; simp; omega
  have Hadd := Lib.hid (fun (W : World) (h : W.ownsMap Try.prog 3 unitElem Mb (L.length + 1) (D.put (.int .i64 o.1) (.agg []))) => SetM.add h hown.isMap hhas)
  clear hhas
  have Hmo := Lib.hid hmo
  have Hrec := Lib.hid hrec
  have HC := Lib.hid hC
  have Hcnt := Lib.hid (cntG_lt ho hn)
  have HL := Lib.hid hL
  clear hmo hrec hC hL
  -- where the object stands
  obtain ⟨I, hI, hgi⟩ : ∃ I : Nat, findG g.2.1 o.1 = (I : Int) ∧ g.2.1[I]? = some o := by
    obtain ⟨i, p, e1, e2, e3, -⟩ := findG_at (findG_mem.2 ⟨o, ho, rfl⟩)
    have := mayG_apart hmay (List.mem_of_getElem? e2) ho e3
    subst this
    exact ⟨i, e1, e2⟩
  obtain ⟨hM, hMd, hdm⟩ := slice_len (rGr_open HC.out.rd).2.1
  have hIM : I < M := by have := (List.getElem?_eq_some_iff.1 hgi).1; omega
  go_enter Try.func69, Try.ntmps69
  go_wp2_with (first | (at_lookup; refine wpList_lookup_own_unit _ rfl _ _ 66 rfl 3 69 come_law rfl (come_zero _) Mb L.length D rfl hown _ _ rfl hkey ?_; rw [hh]) | (at_mapUpdate; refine wpList_mapUpdate_own _ rfl _ _ _ 66 rfl 3 69 come_law rfl (unitElem (H := Unit)) Mb L.length D rfl (hown.alloc _) hlm _ _ _ rfl rfl hkey _ [] unitElem_mk ?_; intro w1 hown1 hgrow1) | fail)
  have HG1 := Lib.hid ((World.grownBy_alloc w (.cells #[] 69) (some Mb)).trans hgrow1)
  have HS1 := Lib.hid (Hadd.out _ hown1)
  have HC1 := Lib.hid (HC.out.to HG1.out)
  have hml1 := hown1.lt
  obtain ⟨b, off, A2, c2, rfl, hb, x0, x1, x2, hvs, -, -⟩ := ob_at (rGr_open HC1.out.rd).2.1 hgi
  have g0 := HC1.out.gb.cell (j := 0) rfl
  have g1 := HC1.out.gb.cell (j := 1) rfl
  have g2 := HC1.out.gb.cell (j := 2) rfl
  have hil : (I : Int) < (M : Int) := by omega
  have hi0 : (0 : Int) ≤ (I : Int) := by omega
  have T1 := Lib.hid (fun W (hW : Below w1.heap.size w1 W) => gfind_any A (some ⟨b, off, none⟩) C N c M d K e g o.1 W (HC1.out.below hW).all)
  rw [hI] at T1
  clear hown hown1 hgrow1 m1 m1' hh Hadd hkey hid
  simp only [Act.put]
  go_cut [7] (fun v7 wx => ∃ b7 : Nat, v7 = .pointer (some ⟨b7, 0, none⟩) ∧ Blk wx b7 38 [.int .i64 o.1, .int .i64 o.2.1, .slice A2 o.2.2.length c2] ∧ w1.heap.size ≤ b7 ∧ Below w1.heap.size w1 wx)
  case first =>
    have lg := HC1.out.gb.lt
    have HS := Lib.hid (fun (W : World) (hW : Below w1.heap.size w1 W) => And.intro ((hW.cell (p := ⟨Gb, 0, none⟩) lg).trans g0) (And.intro ((hW.cell (p := ⟨Gb, 1, none⟩) lg).trans g1) (And.intro ((hW.cell (p := ⟨Gb, 2, none⟩) lg).trans g2)
      (And.intro ((hW.cell (p := ⟨b, off + I * 3, none⟩) hb.1).trans x0) (And.intro ((hW.cell (p := ⟨b, off + I * 3 + 1, none⟩) hb.1).trans x1) ((hW.cell (p := ⟨b, off + I * 3 + 2, none⟩) hb.1).trans x2))))))
    clear g0 g1 g2 x0 x1 x2
    refine fr_start (fun W => W.cell? ⟨Gb, 0, none⟩ = some (.slice A N c) ∧ W.cell? ⟨Gb, 1, none⟩ = some (.slice (some ⟨b, off, none⟩) M d) ∧ W.cell? ⟨Gb, 2, none⟩ = some (.slice C K e) ∧ W.cell? ⟨b, off + I * 3, none⟩ = some (.int .i64 o.1) ∧ W.cell? ⟨b, off + I * 3 + 1, none⟩ = some (.int .i64 o.2.1) ∧ W.cell? ⟨b, off + I * 3 + 2, none⟩ = some (.slice A2 o.2.2.length c2)) 9 (by kernel_rfl) rfl (fun _ _ _ _ _ h => h) (HS.out _ (Below.refl _ w1).drew) (fun hH => ?_)
    have hD := (Below.refl w1.heap.size w1).drew
    have hDs : w1.heap.size ≤ w1.drew.heap.size := hD.size
    generalize w1.drew = wd at *
    (refine fr_yes 0 (v := ?_) rfl (by kernel_rfl) rfl ?_ hH ?_; rotate_left; (focus ((rintro W ⟨hW1, hW2, hW3, hW4, hW5, hW6⟩; go_simp) <;> with_reducible rfl)); simp only [Act.put, List.setIfInBounds_toArray, List.set_cons_zero, List.set_cons_succ]); (refine fr_yes 1 (v := ?_) rfl (by kernel_rfl) rfl ?_ hH ?_; rotate_left; (focus ((rintro W ⟨hW1, hW2, hW3, hW4, hW5, hW6⟩; go_simp) <;> with_reducible rfl)); simp only [Act.put, List.setIfInBounds_toArray, List.set_cons_zero, List.set_cons_succ]); (refine fr_yes 2 (v := ?_) rfl (by kernel_rfl) rfl ?_ hH ?_; rotate_left; (focus ((rintro W ⟨hW1, hW2, hW3, hW4, hW5, hW6⟩; go_simp) <;> with_reducible rfl)); simp only [Act.put, List.setIfInBounds_toArray, List.set_cons_zero, List.set_cons_succ]); (refine fr_yes 3 (v := ?_) rfl (by kernel_rfl) rfl ?_ hH ?_; rotate_left; (focus ((rintro W ⟨hW1, hW2, hW3, hW4, hW5, hW6⟩; go_simp) <;> with_reducible rfl)); simp only [Act.put, List.setIfInBounds_toArray, List.set_cons_zero, List.set_cons_succ])
    refine fr_op [4, 7] (by kernel_rfl) (by simp) ?_; intro jj hjj; simp only [List.mem_cons, List.not_mem_nil, or_false] at hjj; rcases hjj with rfl | rfl
    · refine ⟨_, rfl, rfl, fun K hK => ?_⟩
      go_wp2_with (go_at_call 29; refine (T1.out _ hD).mono ?_; rintro e wg ⟨rfl, hCg⟩)
      have hDg := hD.trans (hCg.mono hD.size)
      refine hK.out _ _ (HS.out _ hDg) ?_
      clear hK hH hCg
      have hH := HS.out _ hDg
      (refine fr_yes 5 (v := ?_) rfl (by kernel_rfl) rfl ?_ hH ?_; rotate_left; (focus ((rintro W ⟨hW1, hW2, hW3, hW4, hW5, hW6⟩; go_simp) <;> with_reducible rfl)); simp only [Act.put, List.setIfInBounds_toArray, List.set_cons_zero, List.set_cons_succ]); (refine fr_yes 6 (v := ?_) rfl (by kernel_rfl) rfl ?_ hH ?_; rotate_left; (focus ((rintro W ⟨hW1, hW2, hW3, hW4, hW5, hW6⟩; go_simp) <;> with_reducible rfl)); simp only [Act.put, List.setIfInBounds_toArray, List.set_cons_zero, List.set_cons_succ])
      refine fr_op [7] (by kernel_rfl) (by simp) ?_; intro jj hjj; simp only [List.mem_cons, List.not_mem_nil, or_false] at hjj; subst hjj; refine ⟨_, rfl, rfl, fun K hK => ?_⟩
      go_wp2
      have hDz := hDg.alloc hDg.size (.cells #[.int .i64 0, .int .i64 0, .slice none 0 0] 38)
      refine hK.out _ _ (HS.out _ hDz) ?_
      clear hK hH
      refine fr_op [8] (by kernel_rfl) (by simp) ?_; intro jj hjj; simp only [List.mem_cons, List.not_mem_nil, or_false] at hjj; subst hjj; refine ⟨_, rfl, rfl, fun K hK => ?_⟩
      go_wp2
      have hDe := hDg.alloc hDg.size (.cells #[.int .i64 o.1, .int .i64 o.2.1, .slice A2 o.2.2.length c2] 38)
      refine hK.out _ _ (HS.out _ hDe) ?_
      clear hK
      refine fr_done (by kernel_rfl) ?_
      go_wp2
      go_meet
      case rel => exact ⟨_, rfl, Blk.new _ _ [.int .i64 o.1, .int .i64 o.2.1, .slice A2 o.2.2.length c2], hDg.size, hDe⟩
    · refine ⟨_, rfl, rfl, fun K hK => ?_⟩
      go_wp2
      have hDz := hD.alloc hD.size (.cells #[.int .i64 0, .int .i64 0, .slice none 0 0] 38)
      have vz := Blk.new wd 38 [.int .i64 0, .int .i64 0, .slice none 0 0]
      refine hK.out _ _ (HS.out _ hDz) ?_
      clear hK hH
      have hH := HS.out _ hDz
      generalize wd.alloc (.cells #[.int .i64 0, .int .i64 0, .slice none 0 0] 38) = wz at *
      refine fr_op [4] (by kernel_rfl) (by simp) ?_; intro jj hjj; simp only [List.mem_cons, List.not_mem_nil, or_false] at hjj; subst hjj; refine ⟨_, rfl, rfl, fun K hK => ?_⟩
      go_wp2_with (go_at_call 29; refine (T1.out _ hDz).mono ?_; rintro e wg ⟨rfl, hCg⟩)
      have hDg := hDz.trans (hCg.mono hDz.size)
      have vg := vz.to hCg
      refine hK.out _ _ (HS.out _ hDg) ?_
      clear hK hH hCg hDz vz
      have hH := HS.out _ hDg
      (refine fr_yes 5 (v := ?_) rfl (by kernel_rfl) rfl ?_ hH ?_; rotate_left; (focus ((rintro W ⟨hW1, hW2, hW3, hW4, hW5, hW6⟩; go_simp) <;> with_reducible rfl)); simp only [Act.put, List.setIfInBounds_toArray, List.set_cons_zero, List.set_cons_succ]); (refine fr_yes 6 (v := ?_) rfl (by kernel_rfl) rfl ?_ hH ?_; rotate_left; (focus ((rintro W ⟨hW1, hW2, hW3, hW4, hW5, hW6⟩; go_simp) <;> with_reducible rfl)); simp only [Act.put, List.setIfInBounds_toArray, List.set_cons_zero, List.set_cons_succ])
      have z0 := vg.cell (j := 0) rfl
      have z1 := vg.cell (j := 1) rfl
      have z2 := vg.cell (j := 2) rfl
      have f0 := vg.frozen 0
      have f1 := vg.frozen 1
      have f2 := vg.frozen 2
      refine fr_op [8] (by kernel_rfl) (by simp) ?_; intro jj hjj; simp only [List.mem_cons, List.not_mem_nil, or_false] at hjj; subst hjj; refine ⟨_, rfl, rfl, fun K hK => ?_⟩
      go_wp2
      have hDe := ((hDg.setCell (p := ⟨wd.heap.size, 0, none⟩) hDs (.int .i64 o.1)).setCell (p := ⟨wd.heap.size, 1, none⟩) hDs (.int .i64 o.2.1)).setCell (p := ⟨wd.heap.size, 2, none⟩) hDs (.slice A2 o.2.2.length c2)
      refine hK.out _ _ (HS.out _ hDe) ?_
      clear hK hH
      refine fr_done (by kernel_rfl) ?_
      go_wp2
      go_meet
      case rel => exact ⟨_, rfl, ((vg.set 0 (.int .i64 o.1)).set 1 (.int .i64 o.2.1)).set 2 (.slice A2 o.2.2.length c2), hDs, hDe⟩
  case rest =>
    obtain ⟨b7, rfl, p7, hb7, hBx⟩ := hcut
    clear T1 x0 x1 x2 g0 g1 g2 hI hil hi0
    have HGx := Lib.hid (HG1.out.trans (below_grown hBx (some Mb)))
    have HCx := Lib.hid (HC1.out.below hBx)
    have HSx := Lib.hid (HS1.out.below hBx)
    have hvx := rVals_stays.to (keepM (below_grown hBx (some Mb))) hvs
    have h7 : b7 ≠ Mb := by omega
    clear hBx HG1 HC1 HS1 hvs hb7 hml1 HC
    obtain ⟨t, ht⟩ : ∃ t : Nat, o.2.1 = (t : Int) := ⟨o.2.1.toNat, by have := Hmo.out.t0; omega⟩
    obtain ⟨hN, hNc, hcm⟩ := slice_len (rGr_open HCx.out.rd).1
    have htN : t < N := by have := Hmo.out.t1; omega
    have hgt : g.1[t]? = some g.1[t] := List.getElem?_eq_getElem (by omega)
    obtain ⟨bt, offt, st, AF, cF, rfl, hbt, -, y1, -, -, hfs⟩ := typ_at (rGr_open HCx.out.rd).1 hgt
    have hFe := fldsG_at ht hgt
    rw [← hFe] at y1 hfs
    obtain ⟨hF, hFc, hFm⟩ := slice_len hfs
    have hlen := Hmo.out.len
    have hmay' := Hmo.out.have'
    rw [ht] at p7
    have k1 := HCx.out.gb.cell (j := 0) rfl
    have k2 := p7.cell (j := 1) rfl
    have htl : (t : Int) < (N : Int) := by omega
    have ht0 : (0 : Int) ≤ (t : Int) := by omega
    simp only [maxLen] at hFm
    clear hFe hgt Hmo
    have Hfs := Lib.hid hfs
    have Hvx := Lib.hid hvx
    have P7 := Lib.hid p7
    have Hlen := Lib.hid hlen
    have Hhave := Lib.hid hmay'
    clear hfs hvx p7 hlen hmay' hF
    generalize hfs0 : fldsG g.1 o.2.1 = fs at *
    generalize hfl : fs.length = fl at *
    generalize hvl : o.2.2.length = vl at *
    have hlv := Hlen.out
    go_wp2
    clear k1 k2 y1
    go_loopw [40] (fun iv w' => ∃ (i : Nat) (Li : List Int), i ≤ fl ∧ iv = .int .i64 (i : Int) ∧ Hid (wc.grownBy w' (some Mb)) ∧ Hid (SetM w' Mb Li) ∧ Hid (Li.length + cntG g.2.1 Li ≤ g.2.1.length ∧ DfsI g L Li o i)) (fun iv _ => fl - (intOf iv).toNat)
    case atStart => exact ⟨0, _, by omega, rfl, Lib.hid (World.grownBy.refl _ _), HSx, Lib.hid ⟨by have := HL.out; have := Hcnt.out; rw [List.length_append, List.length_singleton]; omega, DfsI.start g L o⟩⟩
    case round =>
      rename_i iv wr
      obtain ⟨i, Li, hi, rfl, hg, hS, hr⟩ := hrel
      by_cases hin : i < fl
      · obtain ⟨f, hfi⟩ : ∃ f, fs[i]? = some f := ⟨_, List.getElem?_eq_getElem (by omega)⟩
        obtain ⟨bf, offf, sx, tx, rfl, hbf, q0, q1, q2, -, -, -, -, -⟩ := fld_at (rFlds_stays.to (keepM hg.out) Hfs.out) hfi
        have hil : (i : Int) < (fl : Int) := by omega
        have hi0 : (0 : Int) ≤ (i : Int) := by omega
        have HA := Lib.hid (World.grownBy_alloc wr (.cells #[.string sx, .int .i64 f.2.1, .string tx] 48) (some Mb))
        by_cases h5 : f.2.1 = 5
        · have h5' : (f.2.1 == 5) = true := by simp [h5]
          obtain ⟨v, hvi⟩ : ∃ v, o.2.2[i]? = some v := ⟨_, List.getElem?_eq_getElem (by omega)⟩
          obtain ⟨bv, offv, sv, rfl, hbv, -, -, r2, -, -, -, hvb⟩ := val_at (rVals_stays.to (keepM hg.out) Hvx.out) hvi
          have HGr := Lib.hid (hg.out.trans HA.out)
          have HCr := Lib.hid (HCx.out.to HGr.out)
          have HSr := Lib.hid (hS.out.kept (World.grownBy_alloc wr (.cells #[.string sx, .int .i64 f.2.1, .string tx] 48) none) (by simp))
          have p7r : Blk (wr.alloc (.cells #[.string sx, .int .i64 f.2.1, .string tx] 48)) b7 38 [.int .i64 o.1, .int .i64 (t : Int), .slice (some ⟨bv, offv, none⟩) vl c2] := (HGr.out.block _ P7.out.lt (by simpa using h7)).trans P7.out
          have r2' : (wr.alloc (.cells #[.string sx, .int .i64 f.2.1, .string tx] 48)).cell? ⟨bv, offv + i * 3 + 2, none⟩ = some (.int .i64 v.2.2) := HA.out.cell r2 (by simpa using hbv.2)
          have T9 := Lib.hid (fun W hC9 hS9 => Hrec.out v.2.2 Li W (WalkArith.wf_i64 hvb) (by
            by_cases e1 : v.2.2 = -1
            · exact .inl e1
            · exact .inr (haveG_ref (Hhave.out i f v hfi hvi) h5 e1).1) (by have := cntG_le (os := g.2.1) hr.out.2.more; have := Hcnt.out; omega) hr.out.1 hC9 hS9)
          have Hst := Lib.hid (fun Lj hd => hr.out.2.step (Mj := Lj) ho (by rw [hfs0]; exact hfi) hvi h5 hd)
          have S0 := And.intro HCr.out.vc (And.intro (p7r.cell (j := 2) rfl) r2')
          have hilv : (i : Int) < (vl : Int) := by omega
          clear r2 r2' hfi hvi h5 hvb
          generalize hkk : f.2.1 = kk at *
          generalize hrr : v.2.2 = rr at *
          clear hkk
          go_wp2
          generalize wr.alloc (.cells #[.string sx, .int .i64 kk, .string tx] 48) = W1 at *
          refine sch_start [(0, true), (1, true), (2, true), (3, true), (4, true), (5, true), (6, true), (7, false)]
            (fun W => W.cell? ⟨Vc, 0, none⟩ = some (.func (.func 69) #[] #[.pointer (some ⟨Mc, 0, none⟩), .pointer (some ⟨Gb, 0, none⟩), .pointer (some ⟨Vc, 0, none⟩)]) ∧ W.cell? ⟨b7, 2, none⟩ = some (.slice (some ⟨bv, offv, none⟩) vl c2) ∧ W.cell? ⟨bv, offv + i * 3 + 2, none⟩ = some (.int .i64 rr)) (by kernel_rfl) rfl (by kernel_rfl) (fun _ _ _ _ _ h => h) S0 (fun hH => ?_)
          repeat (first | (refine sch_yes (v := ?_) rfl rfl ?_ hH ?_; rotate_left; (focus ((rintro W ⟨hW1, hW2, hW3⟩; go_simp) <;> with_reducible rfl)); simp only [Act.put, List.setIfInBounds_toArray, List.set_cons_zero, List.set_cons_succ]) | (refine sch_no rfl rfl hH ?_; simp only [Act.put, List.setIfInBounds_toArray, List.set_cons_zero, List.set_cons_succ]))
          refine sch_call rfl rfl (fun K' hK => ?_)
          go_wp2_with (go_at_call 69; refine (T9.out _ (HCr.out.below (Below.refl _ W1).drew) (HSr.out.below (Below.refl _ W1).drew)).mono ?_; rintro e w9 ⟨rfl, Lj, hS9, hL9, hd9, hg9⟩)
          have hG9 : W1.grownBy w9 (some Mb) := (below_grown (Below.refl _ W1).drew (some Mb)).trans hg9
          have S9 := And.intro (HCr.out.to hG9).vc (And.intro (hG9.cell S0.2.1 (by simpa using h7)) (hG9.cell S0.2.2 (by simpa using hbv.2)))
          refine hK.out _ _ S9 ?_
          clear hK hH
          refine sch_done ?_
          go_wp2
          go_roundw
          case rel => exact ⟨i + 1, Lj, by omega, by go_num, Lib.hid (HGr.out.trans hG9), Lib.hid hS9, Lib.hid ⟨hL9, Hst.out Lj hd9⟩⟩
          case measure => simp [intOf]; omega
        · have h5' : (f.2.1 == 5) = false := by simp [h5]
          have Hp := Lib.hid (hr.out.2.pass (by rw [hfs0]; exact hfi) h5)
          clear hfi h5
          generalize f.2.1 = kk at *
          go_wp2
          go_roundw
          case rel => exact ⟨i + 1, Li, by omega, by go_num, Lib.hid (hg.out.trans HA.out), Lib.hid (hS.out.kept (World.grownBy_alloc _ _ none) (by simp)), Lib.hid ⟨hr.out.1, Hp.out⟩⟩
          case measure => simp [intOf]; omega
      · obtain rfl : i = fl := by omega
        have Hall := Lib.hid (hr.out.2.all ho (by omega) (by simpa using h1) (fun p hp e => mayG_apart hmay hp ho e))
        go_wp2
        go_end0
        exact ⟨rfl, Li, hS.out, hr.out.1, Hall.out, HGx.out.trans hg.out⟩

/-- The closure, whatever it is called for. -/
theorem visit_any (A B C : Option Addr) (N c M d K e : Nat) (g : Gr) (Gb Mc Vc Mb : Nat) (hmay : mayG g = true) : ∀ (n : Nat) (id : Int) (L : List Int) (w : World), cntG g.2.1 L ≤ n → (Lit.int .i64 id).wf = true → (id = -1 ∨ findG g.2.1 id ≠ -1) → L.length + cntG g.2.1 L ≤ g.2.1.length → CW A B C N c M d K e g Gb Mc Vc Mb w → SetM w Mb L →
    Calls Try.prog 69 #[.int .i64 id, .pointer (some ⟨Mc, 0, none⟩), .pointer (some ⟨Gb, 0, none⟩), .pointer (some ⟨Vc, 0, none⟩)] w (Visits g Mb id L w) := by
  intro n
  induction n with
  | zero =>
    intro id L w hn hw hi hL hC hS
    refine visit_skip A B C N c M d K e g Gb Mc Vc Mb id L w hw hL hC hS ?_
    by_cases h1 : id = -1
    · exact .inl h1
    · obtain ⟨o, ho, rfl⟩ := findG_mem.1 (hi.resolve_left h1)
      by_cases h2 : o.1 ∈ L
      · exact .inr h2
      · have := cntG_lt ho h2; omega
  | succ n ih =>
    intro id L w hn hw hi hL hC hS
    by_cases h1 : id = -1
    · exact visit_skip A B C N c M d K e g Gb Mc Vc Mb id L w hw hL hC hS (.inl h1)
    · obtain ⟨o, ho, rfl⟩ := findG_mem.1 (hi.resolve_left h1)
      by_cases h2 : o.1 ∈ L
      · exact visit_skip A B C N c M d K e g Gb Mc Vc Mb o.1 L w hw hL hC hS (.inr h2)
      · exact visit_go A B C N c M d K e g Gb Mc Vc Mb hmay o ho L w h2 hL hC hS (fun id' L' W a1 a2 a3 a4 a5 a6 => ih id' L' W (by omega) a1 a2 a4 a5 a6)
end Go.Proofs.Yteafbdebmhpffaa

/- The contract of graph's comeTo: a set of the ids that are come to. Condition: a graph that may be. -/
namespace Go.Proofs.Yteafbdebmhpffaa
open Go.RowKit Go.Maps

theorem four_boxes (w : World) (o1 o2 o3 o4 : Obj) : ((((w.alloc o1).alloc o2).alloc o3).alloc o4).heap[w.heap.size]? = some o1 ∧ ((((w.alloc o1).alloc o2).alloc o3).alloc o4).heap[w.heap.size + 1]? = some o2 ∧ ((((w.alloc o1).alloc o2).alloc o3).alloc o4).heap[w.heap.size + 2]? = some o3 ∧ ((((w.alloc o1).alloc o2).alloc o3).alloc o4).heap[w.heap.size + 3]? = some o4 := by
  have e1 : (w.alloc o1).heap.size = w.heap.size + 1 := by simp
  have e2 : ((w.alloc o1).alloc o2).heap.size = w.heap.size + 2 := by simp
  have e3 : (((w.alloc o1).alloc o2).alloc o3).heap.size = w.heap.size + 3 := by simp
  refine ⟨?_, ?_, ?_, ?_⟩
  · rw [Below.heap_alloc _ _ _ (by omega), Below.heap_alloc _ _ _ (by omega), Below.heap_alloc _ _ _ (by omega)]; exact heap_alloc_new w o1
  · rw [Below.heap_alloc _ _ _ (by omega), Below.heap_alloc _ _ _ (by omega), ← e1]; exact heap_alloc_new _ o2
  · rw [Below.heap_alloc _ _ _ (by omega), ← e2]; exact heap_alloc_new _ o3
  · rw [← e3]; exact heap_alloc_new _ o4
theorem cntG_nil (os : List Ob) : cntG os [] = os.length := by
  induction os with
  | nil => rfl
  | cons o os ih => rw [cntG_cons, ih, if_neg (by simp), List.length_cons]; omega

set_option maxRecDepth 100000 in
set_option maxHeartbeats 2000000 in
theorem comeTo_any (A B C : Option Addr) (N c M d K e : Nat) (g : Gr) (w : World) (h : rGr (All w) w [.slice A N c, .slice B M d, .slice C K e] g) (hmay : mayG g = true) :
    Calls Try.prog 46 #[.agg #[.slice A N c, .slice B M d, .slice C K e]] w fun e w' => ∃ Mb L, e = .returned (.map (some Mb)) ∧ SetM w' Mb L ∧ (∀ x, x ∈ L ↔ ComeG g x) ∧ w.heap.size ≤ Mb ∧ Below w.heap.size w w' := by
  have hmm := @run_makeMap Try.prog
  obtain ⟨hK, hKe, hem⟩ := slice_len (rGr_open h).2.2
  simp only [maxLen] at hem
  obtain ⟨q1, q2, q3, q4⟩ := four_boxes w (.cells #[.slice A N c, .slice B M d, .slice C K e] 28) (.map #[] 0) (.cells #[.map (some (w.heap.size + 1))] 66) (.cells #[.func (.func 69) #[] #[.pointer (some ⟨w.heap.size + 2, 0, none⟩), .pointer (some ⟨w.heap.size, 0, none⟩), .pointer (some ⟨w.heap.size + 3, 0, none⟩)]] 89)
  have HB := Lib.hid (fun o1 o2 o3 o4 => (((((Below.refl w.heap.size w).alloc (Nat.le_refl _) o1).alloc (by simp) o2).alloc (by simp; omega) o3).alloc (by simp; omega) o4 : Below w.heap.size w ((((w.alloc o1).alloc o2).alloc o3).alloc o4)))
  have Hown := Lib.hid (World.ownsMap_made (H := Unit) (w.alloc (.cells #[.slice A N c, .slice B M d, .slice C K e] 28)) Try.prog 3 unitElem)
  have HC0 := Lib.hid (CW.mk (g := g) q1 (Blk.cell (cs := [_]) q3 (j := 0) rfl) (Blk.cell (cs := [_]) q4 (j := 0) rfl) (rGr_stays.to (fun b hb => ⟨⟨Nat.lt_of_lt_of_le hb (HB.out _ _ _ _).size, by have : b < w.heap.size := hb; omega⟩, (HB.out _ _ _ _).block b hb⟩) h) ⟨by omega, by omega, by omega⟩)
  have e1 : (w.alloc (.cells #[.slice A N c, .slice B M d, .slice C K e] 28)).heap.size = w.heap.size + 1 := by simp
  rw [e1] at Hown
  have HS0 := Lib.hid (show SetM _ (w.heap.size + 1) [] from ⟨_, (Hown.out.alloc (.cells #[.map (some (w.heap.size + 1))] 66)).alloc (.cells #[.func (.func 69) #[] #[.pointer (some ⟨w.heap.size + 2, 0, none⟩), .pointer (some ⟨w.heap.size, 0, none⟩), .pointer (some ⟨w.heap.size + 3, 0, none⟩)]] 89), fun x _ => by simp [Maps.has]⟩)
  clear q1 q2 q3 q4 Hown e1
  have HK := Lib.hid (mayG_parts hmay).2.2.2.2
  have p4 : ∀ o1 o2 o3, Blk ((((w.alloc o1).alloc o2).alloc o3).alloc (.cells #[.nilFunc] 89)) (w.heap.size + 1 + 1 + 1) 89 [.nilFunc] := fun o1 o2 o3 => (four_boxes w o1 o2 o3 _).2.2.2
  have c4 := fun o1 o2 o3 => (p4 o1 o2 o3).cell (j := 0) rfl
  have f4 := fun o1 o2 o3 => (p4 o1 o2 o3).frozen 0
  clear h
  go_enter Try.func46, Try.ntmps46
  go_wp2
  go_loopw [12] (fun iv w' => ∃ (i : Nat) (L : List Int), i ≤ K ∧ iv = .int .i64 (i : Int) ∧ Hid (CW A B C N c M d K e g w.heap.size (w.heap.size + 2) (w.heap.size + 3) (w.heap.size + 1) w') ∧ Hid (SetM w' (w.heap.size + 1) L) ∧ Hid (L.length + cntG g.2.1 L ≤ g.2.1.length ∧ DfsR g L i) ∧ Hid (Below w.heap.size w w')) (fun iv _ => K - (intOf iv).toNat)
  case atStart => exact ⟨0, [], by omega, rfl, HC0, HS0, Lib.hid ⟨by rw [cntG_nil]; simp, DfsR.start g⟩, Lib.hid (HB.out _ _ _ _)⟩
  case round =>
    rename_i iv wr
    obtain ⟨i, L, hi, rfl, hC, hS, hr, hB⟩ := hrel
    clear HC0 HS0 HB
    by_cases hin : i < K
    · obtain ⟨x, hx⟩ : ∃ x, g.2.2[i]? = some x := ⟨_, List.getElem?_eq_getElem (by omega)⟩
      obtain ⟨b, off, rfl, hb, hx1, hxb⟩ := id_at (rGr_open hC.out.rd).2.2 hx
      have hil : (i : Int) < (K : Int) := by omega
      have hi0 : (0 : Int) ≤ (i : Int) := by omega
      have vc' : wr.cell? ⟨w.heap.size + 1 + 1 + 1, 0, none⟩ = some (.func (.func 69) #[] #[.pointer (some ⟨w.heap.size + 1 + 1, 0, none⟩), .pointer (some ⟨w.heap.size, 0, none⟩), .pointer (some ⟨w.heap.size + 1 + 1 + 1, 0, none⟩)]) := hC.out.vc
      have T9 : Hid (Calls Try.prog 69 #[.int .i64 x, .pointer (some ⟨w.heap.size + 1 + 1, 0, none⟩), .pointer (some ⟨w.heap.size, 0, none⟩), .pointer (some ⟨w.heap.size + 1 + 1 + 1, 0, none⟩)] wr (Visits g (w.heap.size + 1) x L wr)) :=
        Lib.hid (visit_any A B (some ⟨b, off, none⟩) N c M d K e g w.heap.size (w.heap.size + 2) (w.heap.size + 3) (w.heap.size + 1) hmay _ x L wr (Nat.le_refl _) (WalkArith.wf_i64 hxb) (by
          have := HK.out x (List.mem_of_getElem? hx)
          rw [rootG, Bool.or_eq_true, decide_eq_true_eq, decide_eq_true_eq] at this
          exact this) hr.out.1 hC.out hS.out)
      have Hx := Lib.hid hx
      clear hx
      go_wp2_with (first | (go_at_call 69; refine T9.out.mono ?_; rintro e w9 ⟨rfl, Lj, hS9, hL9, hd9, hg9⟩) | fail)
      go_roundw
      case rel => exact ⟨i + 1, Lj, by omega, by go_num, Lib.hid (hC.out.to hg9), Lib.hid hS9, Lib.hid ⟨hL9, hr.out.2.step Hx.out hd9⟩, Lib.hid (hB.out.grown hg9 hB.out.size (fun k hk => by cases hk; exact Nat.le_succ _))⟩
      case measure => simp [intOf]; omega
    · obtain rfl : i = K := by omega
      have mc' : wr.cell? ⟨w.heap.size + 1 + 1, 0, none⟩ = some (.map (some (w.heap.size + 1))) := hC.out.mc
      have Hall := Lib.hid (fun x => hr.out.2.all (by omega) x)
      go_wp2
      go_ret
      exact ⟨w.heap.size + 1, L, rfl, hS.out, Hall.out, Nat.le_succ _, hB.out⟩
end Go.Proofs.Yteafbdebmhpffaa

/- The contracts of what Sweep strikes out, of slices.IndexFunc with it, and of slices.DeleteFunc. No condition. -/
namespace Go.Proofs.Yteafbdebmhpffaa
open Go.RowKit Go.Maps

set_option maxRecDepth 100000 in
theorem del_any (x y : Int) (A2 : Option Addr) (n2 c2 : Nat) (L : List Int) (Mb g : Nat) (w : World) (hn : w.cell? ⟨g, 0, none⟩ = some (.map (some Mb))) (hg : g < w.heap.size) (hS : SetM w Mb L) (hw : (Lit.int .i64 x).wf = true) :
    Calls Try.prog 49 #[.agg #[.int .i64 x, .int .i64 y, .slice A2 n2 c2], .pointer (some ⟨g, 0, none⟩)] w fun e w' => e = .returned (.bool (!decide (x ∈ L))) ∧ Below w.heap.size w w' := by
  have hB : Below w.heap.size w (w.alloc (.cells #[.int .i64 x, .int .i64 y, .slice A2 n2 c2] 38)) := (Below.refl _ w).alloc (Nat.le_refl _) _
  have hn' := (hB.cell (p := ⟨g, 0, none⟩) hg).trans hn
  obtain ⟨D, hown, hhas⟩ := hS.below hB
  have hkey : keyOf Try.prog 3 (.int .i64 x) = some (.int .i64 x) := keyOf_int_mk Try.underlying3 hw
  have hh := hhas x hw
  clear hhas hS
  go_enter Try.func49, Try.ntmps49
  go_wp2_with (first | (at_lookup; refine wpList_lookup_own_unit _ rfl _ _ 66 rfl 3 69 come_law rfl (come_zero _) Mb L.length D rfl hown _ _ rfl hkey ?_; rw [hh]) | fail)
  go_ret
  exact ⟨rfl, hB.alloc hB.size _⟩

set_option maxRecDepth 100000 in
set_option maxHeartbeats 1000000 in
theorem indexD_any (A : Option Addr) (N c : Nat) (l : List Ob) (L : List Int) (Mb g : Nat) (w : World) (h : rObs (All w) w [.slice A N c] l) (hn : w.cell? ⟨g, 0, none⟩ = some (.map (some Mb))) (hg : g < w.heap.size) (hS : SetM w Mb L) :
    Calls Try.prog 52 #[.slice A N c, .func (.func 49) #[] #[.pointer (some ⟨g, 0, none⟩)]] w fun e w' => e = .returned (.int .i64 (idxP (fun o => !decide (o.1 ∈ L)) l)) ∧ Below w.heap.size w w' := by
  obtain ⟨hN, hNc, hcm⟩ := slice_len h
  simp only [maxLen] at hcm
  go_enter Try.func52, Try.ntmps52
  go_wp2
  go_loopw [8] (fun iv w' => ∃ i : Nat, i ≤ N ∧ iv = .int .i64 (i : Int) ∧ Below w.heap.size w w' ∧ ∀ j o, j < i → l[j]? = some o → (!decide (o.1 ∈ L)) = false) (fun iv _ => N - (intOf iv).toNat)
  case atStart => exact ⟨0, by omega, rfl, Below.refl _ _, fun j t hj => by omega⟩
  case round =>
    rename_i iv wr
    obtain ⟨i, hi, rfl, hB, hno⟩ := hrel
    have h := obs_below hB h
    have hn : wr.cell? ⟨g, 0, none⟩ = some (.map (some Mb)) := (hB.cell (p := ⟨g, 0, none⟩) hg).trans hn
    have hg : g < wr.heap.size := Nat.lt_of_lt_of_le hg hB.size
    have hS := hS.kept (below_grown hB none) (by simp)
    by_cases hin : i < N
    · have hli : l[i]? = some l[i] := List.getElem?_eq_getElem (by omega)
      obtain ⟨b, off, A2, c2, rfl, hb, hx1, hx2, hx3, -, hid, -⟩ := ob_at h hli
      have T1 := Lib.hid (del_any l[i].1 l[i].2.1 A2 l[i].2.2.length c2 L Mb g wr hn hg hS (WalkArith.wf_i64 hid))
      have hil : (i : Int) < (N : Int) := by omega
      have hi0 : (0 : Int) ≤ (i : Int) := by omega
      have Hno := Lib.hid hno
      have Hli := Lib.hid hli
      have HB := Lib.hid hB
      clear hno hli h hB hS
      by_cases he : (!decide (l[i].1 ∈ L)) = true
      · have Hr : Hid (idxP (fun o => !decide (o.1 ∈ L)) l = (i : Int)) := (idxP_iff _ l i).2 ⟨⟨l[i], Hli.out, he⟩, fun j b hj hb => Hno.out j b hj hb⟩
        rw [he] at T1
        clear he
        generalize l[i].1 = x1 at *
        generalize l[i].2.1 = x2 at *
        generalize l[i].2.2.length = x3 at *
        go_wp2_with (first | (go_at_call 49; refine T1.out.mono ?_; rintro e w1 ⟨rfl, hB1⟩) | fail)
        go_ret
        exact ⟨by rw [Hr.out]; rfl, HB.out.trans (hB1.mono HB.out.size)⟩
      · replace he : (!decide (l[i].1 ∈ L)) = false := by simpa using he
        have Hr : Hid (∀ j o, j < i + 1 → l[j]? = some o → (!decide (o.1 ∈ L)) = false) := fun j t hj ht => by
          by_cases hji : j < i
          · exact Hno.out j t hji ht
          · obtain rfl : j = i := by omega
            rw [Hli.out] at ht
            injection ht with ht
            subst ht
            exact he
        rw [he] at T1
        clear he
        generalize l[i].1 = x1 at *
        generalize l[i].2.1 = x2 at *
        generalize l[i].2.2.length = x3 at *
        go_wp2_with (first | (go_at_call 49; refine T1.out.mono ?_; rintro e w1 ⟨rfl, hB1⟩) | fail)
        go_roundw
        case rel => exact ⟨i + 1, by omega, by go_num, HB.out.trans (hB1.mono HB.out.size), Hr.out⟩
        case measure => simp [intOf]; omega
    · obtain rfl : i = N := by omega
      have Hr : Hid (idxP (fun o => !decide (o.1 ∈ L)) l = -1) := (idxP_none _ l).2 fun t ht => by
        obtain ⟨j, hj⟩ := List.getElem?_of_mem ht
        have := (List.getElem?_eq_some_iff.1 hj).1
        exact hno j t (by omega) hj
      clear hno
      go_wp2
      go_ret
      exact ⟨by rw [Hr.out]; rfl, hB⟩

set_option maxRecDepth 100000 in
set_option maxHeartbeats 2000000 in
theorem deleteFunc_any (b2 n : Nat) (z : List (Ob × Nat)) (L : List Int) (lo hi Mb g : Nat) (w : World) (hz : z.length = n) (hnm : n ≤ 8) (hb : Blk w b2 38 (cellsZ z)) (hI : InZ lo hi w z) (hhi : hi ≤ w.heap.size) (hn : w.cell? ⟨g, 0, none⟩ = some (.map (some Mb))) (hg : g < w.heap.size) (hS : SetM w Mb L) (hgb : g ≠ b2) (hmb : Mb ≠ b2) :
    Calls Try.prog 48 #[.slice (some ⟨b2, 0, none⟩) n n, .func (.func 49) #[] #[.pointer (some ⟨g, 0, none⟩)]] w fun e w' =>
      ∃ (k : Nat) (rest : List Value), e = .returned (.slice (some ⟨b2, 0, none⟩) k n) ∧ k = (z.filter fun p => decide (p.1.1 ∈ L)).length ∧ Blk w' b2 38 (cellsZ (z.filter fun p => decide (p.1.1 ∈ L)) ++ rest) ∧ w.grownBy w' (some b2) := by
  have hr : rObs (All w) w [.slice (some ⟨b2, 0, none⟩) n n] (z.map (·.1)) := blk_slice hb (hI.ob.chunks.imp fun cs a hq => rOb_stays.to (Keeps.mono fun b hb => by show b < _; omega) hq) hb.lt (by simp [hz, maxLen]; omega) (by simpa using hz)
  have T1 := Lib.hid (indexD_any (some ⟨b2, 0, none⟩) n n (z.map (·.1)) L Mb g w hr hn hg hS)
  have hwf : ∀ p ∈ z, (Lit.int .i64 p.1.1).wf = true := fun p hp => (hI.1 p hp).2.2.1
  have Hix := Lib.hid (fun i => (idxP_iff (fun o : Ob => !decide (o.1 ∈ L)) (z.map (·.1)) i).1)
  have Hno := Lib.hid (idxP_none (fun o : Ob => !decide (o.1 ∈ L)) (z.map (·.1))).1
  have Hlo := Lib.hid (idxP_low (fun o : Ob => !decide (o.1 ∈ L)) (z.map (·.1)))
  clear hr hI
  generalize idxP (fun o : Ob => !decide (o.1 ∈ L)) (z.map (·.1)) = q at *
  by_cases hq : q = -1
  · subst hq
    have hall : (z.filter fun p => decide (p.1.1 ∈ L)) = z := List.filter_eq_self.2 fun p hp => by
      have := Hno.out rfl p.1 (List.mem_map_of_mem hp)
      simpa using this
    have Hall := Lib.hid hall
    clear hall
    go_enter Try.func48, Try.ntmps48
    go_wp2_with (first | (go_at_call 52; refine T1.out.mono ?_; rintro e w1 ⟨rfl, hB1⟩) | fail)
    go_ret
    refine ⟨n, [], rfl, by rw [Hall.out, hz], ?_, below_grown hB1 _⟩
    rw [Hall.out, List.append_nil]
    exact hb.to hB1
  · obtain ⟨i0, hi0⟩ : ∃ i0 : Nat, q = (i0 : Int) := ⟨q.toNat, by have := Hlo.out; omega⟩
    subst hi0
    obtain ⟨⟨o0, ho0, hp0⟩, hbefore⟩ := Hix.out i0 rfl
    rw [List.getElem?_map, Option.map_eq_some_iff] at ho0
    obtain ⟨p0, hz0, rfl⟩ := ho0
    have hi0n : i0 < n := by have := (List.getElem?_eq_some_iff.1 hz0).1; omega
    have hpre : (z.take (i0 + 1)).filter (fun p => decide (p.1.1 ∈ L)) = z.take i0 := by
      rw [take_at hz0, List.filter_append, List.filter_cons_of_neg (by simpa using hp0), List.filter_nil, List.append_nil]
      refine List.filter_eq_self.2 fun p hp => ?_
      obtain ⟨j, hj⟩ := List.getElem?_of_mem hp
      rw [List.getElem?_take] at hj
      split at hj
      · have := hbefore j p.1 (by assumption) (by rw [List.getElem?_map, hj]; rfl)
        simpa using this
      · cases hj
    have hcut : cellsZ z = cellsZ ((z.take (i0 + 1)).filter (fun p => decide (p.1.1 ∈ L))) ++ (cellsZ [p0] ++ cellsZ (z.drop (i0 + 1))) := by
      rw [hpre, ← cellsZ_append, ← cellsZ_append]
      congr 1
      rw [List.singleton_append, ← (List.getElem?_eq_some_iff.1 hz0).2, ← List.drop_eq_getElem_cons, List.take_append_drop]
    have hq' : ((i0 : Int) == -1) = false := by rw [beq_eq_false_iff_ne]; omega
    have hlen0 : ((z.take (i0 + 1)).filter (fun p => decide (p.1.1 ∈ L))).length = i0 := by rw [hpre, List.length_take]; omega
    rw [hcut] at hb
    have Hlen0 := Lib.hid hlen0
    have Hb := Lib.hid hb
    clear hbefore hp0 hpre hcut Hix Hno Hlo hz0 hlen0 hb
    go_enter Try.func48, Try.ntmps48
    go_wp2_with (first | (go_at_call 52; refine T1.out.mono ?_; rintro e w1 ⟨rfl, hB1⟩) | fail)
    go_loopw [5, 6] (fun iv jv w' => ∃ (i j : Nat) (mid : List Value), i < j ∧ j ≤ n ∧ iv = .int .i64 (i : Int) ∧ jv = .int .i64 (j : Int) ∧ Hid (mid.length = (j - i) * 3 ∧ ((z.take j).filter (fun p => decide (p.1.1 ∈ L))).length = i ∧ Blk w' b2 38 (cellsZ ((z.take j).filter (fun p => decide (p.1.1 ∈ L))) ++ (mid ++ cellsZ (z.drop j))) ∧ w.grownBy w' (some b2))) (fun _ jv _ => n - (intOf jv).toNat)
    case atStart => exact ⟨i0, i0 + 1, cellsZ [p0], by omega, by omega, rfl, by go_num, Lib.hid ⟨by rw [cellsZ_len, List.length_singleton]; omega, Hlen0.out, Hb.out.to hB1, below_grown hB1 _⟩⟩
    case round =>
      rename_i iv jv wr
      obtain ⟨i, j, mid, hij, hjn, rfl, rfl, hr⟩ := hrel
      clear Hlen0 Hb T1 hB1
      by_cases hin : j < n
      · obtain ⟨p, hzj⟩ : ∃ p, z[j]? = some p := ⟨_, List.getElem?_eq_getElem (by omega)⟩
        have hil : (j : Int) < (n : Int) := by omega
        have hj0 : (0 : Int) ≤ (j : Int) := by omega
        have hin2 : (i : Int) < (n : Int) := by omega
        have hii0 : (0 : Int) ≤ (i : Int) := by omega
        obtain ⟨r1, r2, r3, r4⟩ := hr.out
        have hdj : z.drop j = p :: z.drop (j + 1) := by rw [List.drop_eq_getElem_cons (by omega), (List.getElem?_eq_some_iff.1 hzj).2]
        rw [hdj, cellsZ_cons] at r3
        have hlen : (cellsZ ((z.take j).filter (fun p => decide (p.1.1 ∈ L))) ++ mid).length = j * 3 := by rw [List.length_append, cellsZ_len, r2, r1]; omega
        have hlen1 : (cellsZ ((z.take j).filter (fun p => decide (p.1.1 ∈ L)))).length = i * 3 := by rw [cellsZ_len, r2]
        have r3' := r3
        rw [← List.append_assoc] at r3'
        have x0 := r3'.cell (j := j * 3) (at_end0 hlen)
        have x1 := r3'.cell (j := j * 3 + 1) (at_end hlen 1)
        have x2 := r3'.cell (j := j * 3 + 2) (at_end hlen 2)
        have hpz := List.mem_of_getElem? hzj
        have hnr := r4.cell hn (by simpa using hgb)
        have hSr := hS.kept r4 (by simpa using hmb)
        have hgr : g < wr.heap.size := Nat.lt_of_lt_of_le hg r4.size
        have hB2 : Below wr.heap.size wr (wr.alloc (.cells #[.int .i64 p.1.1, .int .i64 p.1.2.1, .slice (some ⟨p.2, 0, none⟩) p.1.2.2.length p.1.2.2.length] 38)) := (Below.refl _ wr).alloc (Nat.le_refl _) _
        have T2 := Lib.hid (del_any p.1.1 p.1.2.1 (some ⟨p.2, 0, none⟩) p.1.2.2.length p.1.2.2.length L Mb g _ ((hB2.cell (p := ⟨g, 0, none⟩) hgr).trans hnr) (Nat.lt_of_lt_of_le hgr hB2.size) (hSr.below hB2) (hwf p hpz))
        have htk := take_at hzj
        have b3 := Blk.new wr 38 [.int .i64 p.1.1, .int .i64 p.1.2.1, .slice (some ⟨p.2, 0, none⟩) p.1.2.2.length p.1.2.2.length]
        by_cases hk : p.1.1 ∈ L
        · rw [decide_eq_true hk] at T2
          obtain ⟨z0, z1, z2, tl, hmid, htl⟩ := cons3 (n := j - i) (t := mid ++ [.int .i64 p.1.1, .int .i64 p.1.2.1, .slice (some ⟨p.2, 0, none⟩) p.1.2.2.length p.1.2.2.length]) (by rw [List.length_append, r1]; simp; omega)
          have hf' : (z.take (j + 1)).filter (fun p => decide (p.1.1 ∈ L)) = (z.take j).filter (fun p => decide (p.1.1 ∈ L)) ++ [p] := by rw [htk, List.filter_append, List.filter_cons_of_pos (by simpa using hk), List.filter_nil]
          have r3c : Blk wr b2 38 (cellsZ ((z.take j).filter (fun p => decide (p.1.1 ∈ L))) ++ (z0 :: z1 :: z2 :: (tl ++ cellsZ (z.drop (j + 1))))) := by
            have e : mid ++ Value.int .i64 p.1.1 :: .int .i64 p.1.2.1 :: .slice (some ⟨p.2, 0, none⟩) p.1.2.2.length p.1.2.2.length :: cellsZ (z.drop (j + 1)) = z0 :: z1 :: z2 :: (tl ++ cellsZ (z.drop (j + 1))) := by
              have := congrArg (· ++ cellsZ (z.drop (j + 1))) hmid
              simpa using this
            rw [e] at r3
            exact r3
          have Hf := Lib.hid hf'
          have R3 := Lib.hid r3c
          have H1 := Lib.hid hlen1
          have Hr2 := Lib.hid r2
          have Hr4 := Lib.hid r4
          have Htl := Lib.hid htl
          clear r3 r3' r3c r1 r2 r4 hdj hlen hlen1 hmid htl hf' htk hzj hr hSr hnr
          go_wp2_with fail
          refine T2.out.mono ?_
          rintro e w2 ⟨rfl, hB3⟩
          have hC : Below wr.heap.size wr w2 := hB2.trans (hB3.mono hB2.size)
          have c3 := b3.to hB3
          have r5 := R3.out.to hC
          have f0 := r5.frozen (i * 3)
          have f1 := r5.frozen (i * 3 + 1)
          have f2 := r5.frozen (i * 3 + 2)
          have e0 := r5.cell (j := i * 3) (u := z0) (at_end0 H1.out)
          have e1 := r5.cell (j := i * 3 + 1) (u := z1) (at_end H1.out 1)
          have e2 := r5.cell (j := i * 3 + 2) (u := z2) (at_end H1.out 2)
          have d0 := c3.cell (j := 0) rfl
          have d1 := c3.cell (j := 1) rfl
          have d2 := c3.cell (j := 2) rfl
          go_wp2
          go_roundw
          case rel =>
            have P4 := ((r5.set (i * 3) (.int .i64 p.1.1)).set (i * 3 + 1) (.int .i64 p.1.2.1)).set (i * 3 + 2) (.slice (some ⟨p.2, 0, none⟩) p.1.2.2.length p.1.2.2.length)
            rw [set_mid3 H1.out] at P4
            refine ⟨i + 1, j + 1, tl, by omega, by omega, by go_num, by go_num, Lib.hid ⟨by rw [Htl.out]; congr 1; omega, by rw [Hf.out, List.length_append, Hr2.out]; rfl, ?_, ?_⟩⟩
            · rw [Hf.out, cellsZ_append]
              exact P4
            · have hq := (((Below.refl b2 w2).setCell (p := ⟨b2, i * 3, none⟩) (Nat.le_refl _) (.int .i64 p.1.1)).setCell (p := ⟨b2, i * 3 + 1, none⟩) (Nat.le_refl _) (.int .i64 p.1.2.1)).setCell (p := ⟨b2, i * 3 + 2, none⟩) (Nat.le_refl _) (.slice (some ⟨p.2, 0, none⟩) p.1.2.2.length p.1.2.2.length)
              refine (Hr4.out.trans (below_grown hC _)).trans ⟨hq.os, hq.tape, hq.output, hq.size, fun k hk hne => ?_⟩
              have hne' : k ≠ b2 := by simpa using hne
              rw [Below.heap_setCell _ _ _ _ hne', Below.heap_setCell _ _ _ _ hne', Below.heap_setCell _ _ _ _ hne']
          case measure => simp [intOf]; omega
        · rw [decide_eq_false hk] at T2
          have hf' : (z.take (j + 1)).filter (fun p => decide (p.1.1 ∈ L)) = (z.take j).filter (fun p => decide (p.1.1 ∈ L)) := by rw [htk, List.filter_append, List.filter_cons_of_neg (by simpa using hk), List.filter_nil, List.append_nil]
          have Hf := Lib.hid hf'
          have R3 := Lib.hid r3
          have Hr1 := Lib.hid r1
          have Hr2 := Lib.hid r2
          have Hr4 := Lib.hid r4
          clear r3 r3' r1 r2 r4 hdj hlen hlen1 hf' htk hzj hr hSr hnr b3
          go_wp2_with fail
          refine T2.out.mono ?_
          rintro e w2 ⟨rfl, hB3⟩
          have hC : Below wr.heap.size wr w2 := hB2.trans (hB3.mono hB2.size)
          go_wp2
          go_roundw
          case rel =>
            refine ⟨i, j + 1, mid ++ cellsZ [p], by omega, by omega, rfl, by go_num, Lib.hid ⟨by rw [List.length_append, Hr1.out, cellsZ_len]; simp; omega, by rw [Hf.out, Hr2.out], ?_, Hr4.out.trans (below_grown hC _)⟩⟩
            rw [Hf.out]
            have := R3.out.to hC
            rw [List.append_assoc]
            exact this
          case measure => simp [intOf]; omega
      · obtain rfl : j = n := by omega
        obtain ⟨r1, r2, r3, r4⟩ := hr.out
        rw [List.take_of_length_le (by omega)] at r2 r3
        rw [List.drop_of_length_le (by omega)] at r3
        have s1 := fun W => run_rest b2 j i (by omega) W
        have s2 := fun W => run_first b2 j i (by omega) W
        obtain ⟨w3, ds, hcl, p3, q3, t3, g3⟩ := run_clear r3 (i * 3) (j - i) (j - i) (by omega) (by rw [List.length_append, cellsZ_len, r2, List.length_append, r1]; omega)
        have Hfin : Hid (∃ rest, Blk w3 b2 38 (cellsZ (z.filter fun p => decide (p.1.1 ∈ L)) ++ rest)) := Lib.hid ⟨ds.drop (i * 3), by
          have : cellsZ (z.filter fun p => decide (p.1.1 ∈ L)) = ds.take (i * 3) := by
            rw [t3, List.take_append_of_le_length (by rw [cellsZ_len, r2]; exact Nat.le_refl _), List.take_of_length_le (by rw [cellsZ_len, r2]; exact Nat.le_refl _)]
          rw [this, List.take_append_drop]
          exact p3⟩
        have Hr2 := Lib.hid r2
        have Hg := Lib.hid (r4.trans g3)
        clear r1 r2 r3 r4 p3 q3 t3 g3 hr
        go_wp2
        go_ret
        obtain ⟨rest, hfin⟩ := Hfin.out
        exact ⟨i, rest, rfl, Hr2.out.symm, hfin, Hg.out⟩
end Go.Proofs.Yteafbdebmhpffaa

/- The contract of graph's Sweep. No condition. -/
namespace Go.Proofs.Yteafbdebmhpffaa
open Go.RowKit

theorem swept_read {H b1 b2 m K c3 k M : Nat} {w4 W : World} {g : Gr} {A3 : Option Addr} {z : List (Ob × Nat)} {L : List Int} {rest : List Value} (hG : OwnG H w4 g b1 b2 m (.slice A3 K c3)) (hK : g.2.2.length = K) (hs : w4.heap.size ≤ W.heap.size) (hk : ∀ b, b1 ≤ b → b < w4.heap.size → b ≠ b2 → W.heap[b]? = w4.heap[b]?)
    (hI : InZ b2 m w4 z) (hz : z.map (·.1) = g.2.1) (hb : Blk W b2 38 (cellsZ (z.filter fun p => decide (p.1.1 ∈ L)) ++ rest)) (hM : g.2.1.length = M) (hkl : k = (z.filter fun p => decide (p.1.1 ∈ L)).length) :
    rGr (fun b => b1 ≤ b ∧ b < W.heap.size) W [.slice (some ⟨b1, 0, none⟩) g.1.length g.1.length, .slice (some ⟨b2, 0, none⟩) k M, .slice A3 K c3] (g.1, g.2.1.filter (fun o => decide (o.1 ∈ L)), g.2.2) := by
  have := hG.low; have := hG.one; have := hG.two; have := hG.top
  have hlen := hG.len
  have hf : (z.filter fun p => decide (p.1.1 ∈ L)).map (·.1) = g.2.1.filter (fun o => decide (o.1 ∈ L)) := by
    rw [← hz, List.filter_map]; rfl
  have hI' : InZ b2 m W (z.filter fun p => decide (p.1.1 ∈ L)) := (hI.filter _).keep fun b h1 h2 => hk b (by omega) (by omega) (by omega)
  refine rGr_mk (rSch_stays.to (fun b hb => ⟨by show b1 ≤ b ∧ b < _; omega, hk b hb.1 (by omega) (by omega)⟩) hG.sch) ?_ ?_
  · refine pre_slice hb (Chunks.imp (by rw [← hf]; exact hI'.ob.chunks) fun cs a hq => rOb_stays.to (Keeps.mono fun b hb => by show b1 ≤ b ∧ b < _; omega) hq) (by show b1 ≤ b2 ∧ b2 < _; omega) (by rw [← hf, List.length_map, hkl]) ?_ (by omega)
    rw [hkl, ← hM, ← hz, List.length_map]
    exact List.length_filter_le _ _
  · exact rIds_stays.to (fun b hb => ⟨by show b1 ≤ b ∧ b < _; omega, hk b (by omega) hb.2 (by omega)⟩) (ids_own (hK ▸ hG.ids) hK hG.wf)

set_option maxRecDepth 100000 in
set_option maxHeartbeats 2000000 in
theorem gsweep_in (A B C : Option Addr) (N c M d K e : Nat) (g : Gr) (w : World) (h : rGr (All w) w [.slice A N c, .slice B M d, .slice C K e] g) :
    Calls Try.prog 26 #[.agg #[.slice A N c, .slice B M d, .slice C K e]] w fun e w' => ∃ A1 c1 B1 d1 C1 e1, e = .returned (.agg #[.slice A1 (sweepG g).1.length c1, .slice B1 (sweepG g).2.1.length d1, .slice C1 (sweepG g).2.2.length e1]) ∧
      rGr (fun b => w.heap.size ≤ b ∧ b < w'.heap.size) w' [.slice A1 (sweepG g).1.length c1, .slice B1 (sweepG g).2.1.length d1, .slice C1 (sweepG g).2.2.length e1] (sweepG g) ∧ Below w.heap.size w w' := by
  obtain ⟨hN, hNc, hcm⟩ := slice_len (rGr_open h).1
  obtain ⟨hM, hMd, hdm⟩ := slice_len (rGr_open h).2.1
  obtain ⟨hK, hKe, hem⟩ := slice_len (rGr_open h).2.2
  have hB0 : Below w.heap.size w ((w.alloc (.cells #[.slice A N c, .slice B M d, .slice C K e] 28)).alloc (.cells #[.slice none 0 0, .slice none 0 0, .slice none 0 0] 28)) := ((Below.refl _ w).alloc (Nat.le_refl _) _).alloc (by simp) _
  obtain ⟨p1, p2⟩ := blk_two w 28 28 [.slice A N c, .slice B M d, .slice C K e] [.slice none 0 0, .slice none 0 0, .slice none 0 0]
  have T1 := Lib.hid (gmay_any A B C N c M d K e g _ (gr_below hB0 h))
  have HB0 := Lib.hid hB0
  have s0 : w.heap.size + 2 = ((w.alloc (.cells #[.slice A N c, .slice B M d, .slice C K e] 28)).alloc (.cells #[.slice none 0 0, .slice none 0 0, .slice none 0 0] 28)).heap.size := by simp
  clear hB0
  go_enter Try.func26, Try.ntmps26
  go_wp2_with fail
  refine T1.out.mono ?_
  rintro e w1 ⟨rfl, hB1⟩
  have H1 := Lib.hid (HB0.out.trans (hB1.mono HB0.out.size))
  have s1 : w.heap.size + 2 ≤ w1.heap.size := by rw [s0]; exact hB1.size
  replace p1 := p1.to hB1
  replace p2 := p2.to hB1
  clear hB1 HB0 T1 s0
  by_cases hm : mayG g = true
  · rw [hm]
    have T2 := Lib.hid (comeTo_any A B C N c M d K e g w1 (gr_below H1.out h) hm)
    have T3 := Lib.hid (fun W (hW : Below w.heap.size w W) => copyGraph_any A B C N c M d K e g W (gr_below hW h) (tame_may h hm))
    have h8 := (mayG_parts hm).2.1
    have Hsw := Lib.hid (fun L hL => sweepG_set (g := g) (L := L) hm hL)
    clear h
    have c0 := p1.cell (j := 0) rfl
    have c1 := p1.cell (j := 1) rfl
    have c2 := p1.cell (j := 2) rfl
    go_wp2_with fail
    refine T2.out.mono ?_
    rintro e w2 ⟨Mb, L, rfl, hS, hL, hMb, hB2⟩
    have hMb2 : Mb < w2.heap.size := by obtain ⟨D, h1, _⟩ := hS; exact h1.lt
    have hB3 : Below w2.heap.size w2 (w2.alloc (.cells #[.map (some Mb)] 66)) := (Below.refl _ w2).alloc (Nat.le_refl _) _
    have hBm : Below w1.heap.size w1 (w2.alloc (.cells #[.map (some Mb)] 66)) := hB2.trans (hB3.mono hB2.size)
    have H3 := Lib.hid (H1.out.trans (hBm.mono H1.out.size))
    have pm := Blk.new w2 66 [.map (some Mb)]
    have s3 : (w2.alloc (.cells #[.map (some Mb)] 66)).heap.size = w2.heap.size + 1 := by simp
    have s12 := hB2.size
    have hS3 := hS.below hB3
    replace p1 := p1.to hBm
    replace p2 := p2.to hBm
    clear c0 c1 c2 hB2 hB3 hBm hS H1
    have c0 := p1.cell (j := 0) rfl
    have c1 := p1.cell (j := 1) rfl
    have c2 := p1.cell (j := 2) rfl
    go_wp2_with fail
    refine (T3.out _ H3.out).mono ?_
    rintro e w4 ⟨b1, b2, m, A3, c3, rfl, hG, hB4⟩
    have a1 := hG.low
    have a2 := hG.one
    have a3 := hG.two
    have a4 := hG.top
    obtain ⟨ds, hds, hin⟩ := hG.obs
    obtain ⟨z, rfl, hzm, hIz⟩ := hin.z
    have hB5 : Below w4.heap.size w4 (w4.alloc (.cells #[.slice (some ⟨b1, 0, none⟩) N N, .slice (some ⟨b2, 0, none⟩) M M, .slice A3 K c3] 28)) := (Below.refl _ w4).alloc (Nat.le_refl _) _
    have hB45 := hB4.trans (hB5.mono hB4.size)
    have H5 := Lib.hid (H3.out.trans (hB45.mono H3.out.size))
    have p5 := Blk.new w4 28 [.slice (some ⟨b1, 0, none⟩) N N, .slice (some ⟨b2, 0, none⟩) M M, .slice A3 K c3]
    have s5 : (w4.alloc (.cells #[.slice (some ⟨b1, 0, none⟩) N N, .slice (some ⟨b2, 0, none⟩) M M, .slice A3 K c3] 28)).heap.size = w4.heap.size + 1 := by simp
    have s34 := hB4.size
    replace p1 := p1.to hB45
    replace p2 := p2.to hB45
    have pm5 := pm.to hB45
    have T4 := Lib.hid (deleteFunc_any b2 M z L b2 m Mb w2.heap.size _ (by rw [← hM, ← hzm, List.length_map]) (by omega) (hds.to hB5) (hIz.keep fun b _ hb => hB5.block b (by omega)) (by rw [s5]; omega) (pm5.cell (j := 0) rfl) pm5.lt (hS3.below hB45) (by omega) (by omega))
    have HG := Lib.hid hG
    have HB5 := Lib.hid hB5
    clear c0 c1 c2 hG hds hin pm hS3 hB4 hB45 H3 T3 hB5
    go_wp2_with fail
    refine T4.out.mono ?_
    rintro e w6 ⟨k, rest, rfl, hk, hb6, hg6⟩
    have Hk := Lib.hid hk
    clear hk
    have q1 : Blk w6 (w.heap.size) 28 [.slice A N c, .slice B M d, .slice C K e] := (hg6.block _ p1.lt (by simp; omega)).trans p1
    have q2 : Blk w6 (w.heap.size + 1) 28 [.slice none 0 0, .slice none 0 0, .slice none 0 0] := (hg6.block _ p2.lt (by simp; omega)).trans p2
    have q5 : Blk w6 w4.heap.size 28 [.slice (some ⟨b1, 0, none⟩) N N, .slice (some ⟨b2, 0, none⟩) M M, .slice A3 K c3] := (hg6.block _ p5.lt (by simp; omega)).trans p5
    have f1 := q5.frozen 1
    have d1 := q5.cell (j := 1) rfl
    have r5 := q5.set 1 (.slice (some ⟨b2, 0, none⟩) k M)
    have r2 := q2.other ⟨w4.heap.size, 1, none⟩ (.slice (some ⟨b2, 0, none⟩) k M) (by simp; omega)
    have x0 := r5.cell (j := 0) rfl
    have x1 := r5.cell (j := 1) rfl
    have x2 := r5.cell (j := 2) rfl
    have y0 := r2.cell (j := 0) rfl
    have y1 := r2.cell (j := 1) rfl
    have y2 := r2.cell (j := 2) rfl
    have g0 := r2.frozen 0
    have g1 := r2.frozen 1
    have g2 := r2.frozen 2
    go_wp2
    have P9 := ((r2.set 0 (.slice (some ⟨b1, 0, none⟩) N N)).set 1 (.slice (some ⟨b2, 0, none⟩) k M)).set 2 (.slice A3 K c3)
    refine ret_cell0 (d := .struct _) (cs := [.slice (some ⟨b1, 0, none⟩) N N, .slice (some ⟨b2, 0, none⟩) k M, .slice A3 K c3]) rfl P9 rfl rfl rfl rfl rfl ?_
    have hkeep : ∀ b, b ≠ w4.heap.size → b ≠ w.heap.size + 1 → ((((w6.setCell ⟨w4.heap.size, 1, none⟩ (.slice (some ⟨b2, 0, none⟩) k M)).setCell ⟨w.heap.size + 1, 0, none⟩ (.slice (some ⟨b1, 0, none⟩) N N)).setCell ⟨w.heap.size + 1, 1, none⟩ (.slice (some ⟨b2, 0, none⟩) k M)).setCell ⟨w.heap.size + 1, 2, none⟩ (.slice A3 K c3)).heap[b]? = w6.heap[b]? := fun b n1 n2 => by
      rw [Below.heap_setCell _ _ _ _ n2, Below.heap_setCell _ _ _ _ n2, Below.heap_setCell _ _ _ _ n2, Below.heap_setCell _ _ _ _ n1]
    have hrd := swept_read (L := L) HG.out hK (W := (((w6.setCell ⟨w4.heap.size, 1, none⟩ (.slice (some ⟨b2, 0, none⟩) k M)).setCell ⟨w.heap.size + 1, 0, none⟩ (.slice (some ⟨b1, 0, none⟩) N N)).setCell ⟨w.heap.size + 1, 1, none⟩ (.slice (some ⟨b2, 0, none⟩) k M)).setCell ⟨w.heap.size + 1, 2, none⟩ (.slice A3 K c3))
      (by have := hg6.size; simp; omega) (fun b n1 n2 n3 => by rw [hkeep b (by omega) (by omega), hg6.block b (by omega) (by simpa using n3), HB5.out.block b n2]) hIz hzm ((hkeep b2 (by omega) (by omega)).trans hb6) hM Hk.out
    rw [← Hsw.out L hL] at hrd
    have e1 := (slice_len (rGr_open hrd).1).1
    have e2 := (slice_len (rGr_open hrd).2.1).1
    have e3 := (slice_len (rGr_open hrd).2.2).1
    rw [hN] at hrd e1
    refine ⟨some ⟨b1, 0, none⟩, N, some ⟨b2, 0, none⟩, M, A3, c3, ?_, ?_, ?_⟩
    · rw [e1, e2, e3]
    · rw [e1, e2, e3]; exact rGr_stays.to (Keeps.mono fun b hb => ⟨by omega, hb.2⟩) hrd
    · have hz9 := H5.out.grown hg6 H5.out.size (fun k hk => by cases hk; omega)
      exact (((hz9.setCell (p := ⟨w4.heap.size, 1, none⟩) (by show w.heap.size ≤ w4.heap.size; omega) (.slice (some ⟨b2, 0, none⟩) k M)).setCell (p := ⟨w.heap.size + 1, 0, none⟩) (by simp) (.slice (some ⟨b1, 0, none⟩) N N)).setCell (p := ⟨w.heap.size + 1, 1, none⟩) (by simp) (.slice (some ⟨b2, 0, none⟩) k M)).setCell (p := ⟨w.heap.size + 1, 2, none⟩) (by simp) (.slice A3 K c3)
  · replace hm : mayG g = false := by simpa using hm
    rw [hm]
    have y0 := p2.cell (j := 0) rfl
    have y1 := p2.cell (j := 1) rfl
    have y2 := p2.cell (j := 2) rfl
    have g0 := p2.frozen 0
    have g1 := p2.frozen 1
    have g2 := p2.frozen 2
    go_wp2
    have P9 := ((p2.set 0 (.slice none 0 0)).set 1 (.slice none 0 0)).set 2 (.slice none 0 0)
    refine ret_cell0 (d := .struct _) (cs := [.slice none 0 0, .slice none 0 0, .slice none 0 0]) rfl P9 rfl rfl rfl rfl rfl ?_
    rw [sweepG_no hm]
    refine ⟨none, 0, none, 0, none, 0, rfl, rGr_mk ⟨none, 0, [], rfl, Nat.le_refl _, Nat.zero_le _, .inl rfl, Chunks.nil⟩ ⟨none, 0, [], rfl, Nat.le_refl _, Nat.zero_le _, .inl rfl, Chunks.nil⟩ ⟨none, 0, [], rfl, Nat.le_refl _, Nat.zero_le _, .inl rfl, Chunks.nil⟩, ?_⟩
    exact ((H1.out.setCell (p := ⟨w.heap.size + 1, 0, none⟩) (by simp) (.slice none 0 0)).setCell (p := ⟨w.heap.size + 1, 1, none⟩) (by simp) (.slice none 0 0)).setCell (p := ⟨w.heap.size + 1, 2, none⟩) (by simp) (.slice none 0 0)
theorem gsweep_any (A B C : Option Addr) (N c M d K e : Nat) (g : Gr) (w : World) (h : rGr (All w) w [.slice A N c, .slice B M d, .slice C K e] g) :
    Calls Try.prog 26 #[.agg #[.slice A N c, .slice B M d, .slice C K e]] w fun e w' => ∃ A1 c1 B1 d1 C1 e1, e = .returned (.agg #[.slice A1 (sweepG g).1.length c1, .slice B1 (sweepG g).2.1.length d1, .slice C1 (sweepG g).2.2.length e1]) ∧
      rGr (All w') w' [.slice A1 (sweepG g).1.length c1, .slice B1 (sweepG g).2.1.length d1, .slice C1 (sweepG g).2.2.length e1] (sweepG g) ∧ Below w.heap.size w w' := by
  refine (gsweep_in A B C N c M d K e g w h).mono ?_
  rintro e' w' ⟨A1, c1, B1, d1, C1, e1, h1, h2, h3⟩
  exact ⟨A1, c1, B1, d1, C1, e1, h1, rGr_stays.to (Keeps.mono fun b hb => hb.2) h2, h3⟩
end Go.Proofs.Yteafbdebmhpffaa
