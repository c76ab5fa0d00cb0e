/- Rows that are filled element by element; 'make' of as many elements as a list has. No condition. -/
import Derived.Test.YteafbdebmhpffaaGrMem
import Derived.Test.YteafbdebmhpffaaScMay
import Derived.OwnWalk
import Derived.Deep.RegionHeld
namespace Go.Proofs.Yteafbdebmhpffaa
open Go.RowKit

theorem set_mid2 {d t : List Value} {z0 z1 a b : Value} {k : Nat} (h : d.length = k) : (((d ++ z0 :: z1 :: t).set k a).set (k + 1) b) = (d ++ [a, b]) ++ t := by
  subst h
  rw [List.set_append_right _ _ (Nat.le_refl _), Nat.sub_self, List.set_cons_zero, List.set_append_right _ _ (by omega), show d.length + 1 - d.length = 1 by omega, List.set_cons_succ, List.set_cons_zero, List.append_assoc]
  rfl
theorem set_mid3 {d t : List Value} {z0 z1 z2 a b c : Value} {k : Nat} (h : d.length = k) : ((((d ++ z0 :: z1 :: z2 :: t).set k a).set (k + 1) b).set (k + 2) c) = (d ++ [a, b, c]) ++ t := by
  subst h
  rw [List.set_append_right _ _ (Nat.le_refl _), Nat.sub_self, List.set_cons_zero, List.set_append_right _ _ (by omega), show d.length + 1 - d.length = 1 by omega, List.set_cons_succ, List.set_cons_zero,
    List.set_append_right _ _ (by omega), show d.length + 2 - d.length = 2 by omega, List.set_cons_succ, List.set_cons_succ, List.set_cons_zero, List.append_assoc]
  rfl
theorem far2 {w : World} {g b o p q : Nat} {x y v : Value} (h : w.cell? ⟨b, o, none⟩ = some v) (hne : g ≠ b) : ((w.setCell ⟨g, p, none⟩ x).setCell ⟨g, q, none⟩ y).cell? ⟨b, o, none⟩ = some v := by
  rw [World.cell?_setCell_far _ _ _ _ (by exact hne), World.cell?_setCell_far _ _ _ _ (by exact hne), h]
theorem far3 {w : World} {g b o p q r : Nat} {x y z v : Value} (h : w.cell? ⟨b, o, none⟩ = some v) (hne : g ≠ b) : (((w.setCell ⟨g, p, none⟩ x).setCell ⟨g, q, none⟩ y).setCell ⟨g, r, none⟩ z).cell? ⟨b, o, none⟩ = some v := by
  rw [World.cell?_setCell_far _ _ _ _ (by exact hne), World.cell?_setCell_far _ _ _ _ (by exact hne), World.cell?_setCell_far _ _ _ _ (by exact hne), h]
theorem cons3 {t : List Value} {n : Nat} (h : t.length = (n + 1) * 3) : ∃ z0 z1 z2 r, t = z0 :: z1 :: z2 :: r ∧ r.length = n * 3 := by
  match t, h with
  | z0 :: z1 :: z2 :: r, h => exact ⟨z0, z1, z2, r, rfl, by simp at h; omega⟩
  | [], h => simp at h
  | [_], h => simp at h; omega
  | [_, _], h => simp at h; omega
theorem cons2 {t : List Value} {n : Nat} (h : t.length = (n + 1) * 2) : ∃ z0 z1 r, t = z0 :: z1 :: r ∧ r.length = n * 2 := by
  match t, h with
  | z0 :: z1 :: r, h => exact ⟨z0, z1, r, rfl, by simp at h; omega⟩
  | [], h => simp at h
  | [_], h => simp at h; omega
theorem take_at {α : Type} {l : List α} {i : Nat} {a : α} (h : l[i]? = some a) : l.take (i + 1) = l.take i ++ [a] := by
  rw [List.take_add_one, h]; rfl
theorem at_end {d t : List Value} {k : Nat} (h : d.length = k) (j : Nat) : (d ++ t)[k + j]? = t[j]? := by
  subst h
  rw [List.getElem?_append_right (by omega), show d.length + j - d.length = j by omega]
theorem at_end0 {d t : List Value} {k : Nat} (h : d.length = k) : (d ++ t)[k]? = t[0]? := at_end h 0
theorem made_len (z : Array Value) (n : Nat) : (madeCells z n).toList.length = n := by simp [size_madeCells]
/-- 'make' of so many elements. -/
theorem made_run {P : Program} (t e : TypeId) (z : Value) (size bytes : Nat) (ht : P.underlying t = some (.slice e)) (hinfo : (P.info? e).map (fun i => (i.zero, i.size, i.bytes)) = some (some z, size, bytes)) (n : Nat) (hb : bytes * n ≤ 281474976710656) (hn : n ≤ maxLen) (w : World) :
    (Instr.makeSlice t (.int .i64 (n : Int)) (.int .i64 (n : Int))).run P w = .ok (.slice (some ⟨w.heap.size, 0, none⟩) n n) (w.alloc (.cells (madeCells z.cells (n * size)).toList.toArray e)) := by
  obtain ⟨i, hi, hzz⟩ := Option.map_eq_some_iff.1 hinfo
  simp only [Prod.mk.injEq] at hzz
  obtain ⟨hz, hs, hb1⟩ := hzz
  have hb' : (i.bytes : Int) * (n : Int) ≤ 281474976710656 := by
    have h : ((i.bytes * n : Nat) : Int) ≤ 281474976710656 := by rw [hb1]; omega
    rwa [Int.natCast_mul] at h
  have hr := run_make (P := P) w t e i z ht hi hz .i64 .i64 n n (by omega) (Int.le_refl _) hb' (by unfold maxLen at hn; omega)
  simp only [Int.toNat_natCast, hs] at hr
  rw [hr]
/-- What lies behind the block H is kept, when only H's cells are written. -/
theorem keep_set2 {wr w1 : World} {H p q : Nat} {x y : Value} (hC : Below wr.heap.size wr w1) : Keeps (fun b => H < b ∧ b < wr.heap.size) (fun b => H < b ∧ b < ((w1.setCell ⟨H, p, none⟩ x).setCell ⟨H, q, none⟩ y).heap.size) wr ((w1.setCell ⟨H, p, none⟩ x).setCell ⟨H, q, none⟩ y) := by
  intro b hb
  refine ⟨⟨hb.1, by simpa using Nat.lt_of_lt_of_le hb.2 hC.size⟩, ?_⟩
  rw [Below.heap_setCell _ _ _ _ (by show b ≠ H; omega), Below.heap_setCell _ _ _ _ (by show b ≠ H; omega)]
  exact hC.block b hb.2
theorem keep_set3 {wr w1 : World} {H p q r : Nat} {x y z : Value} (hC : Below wr.heap.size wr w1) : Keeps (fun b => H < b ∧ b < wr.heap.size) (fun b => H < b ∧ b < (((w1.setCell ⟨H, p, none⟩ x).setCell ⟨H, q, none⟩ y).setCell ⟨H, r, none⟩ z).heap.size) wr (((w1.setCell ⟨H, p, none⟩ x).setCell ⟨H, q, none⟩ y).setCell ⟨H, r, none⟩ z) := by
  intro b hb
  refine ⟨⟨hb.1, by simpa using Nat.lt_of_lt_of_le hb.2 hC.size⟩, ?_⟩
  rw [Below.heap_setCell _ _ _ _ (by show b ≠ H; omega), Below.heap_setCell _ _ _ _ (by show b ≠ H; omega), Below.heap_setCell _ _ _ _ (by show b ≠ H; omega)]
  exact hC.block b hb.2
/-- A block is a slice of its elements. -/
theorem blk_slice {α : Type} {size b n : Nat} {R : Reader α} {S : Nat → Prop} {w : World} {t : TypeId} {cs : List Value} {l : List α} (hb : Blk w b t cs) (hc : Chunks size (R S w) cs l) (hS : S b) (hn : l.length ≤ maxLen) (hl : l.length = n := by rfl) :
    rSlice size R S w [.slice (some ⟨b, 0, none⟩) n n] l := by
  subst hl
  exact ⟨_, _, cs, rfl, Nat.le_refl _, hn, .inr ⟨b, 0, rfl, hS, fun j u hu => by rw [Nat.zero_add]; exact hb.cell hu⟩, hc⟩
/-- The cells of objects, whose values lie in blocks of their own. -/
def obCells : List Ob → List Nat → List Value
  | o :: os, b :: bs => .int .i64 o.1 :: .int .i64 o.2.1 :: .slice (some ⟨b, 0, none⟩) o.2.2.length o.2.2.length :: obCells os bs
  | _, _ => []
theorem obCells_add : ∀ {os : List Ob} {bs : List Nat} (o : Ob) (b : Nat), os.length = bs.length → obCells (os ++ [o]) (bs ++ [b]) = obCells os bs ++ [.int .i64 o.1, .int .i64 o.2.1, .slice (some ⟨b, 0, none⟩) o.2.2.length o.2.2.length]
  | [], [], _, _, _ => rfl
  | x :: os, y :: bs, o, b, h => by simp [obCells, obCells_add (os := os) (bs := bs) o b (by simpa using h)]
  | [], y :: bs, _, _, h => by simp at h
  | x :: os, [], _, _, h => by simp at h
theorem obCells_len : ∀ {os : List Ob} {bs : List Nat}, os.length = bs.length → (obCells os bs).length = os.length * 3
  | [], [], _ => rfl
  | x :: os, y :: bs, h => by simp [obCells, obCells_len (os := os) (bs := bs) (by simpa using h)]; omega
  | [], y :: bs, h => by simp at h
  | x :: os, [], h => by simp at h
/-- An object whose values lie in the block b, alone. -/
def OwnF (w : World) (b : Nat) (o : Ob) : Prop := (Lit.int .i64 o.1).wf = true ∧ (Lit.int .i64 o.2.1).wf = true ∧ o.2.2.length ≤ maxLen ∧ ∃ vs, Blk w b 42 vs ∧ Chunks 3 (rVal (fun _ => True) w) vs o.2.2
/-- Objects whose values lie in blocks behind H, each in one of its own. -/
def ObDone (H : Nat) (w : World) (ds : List Value) (os : List Ob) : Prop := ∃ bs : List Nat, ds = obCells os bs ∧ os.length = bs.length ∧ bs.Pairwise (· < ·) ∧ ∀ (i : Nat) o b, os[i]? = some o → bs[i]? = some b → H < b ∧ b < w.heap.size ∧ OwnF w b o
theorem ObDone.nil {H : Nat} {w : World} : ObDone H w [] [] := ⟨[], rfl, rfl, List.Pairwise.nil, fun i o b h => by simp at h⟩
theorem OwnF.keep {w w' : World} {b : Nat} {o : Ob} (h : OwnF w b o) (hk : w'.heap[b]? = w.heap[b]?) : OwnF w' b o := by
  obtain ⟨h1, h2, h3, vs, h4, h5⟩ := h
  exact ⟨h1, h2, h3, vs, hk.trans h4, h5⟩
theorem ObDone.keep {H : Nat} {w w' : World} {ds : List Value} {os : List Ob} (h : ObDone H w ds os) (hk : Keeps (fun b => H < b ∧ b < w.heap.size) (fun b => H < b ∧ b < w'.heap.size) w w') : ObDone H w' ds os := by
  obtain ⟨bs, h1, h2, h3, h4⟩ := h
  refine ⟨bs, h1, h2, h3, fun i o b ho hb => ?_⟩
  obtain ⟨h5, h6, h7⟩ := h4 i o b ho hb
  obtain ⟨h8, h9⟩ := hk b ⟨h5, h6⟩
  exact ⟨h5, h8.2, h7.keep h9⟩
theorem ObDone.add {H b : Nat} {w w' : World} {ds : List Value} {os : List Ob} {o : Ob} (h : ObDone H w ds os) (hk : Keeps (fun b => H < b ∧ b < w.heap.size) (fun b => H < b ∧ b < w'.heap.size) w w') (hb : w.heap.size ≤ b) (hH : H < b) (hlt : b < w'.heap.size) (ho : OwnF w' b o) :
    ObDone H w' (ds ++ [.int .i64 o.1, .int .i64 o.2.1, .slice (some ⟨b, 0, none⟩) o.2.2.length o.2.2.length]) (os ++ [o]) := by
  obtain ⟨bs, h1, h2, h3, h4⟩ := h
  subst h1
  refine ⟨bs ++ [b], (obCells_add o b h2).symm, by simp [h2], ?_, fun i p c hp hc => ?_⟩
  · rw [List.pairwise_append]
    refine ⟨h3, List.pairwise_singleton _ _, fun x hx y hy => ?_⟩
    obtain ⟨j, hj⟩ := List.getElem?_of_mem hx
    have hjl := (List.getElem?_eq_some_iff.1 hj).1
    have := h4 j os[j] x (List.getElem?_eq_getElem (by omega)) hj
    simp at hy
    omega
  · by_cases hi : i < os.length
    · rw [List.getElem?_append_left hi] at hp
      rw [List.getElem?_append_left (by omega)] at hc
      obtain ⟨h5, h6, h7⟩ := h4 i p c hp hc
      obtain ⟨h8, h9⟩ := hk c ⟨h5, h6⟩
      exact ⟨h5, h8.2, h7.keep h9⟩
    · have hlt2 := (List.getElem?_eq_some_iff.1 hp).1
      have hi2 : i = os.length := by simp at hlt2; omega
      subst hi2
      rw [List.getElem?_append_right (Nat.le_refl _), Nat.sub_self] at hp
      rw [List.getElem?_append_right (by omega), h2, Nat.sub_self] at hc
      simp at hp hc
      subst hp hc
      exact ⟨hH, hlt, ho⟩
/-- Such objects, read. -/
theorem ObDone.chunks {H : Nat} {w : World} {ds : List Value} {os : List Ob} (h : ObDone H w ds os) : Chunks 3 (rOb (fun b => H < b ∧ b < w.heap.size) w) ds os := by
  obtain ⟨bs, rfl, h2, -, h4⟩ := h
  induction os generalizing bs with
  | nil => cases bs with
    | nil => exact Chunks.nil
    | cons b bs => simp at h2
  | cons o os ih => cases bs with
    | nil => simp at h2
    | cons b bs =>
      obtain ⟨h5, h6, h7, h8, h9, vs, h10, h11⟩ := h4 0 o b rfl rfl
      have h12 := ih bs (by simpa using h2) (fun i p c hp hc => h4 (i + 1) p c (by simpa using hp) (by simpa using hc))
      exact Chunks.append (xs := [.int .i64 o.1, .int .i64 o.2.1, .slice (some ⟨b, 0, none⟩) o.2.2.length o.2.2.length]) (l := [o]) (Chunks.one rfl (rOb_mk h7 h8 (blk_slice h10 h11 ⟨h5, h6⟩ h9))) h12
end Go.Proofs.Yteafbdebmhpffaa
