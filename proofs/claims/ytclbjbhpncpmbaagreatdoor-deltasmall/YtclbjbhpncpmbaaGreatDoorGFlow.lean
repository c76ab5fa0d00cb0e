/- The texts FlMem, FlReader, FlTail, FlPart, FlRun, FlRead, FlAs, FlGet, FlCuts, FlNum, FlFrames, FlPut, FlKit, FlKitGet, FlKitCuts in one (as far as the seat has what they speak of); what each proves, and its conditions, stands before it. -/
import Derived.Test.YtclbjbhpncpmbaaGreatDoorGBytes
import Derived.Test.YtclbjbhpncpmbaaGreatDoorGFrame
import Derived.Test.YtclbjbhpncpmbaaGreatDoorGVari
import Derived.Test.YtclbjbhpncpmbaaGreatDoorGGen
import Derived.Deep.QuietTactic
import Derived.BigQuiet
import Derived.WalkKit
import Derived.LaidEql
import Derived.Stop.Asserts
import Derived.RowKitTokens
import Derived.Laws.ResultCell
/- Flows in memory: a flow's two cells, a list of parts, the part at a place. The contracts of flow's tooLong, of slices.IndexFunc and slices.ContainsFunc with it, and of flow.May. No condition. -/
namespace Go.Proofs.YtclbjbhpncpmbaaGreatDoor
open Go.RowKit

abbrev rPts : Reader (List (List Nat)) := rSlice 1 rBytes
abbrev rFlo : Reader Flo := rBoth 1 (rInt .u32) rPts
theorem rPts_stays : Stays rPts := rSlice_stays rBytes_stays
theorem rFlo_stays : Stays rFlo := rBoth_stays (rInt_stays _) rPts_stays
theorem pts_len {S : Nat → Prop} {w : World} {A0 : Option Addr} {n c : Nat} {l : List (List Nat)} (h : rPts S w [.slice A0 n c] l) : l.length = n ∧ n ≤ c ∧ c ≤ maxLen := by
  obtain ⟨A1, c1, xs, hv, hlc, hcm, _⟩ := h
  simp at hv
  omega
/-- The part at i of a list of parts: its cell. -/
theorem pts_at {S : Nat → Prop} {w : World} {A0 : Option Addr} {n c : Nat} {l : List (List Nat)} {i : Nat} {p : List Nat} (h : rPts S w [.slice A0 n c] l) (hi : l[i]? = some p) : ∃ b off A c', A0 = some ⟨b, off, none⟩ ∧ S b ∧ w.cell? ⟨b, off + i, none⟩ = some (.slice A p.length c') ∧ p.length ≤ c' ∧ c' ≤ maxLen ∧ (∀ x ∈ p, x < 256) ∧ RdIn S w A (u8s p) := by
  obtain ⟨A1, c1, xs, hv, hlc, hcm, hr, hl, hch⟩ := h
  obtain ⟨A, c', hcs, hc1, hc2, hby, hrd⟩ := hch i p hi
  have hlt := (List.getElem?_eq_some_iff.1 hi).1
  have hA : A0 = A1 := by simp at hv; exact hv.1
  subst hA
  rcases hr with h | ⟨b, off, rfl, hb, hc⟩
  · rw [h] at hl; simp at hl; omega
  · have h0 : xs[i]? = some (.slice A p.length c') := by
      have := congrArg (fun l : List Value => l[0]?) hcs
      simpa [List.getElem?_take, List.getElem?_drop] using this
    exact ⟨b, off, A, c', rfl, hb, hc _ _ h0, hc1, hc2, hby, hrd⟩
/-- A flow that came in, written out. -/
theorem flo_arg {w : World} {cs : Array Value} {f : Flo} (h : rFlo (All w) w cs.toList f) : ∃ A c, cs = #[.int .u32 f.1, .slice A f.2.length c] ∧ f.2.length ≤ c ∧ c ≤ maxLen ∧ (0 ≤ f.1 ∧ f.1 ≤ 4294967295) ∧ (∀ p ∈ f.2, ∀ x ∈ p, x < 256) ∧ rPts (All w) w [.slice A f.2.length c] f.2 := by
  obtain ⟨_, ⟨h1, hw⟩, h2⟩ := h
  obtain ⟨A, c, xs, h3, h4, h5, h6⟩ := h2
  have hp : rPts (All w) w [.slice A f.2.length c] f.2 := ⟨A, c, xs, rfl, h4, h5, h6⟩
  refine ⟨A, c, ?_, h4, h5, bounds_u32 hw, fun p hp' => ?_, hp⟩
  · have : cs.toList = [.int .u32 f.1, .slice A f.2.length c] := by
      rw [← List.take_append_drop 1 cs.toList, h1, h3]; rfl
    cases cs; simpa using this
  · obtain ⟨i, hi⟩ := List.getElem?_of_mem hp'
    obtain ⟨_, _, _, _, _, _, _, _, _, hby, _⟩ := pts_at hp hi
    exact hby




end Go.Proofs.YtclbjbhpncpmbaaGreatDoor

/- Flow's reader in memory, and the contracts of its methods had, goOn, head and tail: what they leave of it. Condition: the reader lies in a block of its own. -/
namespace Go.Proofs.YtclbjbhpncpmbaaGreatDoor
open Go.RowKit

/-- Nothing but the block g is another one, and there are as many. -/
structure Only (g : Nat) (w w' : World) : Prop where
  size : w'.heap.size = w.heap.size
  block : ∀ b, b ≠ g → w'.heap[b]? = w.heap[b]?
  bel : Below g w w'
theorem Only.refl (g : Nat) (w : World) : Only g w w := ⟨rfl, fun _ _ => rfl, Below.refl _ _⟩
theorem Only.trans {g : Nat} {a b c : World} (h : Only g a b) (k : Only g b c) : Only g a c := ⟨k.size.trans h.size, fun x hx => (k.block x hx).trans (h.block x hx), h.bel.trans k.bel⟩
theorem Only.set (g : Nat) (w : World) (j : Nat) (u : Value) : Only g w (w.setCell ⟨g, j, none⟩ u) :=
  ⟨by simp, fun b hb => heap_setCell_other w ⟨g, j, none⟩ b u hb, (Below.refl _ w).setCell (p := ⟨g, j, none⟩) (Nat.le_refl _) u⟩
theorem Only.drew (g : Nat) (w : World) : Only g w w.drew := ⟨rfl, fun _ _ => rfl, (Below.refl _ w).drew⟩
theorem Only.blk {g k : Nat} {w w' : World} {t : TypeId} {cs : List Value} (h : Only g w w') (hk : k ≠ g) (hb : Blk w k t cs) : Blk w' k t cs := (h.block k hk).trans hb



theorem dueOf_cases (a b : Nat) : dueOf a b = 2 ∨ dueOf a b = 3 := by unfold dueOf; split <;> simp
/-- What holds of a reader between two frames. -/
structure InvS (s : RSt) : Prop where
  base : s.base < 4294967296
  most : s.count ≤ 40
  few : s.parts.length ≤ s.count
  one : s.due = 1 → s.parts = []
  two : s.due = 2 → s.parts.length < s.count
  dues : s.due = 1 ∨ s.due = 2 ∨ s.due = 3 ∨ s.due = -1
section
variable {B g : Nat} {s : RSt} {w w' : World} {A : Option Addr} {c : Nat} {xs : List Value}
end
end Go.Proofs.YtclbjbhpncpmbaaGreatDoor

/- The contracts of the reader's head and tail: what they make of a frame's body. Condition: the reader lies in a block of its own, the body is at most 255 bytes that lie elsewhere. -/
namespace Go.Proofs.YtclbjbhpncpmbaaGreatDoor
open Go.RowKit



end Go.Proofs.YtclbjbhpncpmbaaGreatDoor

/- The contract of the reader's part: what it makes of a frame's body. Condition: the reader lies in a block of its own, the body is at most 255 bytes that lie elsewhere. -/
namespace Go.Proofs.YtclbjbhpncpmbaaGreatDoor
open Go.RowKit

theorem info_pt : (Tryz.prog.info? 104).map (fun i => (i.zero, i.size, i.bytes)) = some (some (.slice none 0 0), 1, 24) := by kernel_rfl


end Go.Proofs.YtclbjbhpncpmbaaGreatDoor

/- The contract of the reader's all: frames, read one after the other by its method values in an array. Condition: the reader lies in a block of its own, the frames lie ahead of it, and each is one that bytes can have. -/
namespace Go.Proofs.YtclbjbhpncpmbaaGreatDoor
open Go.RowKit

theorem stepS_head {s : RSt} {F : Fra} (hd : s.due = 1) (hF : F.1 = 1) : stepS s F = headS s F.2 := by rw [stepS, if_neg (by rw [hd, hF]; simp), if_pos hF]
theorem stepS_part {s : RSt} {F : Fra} (hd : s.due = 2) (hF : F.1 = 2) : stepS s F = partS s F.2 := by rw [stepS, if_neg (by rw [hd, hF]; simp), if_neg (by omega), if_pos hF]
theorem stepS_tail {s : RSt} {F : Fra} (hd : s.due = 3) (hF : F.1 = 3) : stepS s F = tailS s F.2 := by rw [stepS, if_neg (by rw [hd, hF]; simp), if_neg (by omega), if_neg (by omega)]


/-- The frame at i of a slice of frames: its two cells, and that its bytes fit their room. -/
theorem fra_at2 {S : Nat → Prop} {w : World} {A0 : Option Addr} {n c : Nat} {l : List Fra} {i : Nat} {f : Fra} (h : rSlice 2 rFra S w [.slice A0 n c] l) (hi : l[i]? = some f) : ∃ b off A c', A0 = some ⟨b, off, none⟩ ∧ S b ∧ w.cell? ⟨b, off + i * 2, none⟩ = some (.int .i64 f.1) ∧ w.cell? ⟨b, off + i * 2 + 1, none⟩ = some (.slice A f.2.length c') ∧ f.2.length ≤ c' ∧ c' ≤ maxLen ∧ (∀ x ∈ f.2, x < 256) ∧ RdIn S w A (u8s f.2) := by
  obtain ⟨A1, c1, xs, hv, hlc, hcm, hr, hl, hch⟩ := h
  obtain ⟨A, c', hcs, hc1, hc2, hby, hwf, hrd⟩ := rFra_open (hch i f hi)
  have hlt := (List.getElem?_eq_some_iff.1 hi).1
  have hA : A0 = A1 := by simp at hv; exact hv.1
  subst hA
  rcases hr with h | ⟨b, off, rfl, hb, hc⟩
  · rw [h] at hl; simp at hl; omega
  · have h0 : xs[i * 2]? = some (.int .i64 f.1) := by
      have := congrArg (fun l : List Value => l[0]?) hcs
      simpa [List.getElem?_take, List.getElem?_drop] using this
    have h1 : xs[i * 2 + 1]? = some (.slice A f.2.length c') := by
      have := congrArg (fun l : List Value => l[1]?) hcs
      simpa [List.getElem?_take, List.getElem?_drop] using this
    exact ⟨b, off, A, c', rfl, hb, hc _ _ h0, by rw [Nat.add_assoc]; exact hc _ _ h1, hc1, hc2, hby, hrd⟩
theorem Blk.store1 {P : Program} {w : World} {g : Nat} {t : TypeId} {cs : List Value} (h : Blk w g t cs) (j : Nat) (v old : Value) (hj : cs[j]? = some old) (h1 : v.oneCell' = true) : (store ⟨g, j, none⟩ v).run P w = .ok () (w.setCell ⟨g, j, none⟩ v) := by
  rw [run_store P w ⟨g, j, none⟩ v _ h1]
  simp [h.cell hj, h.frozen j]

end Go.Proofs.YtclbjbhpncpmbaaGreatDoor

/- The contract of flow's read: the flow of bytes and its frames, or why not. Condition: at most 1,000,000,000 bytes. -/
namespace Go.Proofs.YtclbjbhpncpmbaaGreatDoor
open Go.RowKit

theorem info_flo : (Tryz.prog.info? 149).map (fun i => (i.zero, i.size)) = some (some (.agg #[.int .u32 0, .slice none 0 0]), 2) := by kernel_rfl

/-- Frames are not read out of a block that holds no cell of theirs. -/
theorem frames_avoid {S : Nat → Prop} {w : World} {B : Option Addr} {n d z : Nat} {l : List Fra} (h : rSlice 2 rFra S w [.slice B n d] l) (h1 : ∀ j k, w.cell? ⟨z, j, none⟩ ≠ some (.int .i64 k)) (h2 : ∀ j k, w.cell? ⟨z, j, none⟩ ≠ some (.int .u8 k)) : rSlice 2 rFra (fun b => S b ∧ b ≠ z) w [.slice B n d] l := by
  obtain ⟨A, c, xs, hv, hc, hm, hr, hl, hch⟩ := h
  refine ⟨A, c, xs, hv, hc, hm, ?_, hl, fun i f hi => ?_⟩
  · rcases hr with h | ⟨b, off, e, hb, hcell⟩
    · exact .inl h
    · cases l with
      | nil => exact .inl (List.eq_nil_of_length_eq_zero (by simpa using hl))
      | cons f l =>
        refine .inr ⟨b, off, e, ⟨hb, ?_⟩, hcell⟩
        rintro rfl
        obtain ⟨A', c', hcs, _⟩ := rFra_open (hch 0 f rfl)
        have h0 : xs[0]? = some (.int .i64 f.1) := by
          have := congrArg (fun l : List Value => l[0]?) hcs
          simpa [List.getElem?_take, List.getElem?_drop] using this
        exact h1 _ _ (hcell 0 _ h0)
  · obtain ⟨q1, q2, A', c', q3, q4, q5, q6, q7⟩ := hch i f hi
    refine ⟨q1, q2, A', c', q3, q4, q5, q6, ?_⟩
    rcases q7 with h | ⟨b, off, e, hb, hcell⟩
    · exact .inl h
    · cases hf : f.2 with
      | nil => exact .inl rfl
      | cons x r =>
        rw [hf] at hcell
        refine .inr ⟨b, off, e, ⟨hb, ?_⟩, hcell⟩
        rintro rfl
        exact h2 _ _ (hcell 0 _ rfl)
theorem blk_none {w : World} {z : Nat} {t : TypeId} (h : Blk w z t [.int .u32 0, .slice none 0 0]) : (∀ j k, w.cell? ⟨z, j, none⟩ ≠ some (.int .i64 k)) ∧ ∀ j k, w.cell? ⟨z, j, none⟩ ≠ some (.int .u8 k) := by
  constructor
  all_goals
    intro j k e
    rw [cell_of_row w z j _ t (0, 0) h] at e
    match j with
    | 0 => simp at e
    | 1 => simp at e
    | j + 2 => simp at e



end Go.Proofs.YtclbjbhpncpmbaaGreatDoor

/- The contracts of errors.As at a target of flow's own error type: no error, and an error of that very type. Go's own text of errors.As is walked, with the model's entries for internal/reflectlite. Condition: the variable errors.errorType holds the handle of the type 'error' (the row lists it, the card ties it). -/
namespace Go.Proofs.YtclbjbhpncpmbaaGreatDoor
open Go.RowKit Go.Extern.Stop Go.Stop Go.Extern



theorem lit1 (v : Value) (h : (#[v] : Array Value).size = 1) (h' : 0 < 1) : (#[v] : Array Value).getLit 0 h h' = v := rfl
theorem lit2 (v x : Value) (h : (#[v, x] : Array Value).size = 2) (h' : 0 < 2) : (#[v, x] : Array Value).getLit 0 h h' = v := rfl
theorem lit2' (v x : Value) (h : (#[v, x] : Array Value).size = 2) (h' : 1 < 2) : (#[v, x] : Array Value).getLit 1 h h' = x := rfl
end Go.Proofs.YtclbjbhpncpmbaaGreatDoor

/- The contract of flow.Get: the flow of bytes, or why not, as 'getFl' tells. Conditions: at most 1,000,000,000 bytes; the variable errors.errorType holds the handle of the type 'error'. -/
namespace Go.Proofs.YtclbjbhpncpmbaaGreatDoor
open Go.RowKit


end Go.Proofs.YtclbjbhpncpmbaaGreatDoor

/- The contract of flow.Cuts: where each frame begins, and where the last one ends, if the bytes are a flow's. Condition: at most 1,000,000,000 bytes. -/
namespace Go.Proofs.YtclbjbhpncpmbaaGreatDoor
open Go.RowKit

/-- Where the frame number i begins. -/
def cutAt (fr : List Fra) (i : Nat) : Nat := (catL (fr.take i)).length
def cutsL (fr : List Fra) : List Nat := (List.range (fr.length + 1)).map (cutAt fr)
theorem cutsL_length (fr : List Fra) : (cutsL fr).length = fr.length + 1 := by simp [cutsL]
theorem cutsL_get {fr : List Fra} {i : Nat} (h : i ≤ fr.length) : (cutsL fr)[i]? = some (cutAt fr i) := by simp [cutsL, List.getElem?_range (show i < fr.length + 1 by omega)]
theorem cutAt_succ {fr : List Fra} {i : Nat} {F : Fra} (h : fr[i]? = some F) : cutAt fr (i + 1) = cutAt fr i + (F.2.length + 10) := by
  rw [cutAt, cutAt, List.take_add_one, h, catL_append, List.length_append]
  simp [catL, putL_length]
theorem cutAt_le {fr : List Fra} (hf : ∀ x ∈ fr, Fit x) (i : Nat) : cutAt fr i ≤ 265 * fr.length := by
  have := catL_len (fr.take i) fun x hx => hf x (List.mem_of_mem_take hx)
  rw [List.length_take] at this
  rw [cutAt]
  have h2 : 265 * min i fr.length ≤ 265 * fr.length := Nat.mul_le_mul_left _ (Nat.min_le_right _ _)
  omega
theorem cutAt_all {fr : List Fra} : cutAt fr fr.length = (catL fr).length := by rw [cutAt, List.take_length]

def CutSays (bs : List Nat) (w' : World) (A : Option Addr) (m c : Nat) (ok : Bool) : Prop :=
  ((getFl bs).2 ≠ 0 ∧ ok = false ∧ A = none ∧ m = 0 ∧ c = 0) ∨ ((getFl bs).2 = 0 ∧ ok = true ∧ m = (getFl bs).1.2.length + 3 ∧ m ≤ c ∧ c ≤ maxLen ∧ Rd w' A (i64s (cutsL (framesF (getFl bs).1))))

end Go.Proofs.YtclbjbhpncpmbaaGreatDoor

/- The contract of flow's numbers: the bytes of so many numbers, one behind the other, in memory of the call's own. Condition: at most 10 numbers. -/
namespace Go.Proofs.YtclbjbhpncpmbaaGreatDoor
open Go.RowKit

theorem catV_append : ∀ (a b : List Nat), catV (a ++ b) = catV a ++ catV b
  | [], _ => rfl
  | n :: a, b => by simp only [List.cons_append, catV]; rw [catV_append a b, List.append_assoc]
theorem catV_len : ∀ (l : List Nat), (∀ n ∈ l, n < 18446744073709551616) → (catV l).length ≤ 10 * l.length
  | [], _ => by simp [catV]
  | n :: l, h => by
    have h1 := putL_len10 n (h n (by simp))
    have h2 := catV_len l fun m hm => h m (by simp [hm])
    simp only [catV, List.length_append, List.length_cons]
    omega
theorem vput_form (N : Nat) (w : World) (hN : N < 18446744073709551616) :
    Calls Tryz.prog 98 #[.int .u64 (N : Int)] w fun e w' => ∃ g cap, e = .returned (.slice (some ⟨g, 0, none⟩) (vputL N).length cap) ∧ Rd w' (some ⟨g, 0, none⟩) (u8s (vputL N)) ∧ Below w.heap.size w w' :=
  (vput_any N w hN).mono fun e w' ⟨v, he, hown, hb⟩ => by
    obtain ⟨g, cap, rfl, hg, hlt, hcap, hc⟩ := own_open hown (putL_pos N)
    exact ⟨g, cap, he, Rd.own hown, hb⟩

end Go.Proofs.YtclbjbhpncpmbaaGreatDoor

/- The contract of flow's frames: the frames of a flow that may be, in memory of the call's own. Condition: the flow may be. -/
namespace Go.Proofs.YtclbjbhpncpmbaaGreatDoor
open Go.RowKit

/-- One frame more, laid for an append to a list of frames of the call's own. -/
theorem fr_step {w wr w3 : World} {v : Value} {k : Nat} {xs : List Value} {pre : List Fra} {F : Fra} {A3 : Option Addr} {c3 : Nat}
    (hB : Below w.heap.size w wr) (hown : wr.ownsRow w.heap.size 176 2 v k xs) (hch : Chunks 2 (rFra (fun b => b < wr.heap.size ∧ some b ≠ v.ownBlock) wr) xs pre)
    (hB3 : Below wr.heap.size wr w3) (hrd : RdIn (fun b => wr.heap.size ≤ b ∧ b < w3.heap.size) w3 A3 (u8s F.2)) (hc : F.2.length ≤ c3) (hm : c3 ≤ maxLen) (hby : ∀ x ∈ F.2, x < 256) (hw : (Lit.int .i64 F.1).wf = true) :
    (w3.alloc (.cells #[.int .i64 F.1, .slice A3 F.2.length c3] 176)).ownsRow w.heap.size 176 2 v k xs ∧ Rd (w3.alloc (.cells #[.int .i64 F.1, .slice A3 F.2.length c3] 176)) (some ⟨w3.heap.size, 0, none⟩) [.int .i64 F.1, .slice A3 F.2.length c3] ∧
    Below w.heap.size w (w3.alloc (.cells #[.int .i64 F.1, .slice A3 F.2.length c3] 176)) ∧
    Chunks 2 (rFra (fun b => b < (w3.alloc (.cells #[.int .i64 F.1, .slice A3 F.2.length c3] 176)).heap.size ∧ some b ≠ v.ownBlock) (w3.alloc (.cells #[.int .i64 F.1, .slice A3 F.2.length c3] 176))) (xs ++ [.int .i64 F.1, .slice A3 F.2.length c3]) (pre ++ [F]) := by
  have hA : Below w3.heap.size w3 (w3.alloc (.cells #[.int .i64 F.1, .slice A3 F.2.length c3] 176)) := (Below.refl _ w3).alloc (Nat.le_refl _) _
  have hB4 := hB3.trans (hA.mono hB3.size)
  refine ⟨own_below hown hB4, (Blk.new w3 176 [.int .i64 F.1, .slice A3 F.2.length c3]).rd, hB.trans (hB4.mono hB.size), ?_⟩
  have hvl := hown.lt
  have hkn : Keeps (fun x => wr.heap.size ≤ x ∧ x < w3.heap.size) (fun x => x < (w3.alloc (.cells #[.int .i64 F.1, .slice A3 F.2.length c3] 176)).heap.size ∧ some x ≠ v.ownBlock) w3 _ := fun x ⟨h1, h2⟩ =>
    ⟨⟨Nat.lt_of_lt_of_le h2 hA.size, fun e => by have := (hvl x e.symm).2; omega⟩, hA.block x h2⟩
  have hko : Keeps (fun x => x < wr.heap.size ∧ some x ≠ v.ownBlock) (fun x => x < (w3.alloc (.cells #[.int .i64 F.1, .slice A3 F.2.length c3] 176)).heap.size ∧ some x ≠ v.ownBlock) wr _ := fun x ⟨h1, h2⟩ =>
    ⟨⟨Nat.lt_of_lt_of_le h1 hB4.size, h2⟩, hB4.block x h1⟩
  exact (hch.imp (fun cs a h => rFra_stays.to hko h)).append (Chunks.one (size := 2) rfl (rFra_mk (f := F) hc hm hby hw (hrd.keeps hkn)))

end Go.Proofs.YtclbjbhpncpmbaaGreatDoor

/- The contract of flow.Put: the bytes of a flow that may be, in memory of the call's own; else nothing, and ErrArg. No condition. -/
namespace Go.Proofs.YtclbjbhpncpmbaaGreatDoor
open Go.RowKit

def FPutSays (f : Flo) (w' : World) (B : Option Addr) (m cap E : Nat) : Prop :=
  (mayB f = true ∧ E = 0 ∧ m = (flowB f).length ∧ m ≤ cap ∧ cap ≤ maxLen ∧ Rd w' B (u8s (flowB f))) ∨ (mayB f = false ∧ E = 1 ∧ B = none ∧ m = 0 ∧ cap = 0)

end Go.Proofs.YtclbjbhpncpmbaaGreatDoor

/- flow's contracts at flows that may be, and that may not be; the chapter's example, on plain data. Condition: where it is named, the variable errors.errorType holds the handle of the type 'error'. -/
namespace Go.Proofs.YtclbjbhpncpmbaaGreatDoor
open Go.RowKit

theorem ok_none : OkF (0, []) := ⟨by decide, by decide, by decide, by simp⟩
theorem ok_one : OkF (300, [[5]]) := ⟨by decide, by decide, by decide, by simp⟩
theorem len_none : (flowB (0, [])).length = 24 := by
  simp [flowB, framesF, partsF, catL, putL_length, headL, putL_small (show 1 < 128 by omega), putL_small (show 0 < 128 by omega)]
theorem len_one : (flowB (300, [[5]])).length = 37 := by
  have h : vputL 300 = [172, 2] := by rw [putL_big (by omega), putL_small (by omega)]
  simp [flowB, framesF, partsF, catL, putL_length, headL, h, putL_small (show 1 < 128 by omega), putL_small (show 0 < 128 by omega)]
theorem rPts_nil (w : World) : rPts (All w) w [.slice none 0 0] [] := ⟨none, 0, [], rfl, Nat.le_refl _, Nat.zero_le _, .inl rfl, Chunks.nil⟩
end Go.Proofs.YtclbjbhpncpmbaaGreatDoor

/- flow's Get at the bytes of a flow. Condition: the variable errors.errorType holds the handle of the type 'error'. -/
namespace Go.Proofs.YtclbjbhpncpmbaaGreatDoor
open Go.RowKit

end Go.Proofs.YtclbjbhpncpmbaaGreatDoor

/- flow's Cuts at the bytes of a flow that may be. No condition. -/
namespace Go.Proofs.YtclbjbhpncpmbaaGreatDoor
open Go.RowKit

theorem cuts_one : (cutsL (framesF (300, [[5]])))[3]? = some 37 := by
  have hl := framesF_length (300, [[5]])
  simp only [List.length_cons, List.length_nil] at hl
  have h := cutsL_get (fr := framesF (300, [[5]])) (i := 3) (by omega)
  have h2 := cutAt_all (fr := framesF (300, [[5]]))
  rw [hl] at h2
  rw [h, show (3 : Nat) = 0 + 1 + 2 by rfl, h2]
  exact congrArg some len_one
end Go.Proofs.YtclbjbhpncpmbaaGreatDoor
