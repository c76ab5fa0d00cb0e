/- Flow's reader in memory, and the contracts of its methods had, goOn, head and tail: what they leave of it. Condition: the reader lies in a block of its own. -/
import Derived.Test.YthhkkiegfcofjaaDoorFlMem
import Derived.Test.YthhkkiegfcofjaaDoorVaAll
import Derived.Test.YthhkkiegfcofjaaDoorSched
import Derived.Deep.QuietTactic
import Derived.BigQuiet
namespace Go.Proofs.YthhkkiegfcofjaaDoor
open Go.RowKit

/-- Nothing but the block g is another one, and there are as many. -/
structure Only (g : Nat) (w w' : World) : Prop where
  size : w'.heap.size = w.heap.size
  block : ∀ b, b ≠ g → w'.heap[b]? = w.heap[b]?
  bel : Below g w w'
theorem Only.refl (g : Nat) (w : World) : Only g w w := ⟨rfl, fun _ _ => rfl, Below.refl _ _⟩
theorem Only.trans {g : Nat} {a b c : World} (h : Only g a b) (k : Only g b c) : Only g a c := ⟨k.size.trans h.size, fun x hx => (k.block x hx).trans (h.block x hx), h.bel.trans k.bel⟩
theorem Only.set (g : Nat) (w : World) (j : Nat) (u : Value) : Only g w (w.setCell ⟨g, j, none⟩ u) :=
  ⟨by simp, fun b hb => heap_setCell_other w ⟨g, j, none⟩ b u hb, (Below.refl _ w).setCell (p := ⟨g, j, none⟩) (Nat.le_refl _) u⟩
theorem Only.drew (g : Nat) (w : World) : Only g w w.drew := ⟨rfl, fun _ _ => rfl, (Below.refl _ w).drew⟩
theorem Only.blk {g k : Nat} {w w' : World} {t : TypeId} {cs : List Value} (h : Only g w w') (hk : k ≠ g) (hb : Blk w k t cs) : Blk w' k t cs := (h.block k hk).trans hb

theorem had_any (g : Nat) (x0 x2 x3 : Value) (A : Option Addr) (n c : Nat) (w : World) (hb : Blk w g 76 [x0, .slice A n c, x2, x3]) (hn : n < 9223372036854775808) :
    Calls Tryd.prog 68 #[.pointer (some ⟨g, 0, none⟩)] w fun e w' => e = .returned (.int .u64 (n : Int)) ∧ w = w' := by
  have h1 := hb.cell (j := 1) rfl
  go_enter Tryd.func68, Tryd.ntmps68
  go_wp2
  go_ret
  exact ⟨ret_int (by omega), rfl⟩

set_option maxRecDepth 100000 in
theorem goOn_any (g : Nat) (x0 x3 : Value) (A : Option Addr) (n c cnt : Nat) (w : World) (hb : Blk w g 76 [x0, .slice A n c, .int .u64 (cnt : Int), x3]) (hn : n < 9223372036854775808) :
    Calls Tryd.prog 66 #[.pointer (some ⟨g, 0, none⟩)] w fun e w' => e = .returned (.tuple #[]) ∧ Only g w w' ∧ Blk w' g 76 [x0, .slice A n c, .int .u64 (cnt : Int), .int .i64 (dueOf n cnt)] := by
  have h0 := hb.cell (j := 3) rfl
  have hf0 := hb.frozen 3
  have hb1 := hb.set 3 (.int .i64 3)
  have hO1 := Only.set g w 3 (.int .i64 3)
  simp only [List.set_cons_succ, List.set_cons_zero] at hb1
  generalize hW : w.setCell ⟨g, 3, none⟩ (.int .i64 3) = w1 at *
  have h1 := hb1.cell (j := 1) rfl
  have h2 := hb1.cell (j := 2) rfl
  have h3 := hb1.cell (j := 3) rfl
  have hf3 := hb1.frozen 3
  have H1 := Lib.hid (had_any g x0 _ _ A n c w1.drew hb1 hn)
  have hb1d : Blk w1.drew g 76 [x0, .slice A n c, .int .u64 (cnt : Int), .int .i64 3] := hb1
  have hO1d : Only g w w1.drew := hO1.trans (Only.drew g w1)
  have hb2 := hb1d.set 3 (.int .i64 2)
  have hO2 := hO1d.trans (Only.set g w1.drew 3 (.int .i64 2))
  simp only [List.set_cons_succ, List.set_cons_zero] at hb2
  have h1d := hb1d.cell (j := 1) rfl
  have h2d := hb1d.cell (j := 2) rfl
  have h3d := hb1d.cell (j := 3) rfl
  have hf3d := hb1d.frozen 3
  clear hb hb1
  have hd : dueOf n cnt = if n < cnt then 2 else 3 := rfl
  have Hd := Lib.hid hd
  have Hb2 := Lib.hid hb2
  have HO2 := Lib.hid hO2
  clear hd hb2 hO2 h1 h2 h3 hf3 hO1
  go_enter Tryd.func66, Tryd.ntmps66
  go_wp2_with fail
  refine sch_start [(0, true), (2, true), (3, true), (4, true), (5, true), (1, false), (6, true)]
    (fun W => W.cell? ⟨g, 2, none⟩ = some (.int .u64 (cnt : Int))) (by kernel_rfl) rfl (by kernel_rfl) (fun _ _ _ _ _ h => h) h2d (fun hH => ?_)
  repeat (first | (refine sch_yes (v := ?_) rfl rfl ?_ hH ?_; rotate_left; (focus ((intro W hW; go_simp) <;> with_reducible rfl)); simp only [Act.put, List.setIfInBounds_toArray, List.set_cons_zero, List.set_cons_succ]) | (refine sch_no rfl rfl hH ?_; simp only [Act.put, List.setIfInBounds_toArray, List.set_cons_zero, List.set_cons_succ]))
  refine sch_call rfl rfl (fun K hK => ?_)
  go_wp2_with (go_at_call 68; refine H1.out.mono ?_; rintro e w5 ⟨rfl, rfl⟩)
  refine hK.out _ _ h2d ?_
  clear hK hH
  have hH := h2d
  repeat (first | (refine sch_yes (v := ?_) rfl rfl ?_ hH ?_; rotate_left; (focus ((intro W hW; go_simp) <;> with_reducible rfl)); simp only [Act.put, List.setIfInBounds_toArray, List.set_cons_zero, List.set_cons_succ]) | (refine sch_no rfl rfl hH ?_; simp only [Act.put, List.setIfInBounds_toArray, List.set_cons_zero, List.set_cons_succ]))
  refine sch_done ?_
  by_cases hlt : n < cnt
  · have hl2 : decide (n < cnt) = true := decide_eq_true hlt
    rw [hl2]
    go_wp2
    go_end0
    rw [Hd.out, if_pos hlt]
    exact ⟨rfl, HO2.out, Hb2.out⟩
  · have hl2 : decide (n < cnt) = false := decide_eq_false hlt
    rw [hl2]
    go_wp2
    go_end0
    rw [Hd.out, if_neg hlt]
    exact ⟨rfl, hO1d, hb1d⟩

/-- Blocks of other types than the reader's and its parts' are as they were. -/
def KT (w w' : World) : Prop := ∀ k t cs, Blk w k t cs → t ≠ 76 → t ≠ 26 → Blk w' k t cs
theorem KT.refl (w : World) : KT w w := fun _ _ _ h _ _ => h
theorem KT.trans {a b c : World} (h : KT a b) (k : KT b c) : KT a c := fun x t cs hb h1 h2 => k x t cs (h x t cs hb h1 h2) h1 h2
theorem KT.below {w w' : World} (h : Below w.heap.size w w') : KT w w' := fun _ _ _ hb _ _ => hb.below hb.lt h
theorem KT.only {g : Nat} {w w' : World} {cs : List Value} (h : Only g w w') (hb : Blk w g 76 cs) : KT w w' := fun k t cs' hk h1 _ => h.blk (fun e => by
  subst e
  have := hk.symm.trans hb
  injection this with this
  injection this with _ e2
  exact h1 e2) hk
theorem dueOf_cases (a b : Nat) : dueOf a b = 2 ∨ dueOf a b = 3 := by unfold dueOf; split <;> simp
/-- What holds of a reader between two frames. -/
structure InvS (s : RSt) : Prop where
  base : s.base < 4294967296
  most : s.count ≤ 40
  few : s.parts.length ≤ s.count
  one : s.due = 1 → s.parts = []
  two : s.due = 2 → s.parts.length < s.count
  dues : s.due = 1 ∨ s.due = 2 ∨ s.due = 3 ∨ s.due = -1
/-- The reader in the block g; its parts lie in a row from the block B on. -/
structure ReadsAt (B g : Nat) (s : RSt) (w : World) (A : Option Addr) (c : Nat) (xs : List Value) : Prop where
  low : B ≤ g
  inv : InvS s
  blk : Blk w g 76 [.int .u32 (s.base : Int), .slice A s.parts.length c, .int .u64 (s.count : Int), .int .i64 s.due]
  row : w.ownsRow B 26 1 (.slice A s.parts.length c) s.parts.length xs
  parts : Chunks 1 (rBytes (fun b => b < w.heap.size ∧ b ≠ g ∧ some b ≠ (Value.slice A s.parts.length c).ownBlock ∧ B ≤ b) w) xs s.parts
def Reads (B g : Nat) (s : RSt) (w : World) : Prop := ∃ A c xs, ReadsAt B g s w A c xs
section
variable {B g : Nat} {s : RSt} {w w' : World} {A : Option Addr} {c : Nat} {xs : List Value}
theorem ReadsAt.other (h : ReadsAt B g s w A c xs) : ∀ k, (Value.slice A s.parts.length c).ownBlock = some k → k ≠ g := by
  rintro k hk rfl
  rcases h.row.2 with ⟨e, _⟩ | ⟨g', cap, cur, e, _, hg, _⟩
  · rw [e] at hk; simp [Value.ownBlock] at hk
  · rw [e] at hk
    simp [Value.ownBlock] at hk
    subst hk
    have := hg.symm.trans h.blk
    injection this with this
    injection this with _ e2
    exact absurd e2 (by decide)
theorem ReadsAt.below (h : ReadsAt B g s w A c xs) (hB : Below w.heap.size w w') : ReadsAt B g s w' A c xs :=
  ⟨h.low, h.inv, h.blk.below h.blk.lt hB, own_below h.row hB, h.parts.imp fun _ _ hr => rBytes_stays.to (fun b hb => ⟨⟨Nat.lt_of_lt_of_le hb.1 hB.size, hb.2⟩, hB.block b hb.1⟩) hr⟩
/-- The reader's own block is another one, its parts are as they were. -/
theorem ReadsAt.only (h : ReadsAt B g s w A c xs) (hO : Only g w w') {b cnt : Nat} {d : Int} (hi : InvS ⟨b, s.parts, cnt, d⟩) (hb : Blk w' g 76 [.int .u32 (b : Int), .slice A s.parts.length c, .int .u64 (cnt : Int), .int .i64 d]) : ReadsAt B g ⟨b, s.parts, cnt, d⟩ w' A c xs := by
  refine ⟨h.low, hi, hb, ⟨h.row.1, ?_⟩, h.parts.imp fun _ _ hr => rBytes_stays.to (fun x hx => ⟨⟨by rw [hO.size]; exact hx.1, hx.2⟩, hO.block x hx.2.1⟩) hr⟩
  rcases h.row.2 with h1 | ⟨g', cap, cur, h1, h2, h3, h4⟩
  · exact .inl h1
  · refine .inr ⟨g', cap, cur, h1, h2, (hO.block g' ?_).trans h3, h4⟩
    exact h.other g' (by rw [h1]; rfl)
end
/-- What a method that reads a frame says, and leaves. -/
def StepSays (B g : Nat) (w : World) (r : Option RSt) (e : Ending) (w' : World) : Prop :=
  Below B w w' ∧ KT w w' ∧ ((r = none ∧ e = .returned (.iface 59 (.agg #[.int .i64 4]))) ∨ ∃ s', r = some s' ∧ e = .returned .nilIface ∧ Reads B g s' w')
end Go.Proofs.YthhkkiegfcofjaaDoor
