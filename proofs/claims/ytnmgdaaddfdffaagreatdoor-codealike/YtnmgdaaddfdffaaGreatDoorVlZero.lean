/- The contract of value.Zero. No condition. -/
import Derived.Test.YtnmgdaaddfdffaaGreatDoorGGraph
import Derived.WalkKit
import Derived.WalkSpells
import Derived.WalkLawsBesides
import Derived.IntWalk
import Derived.BigQuiet

namespace Go.Proofs.YtnmgdaaddfdffaaGreatDoor
open Go.RowKit

set_option maxRecDepth 100000 in
set_option maxHeartbeats 1000000 in
theorem vlzero_any (a b : ByteArray) (k : Int) (w : World) :
    Calls Tryz.prog 71 #[.agg #[.string a, .int .i64 k, .string b]] w fun e w' => e = .returned (.agg #[.int .i64 0, .string ⟨#[]⟩, .int .i64 (zeroV k).2.2]) ∧ Below w.heap.size w w' := by
  have ha := assert_id k
  have T1 := Lib.hid (fun W => vlhold_any a b ⟨#[]⟩ k 0 0 W)
  generalize holdV k 0 ⟨#[]⟩ 0 = hv at *
  by_cases hk : k = 5
  · subst hk
    rw [decide_eq_true rfl] at ha
    go_enter Tryz.func71, Tryz.ntmps71
    go_wp2_with fail
    refine (T1.out _).mono ?_
    rintro e w1 ⟨rfl, hC1⟩
    have hB : Below w.heap.size w w1 := (((Below.refl _ w).alloc (Nat.le_refl _) _).alloc (by simp) _).trans (hC1.mono (by simp; omega))
    have v1 := (Blk.new (w.alloc (.cells #[.string a, .int .i64 5, .string b] 114)) 57 [.int .i64 0, .string ⟨#[]⟩, .int .i64 0]).below (Nat.lt_succ_self _) (hC1.mono (by simp))
    rw [World.size_alloc] at v1
    have f0 := v1.frozen 0
    have f1 := v1.frozen 1
    have f2 := v1.frozen 2
    have y0 := v1.cell (j := 0) rfl
    have y1 := v1.cell (j := 1) rfl
    have y2 := v1.cell (j := 2) rfl
    go_wp2
    refine ret_cell0 (d := .struct _) (cs := [.int .i64 0, .string ⟨#[]⟩, .int .i64 (-1)]) rfl (((v1.set 0 _).set 1 _).set 2 _) rfl rfl rfl rfl rfl ?_
    exact ⟨rfl, ((hB.setCell (Nat.le_succ _) _).setCell (Nat.le_succ _) _).setCell (Nat.le_succ _) _⟩
  · rw [decide_eq_false hk] at ha
    rw [zeroV, if_neg hk]
    go_enter Tryz.func71, Tryz.ntmps71
    go_wp2_with fail
    refine (T1.out _).mono ?_
    rintro e w1 ⟨rfl, hC1⟩
    have hB : Below w.heap.size w w1 := (((Below.refl _ w).alloc (Nat.le_refl _) _).alloc (by simp) _).trans (hC1.mono (by simp; omega))
    have v1 := (Blk.new (w.alloc (.cells #[.string a, .int .i64 k, .string b] 114)) 57 [.int .i64 0, .string ⟨#[]⟩, .int .i64 0]).below (Nat.lt_succ_self _) (hC1.mono (by simp))
    rw [World.size_alloc] at v1
    have f0 := v1.frozen 0
    have f1 := v1.frozen 1
    have f2 := v1.frozen 2
    have y0 := v1.cell (j := 0) rfl
    have y1 := v1.cell (j := 1) rfl
    have y2 := v1.cell (j := 2) rfl
    go_wp2
    refine ret_cell0 (d := .struct _) (cs := [.int .i64 0, .string ⟨#[]⟩, .int .i64 0]) rfl (((v1.set 0 _).set 1 _).set 2 _) rfl rfl rfl rfl rfl ?_
    exact ⟨rfl, ((hB.setCell (Nat.le_succ _) _).setCell (Nat.le_succ _) _).setCell (Nat.le_succ _) _⟩
end Go.Proofs.YtnmgdaaddfdffaaGreatDoor
