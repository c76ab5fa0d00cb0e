/- The contract of the laws' own 'awake' (the chapter's examples, and a text): it returns true, and changes nothing that was there. No condition. -/
import Derived.Test.YtpllbjkjlaacjaaVlGet
namespace Go.Proofs.Ytpllbjkjlaacjaa
open Go.RowKit

theorem vla_put : fitsV 0 (-1, byt ⟨#[]⟩, 0) = true ∧ putVF 0 (-1, byt ⟨#[]⟩, 0) = [1] := by
  have h : fitsV 0 (-1, byt ⟨#[]⟩, 0) = true := by decide
  refine ⟨h, ?_⟩
  rw [putVF_yes h, vl_put_num (by decide) (by decide)]
  show vputL (zigV (-1)).toNat = [1]
  rw [show (zigV (-1)).toNat = 1 by decide]
  exact putL_small (by decide)
theorem vla_getL : getL [2, 97, 98, 99] = (2, 1) := by decide
theorem vla_get : getV 4 [2, 97, 98, 99] = some ((0, [97, 98], 0), 3) := by
  rw [vl_get_4 (by rw [vla_getL]; decide), vla_getL]; rfl
theorem vla_got : gotV 4 [2, 97, 98, 99] = (0, [97, 98], 0) ∧ gotM 4 [2, 97, 98, 99] = 3 ∧ gotB 4 [2, 97, 98, 99] = true := vl_got_some vla_get
theorem awake_put (w : World) : Calls Try.prog 11 #[.agg #[.string ⟨#[]⟩, .int .i64 0, .string ⟨#[]⟩], .agg #[.int .i64 (-1), .string ⟨#[]⟩, .int .i64 0]] w fun e w' =>
    ∃ g cap, e = .returned (.tuple #[.slice (some ⟨g, 0, none⟩) 1 cap, .bool true]) ∧ w'.cell? ⟨g, 0, none⟩ = some (.int .u8 1) ∧ g < w'.heap.size ∧ Below w.heap.size w w' := by
  have := vlput_any ⟨#[]⟩ ⟨#[]⟩ ⟨#[]⟩ 0 (-1) 0 w (by omega) (by omega)
  rw [vla_put.1, vla_put.2] at this
  refine this.mono fun e w' ⟨v, he, hown, hB⟩ => ?_
  obtain ⟨g, cap, hv, _, hlt, _, hc⟩ := own_open hown (by decide)
  subst hv
  exact ⟨g, cap, he, hc 0 _ rfl, hlt, hB⟩
theorem awake_get (A : Option Addr) (w : World) (h : Rd w A (u8s [2, 97, 98, 99])) : Calls Try.prog 13 #[.agg #[.string ⟨#[]⟩, .int .i64 4, .string ⟨#[]⟩], .slice A 4 4] w fun e w' =>
    e = .returned (.tuple #[.agg #[.int .i64 0, .string ⟨#[97, 98]⟩, .int .i64 0], .int .i64 3, .bool true]) ∧ Below w.heap.size w w' := by
  have := vlget_any ⟨#[]⟩ ⟨#[]⟩ 4 A 4 4 [2, 97, 98, 99] w rfl (Nat.le_refl _) (by decide) h (by decide)
  rw [vla_got.1, vla_got.2.1, vla_got.2.2] at this
  refine this.mono fun e w' ⟨s, hs, he, hB⟩ => ?_
  have hs' : byt s = byt ⟨#[97, 98]⟩ := hs
  rw [byt_inj hs'] at he
  exact ⟨he, hB⟩
theorem awake_fits (w : World) : Calls Try.prog 16 #[.agg #[.string ⟨#[]⟩, .int .i64 0, .string ⟨#[]⟩], .agg #[.int .i64 128, .string ⟨#[]⟩, .int .i64 0]] w fun e w' => e = .returned (.bool false) ∧ Below w.heap.size w w' := by
  have := vlfits_any ⟨#[]⟩ ⟨#[]⟩ ⟨#[]⟩ 0 128 0 w
  rw [show fitsV 0 (128, byt ⟨#[]⟩, 0) = false by decide] at this
  exact this
theorem awake_zero (w : World) : Calls Try.prog 17 #[.agg #[.string ⟨#[]⟩, .int .i64 5, .string ⟨#[]⟩]] w fun e w' => e = .returned (.agg #[.int .i64 0, .string ⟨#[]⟩, .int .i64 (-1)]) ∧ Below w.heap.size w w' :=
  vlzero_any ⟨#[]⟩ ⟨#[]⟩ 5 w

set_option maxRecDepth 100000 in
set_option maxHeartbeats 2000000 in
theorem vlawake_any (w : World) : Calls Try.prog 10 #[] w fun e w' => e = .returned (.bool true) ∧ Below w.heap.size w w' := by
  have hfld : ∀ W : World, (Instr.field 25 (.agg #[.int .i64 0, .string ⟨#[]⟩, .int .i64 (-1)]) 2).run Try.prog W = .ok (.int .i64 (-1)) W := fun _ => by kernel_rfl
  go_enter Try.func10, Try.ntmps10
  go_wp2_with fail
  refine (awake_put _).mono ?_
  rintro e w1 ⟨g, cap, rfl, hx, hg, hC1⟩
  have b0 := Blk.new w 23 [.string ⟨#[]⟩, .int .i64 0, .string ⟨#[]⟩]
  have hB1 : Below w.heap.size w w1 := ((Below.refl _ w).alloc (Nat.le_refl _) _).trans (hC1.mono (by simp))
  have b1 := b0.below b0.lt hC1
  clear b0 hC1
  have hr := lit_rd w1 [2, 97, 98, 99]
  go_wp2_with fail
  refine (awake_get _ _ hr).mono ?_
  rintro e w2 ⟨rfl, hC2⟩
  have hB2 : Below w.heap.size w w2 := (hB1.alloc hB1.size _).trans (hC2.mono (Nat.le_trans hB1.size (by simp)))
  have hD2 : Below w1.heap.size w1 w2 := ((Below.refl _ w1).alloc (Nat.le_refl _) _).trans (hC2.mono (by simp))
  have hD3 := hD2.alloc hD2.size (.cells #[.int .i64 0, .string ⟨#[97, 98]⟩, .int .i64 0] 25)
  have hB3 := hB2.alloc hB2.size (.cells #[.int .i64 0, .string ⟨#[97, 98]⟩, .int .i64 0] 25)
  have v3 := Blk.new w2 25 [.int .i64 0, .string ⟨#[97, 98]⟩, .int .i64 0]
  have b3 := b1.below b1.lt hD3
  have hx3 := (hD3.cell (p := ⟨g, 0, none⟩) hg).trans hx
  have c0 := b3.cell (j := 0) rfl
  have c1 := b3.cell (j := 1) rfl
  have c2 := b3.cell (j := 2) rfl
  clear hC2 hD2 hB2 hD3 b1 hr hx
  go_wp2_with fail
  refine (awake_fits _).mono ?_
  rintro e w4 ⟨rfl, hC4⟩
  have v4 := v3.below v3.lt hC4
  have hB4 := hB3.trans (hC4.mono hB3.size)
  have y1 := v4.cell (j := 1) rfl
  clear c0 c1 c2 hC4 b3 v3 v4 hB3
  go_wp2_with fail
  refine (awake_zero _).mono ?_
  rintro e w5 ⟨rfl, hC5⟩
  go_wp2
  go_ret
  exact ⟨rfl, hB4.trans (hC5.mono hB4.size)⟩
end Go.Proofs.Ytpllbjkjlaacjaa
