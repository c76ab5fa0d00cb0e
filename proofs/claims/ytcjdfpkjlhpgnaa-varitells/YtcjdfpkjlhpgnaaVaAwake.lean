/- The contract of the laws' own 'awake' (the chapter's examples): it returns true, and changes nothing that was there. -/
import Derived.Test.YtcjdfpkjlhpgnaaVaPut
import Derived.Test.YtcjdfpkjlhpgnaaVaAll
import Derived.Test.YtcjdfpkjlhpgnaaVaZig
namespace Go.Proofs.Ytcjdfpkjlhpgnaa
open Go.RowKit

theorem putL_300 : putL 300 = [172, 2] := by
  rw [putL_big (by omega), putL_small (by omega)]
theorem getL_172 : getL [172, 2, 9] = (300, 2) := by decide
theorem getL_128 : getL [128, 0] = (0, 0) := by decide
theorem getL_9 : getL [9] = (9, 1) := by decide
theorem allL_172 : allL [172, 2, 9] = some [300, 9] := by decide

/-- A row of the call's own with something in it: its address, its cells. -/
theorem own_open {w : World} {base e n : Nat} {v : Value} {xs : List Value} (h : w.ownsRow base e 1 v n xs) (hn : 0 < n) :
    ∃ g cap, v = .slice (some ⟨g, 0, none⟩) n cap ∧ base ≤ g ∧ g < w.heap.size ∧ n ≤ cap ∧ ∀ j u, xs[j]? = some u → w.cell? ⟨g, j, none⟩ = some u := by
  obtain ⟨g, cap, rfl, hg, hlt⟩ := h.form hn
  refine ⟨g, cap, rfl, hg, hlt, ?_, fun j u hu => ?_⟩
  · rcases h.2 with ⟨e1, _⟩ | ⟨g', cap', cur, e1, _, _, hnc, _⟩
    · cases e1
    · injection e1 with _ _ e3
      subst e3
      exact hnc
  · have := h.cells (g := g) rfl j u hu
    rw [addr_add, Nat.zero_add] at this
    exact this

theorem put300 (w : World) : Calls Try.prog 16 #[.int .u64 300] w fun e w' => ∃ g cap, e = .returned (.slice (some ⟨g, 0, none⟩) 2 cap) ∧ w.heap.size ≤ g ∧ g < w'.heap.size ∧ w'.cell? ⟨g, 0, none⟩ = some (.int .u8 172) ∧ w'.cell? ⟨g, 1, none⟩ = some (.int .u8 2) ∧ Below w.heap.size w w' :=
  (put_any 300 w (by omega)).mono fun e w' ⟨v, he, hown, hb⟩ => by
    rw [putL_300] at hown
    obtain ⟨g, cap, rfl, hg, hlt, _, hc⟩ := own_open hown (by simp)
    exact ⟨g, cap, he, hg, hlt, hc 0 _ rfl, hc 1 _ rfl, hb⟩

theorem lit_rd (w : World) (bs : List Nat) : Rd (w.alloc (.cells (u8s bs).toArray 5)) (some ⟨w.heap.size, 0, none⟩) (u8s bs) :=
  .inr ⟨w.heap.size, 0, rfl, by simp, fun j u hu => by
    rw [World.cell?_alloc_at _ _ _ _ rfl, Nat.zero_add]
    simpa using hu⟩

theorem get172 (w : World) (b : Nat) (hb0 : w.heap.size = b) : Calls Try.prog 11 #[.slice (some ⟨b, 0, none⟩) 3 3] (w.alloc (.cells #[.int .u8 172, .int .u8 2, .int .u8 9] 5)) fun e w' => e = .returned (.tuple #[.int .u64 300, .int .i64 2]) ∧ (w.alloc (.cells #[.int .u8 172, .int .u8 2, .int .u8 9] 5)) = w' :=
  (get_any _ 3 [172, 2, 9] _ (by decide) (by rw [← hb0]; exact lit_rd w [172, 2, 9]) (by decide)).mono fun e w' ⟨he, hw⟩ => ⟨by rw [he, getL_172]; rfl, hw⟩
theorem get128 (w : World) (b : Nat) (hb0 : w.heap.size = b) : Calls Try.prog 11 #[.slice (some ⟨b, 0, none⟩) 2 2] (w.alloc (.cells #[.int .u8 128, .int .u8 0] 5)) fun e w' => e = .returned (.tuple #[.int .u64 0, .int .i64 0]) ∧ (w.alloc (.cells #[.int .u8 128, .int .u8 0] 5)) = w' :=
  (get_any _ 2 [128, 0] _ (by decide) (by rw [← hb0]; exact lit_rd w [128, 0]) (by decide)).mono fun e w' ⟨he, hw⟩ => ⟨by rw [he, getL_128]; rfl, hw⟩
theorem all172 (w : World) (b : Nat) (hb0 : w.heap.size = b) : Calls Try.prog 13 #[.slice (some ⟨b, 0, none⟩) 3 3] (w.alloc (.cells #[.int .u8 172, .int .u8 2, .int .u8 9] 5)) fun e w' => ∃ g cap, e = .returned (.tuple #[.slice (some ⟨g, 0, none⟩) 2 cap, .bool true]) ∧ g < w'.heap.size ∧ w'.cell? ⟨g, 1, none⟩ = some (.int .u64 9) ∧ Below w.heap.size w w' :=
  (all_any _ 3 [172, 2, 9] _ (by decide) (by decide) (by decide) (by rw [← hb0]; exact lit_rd w [172, 2, 9])).mono fun e w' ⟨v, he, hown, hb⟩ => by
    rw [allL_172] at he hown
    obtain ⟨g, cap, rfl, hg, hlt, _, hc⟩ := own_open hown (by simp)
    refine ⟨g, cap, he, hlt, hc 1 _ rfl, ((Below.refl _ w).alloc (Nat.le_refl _) _).trans (hb.mono ?_)⟩
    simp

set_option maxRecDepth 100000 in
set_option maxHeartbeats 1000000 in
theorem awake_any (w : World) : Calls Try.prog 10 #[] w fun e w' => e = .returned (.bool true) ∧ Below w.heap.size w w' := by
  go_enter Try.func10, Try.ntmps10
  go_wp2_with fail
  refine (put300 _).mono ?_
  rintro e w1 ⟨g, cap, rfl, hg, hlt, hc0, hc1, hb1⟩
  go_wp2_with fail
  refine (get172 _ _ rfl).mono ?_
  rintro e w2 ⟨rfl, rfl⟩
  go_wp2_with fail
  refine (get128 _ _ (by simp)).mono ?_
  rintro e w2 ⟨rfl, rfl⟩
  go_wp2_with fail
  refine (all172 _ _ (by simp)).mono ?_
  rintro e w2 ⟨g2, cap2, rfl, hlt2, hcc, hb2⟩
  have hb3 : Below w1.heap.size w1 w2 := (((Below.refl _ w1).alloc (Nat.le_refl _) _).alloc (by simp) _).trans (hb2.mono (by simp; omega))
  have hd0 : w2.cell? ⟨g, 0, none⟩ = some (.int .u8 172) := (hb3.cell (p := ⟨g, 0, none⟩) hlt).trans hc0
  have hd1 : w2.cell? ⟨g, 1, none⟩ = some (.int .u8 2) := (hb3.cell (p := ⟨g, 1, none⟩) hlt).trans hc1
  have hB : Below w.heap.size w w2 := hb1.trans (hb3.mono hb1.size)
  clear hb2 hb3 hb1 hc0 hc1
  go_wp2_with fail
  refine (zig_any (-2) _ (by omega) (by omega)).mono ?_
  rintro e w3 ⟨rfl, rfl⟩
  rw [show zigV (-2) = 3 from by decide]
  go_wp2_with fail
  refine (zag_any 3 _ (by omega) (by omega)).mono ?_
  rintro e w3 ⟨rfl, rfl⟩
  rw [show zagV 3 = -2 from by decide]
  go_wp2
  go_ret
  exact ⟨rfl, hB⟩
end Go.Proofs.Ytcjdfpkjlhpgnaa
