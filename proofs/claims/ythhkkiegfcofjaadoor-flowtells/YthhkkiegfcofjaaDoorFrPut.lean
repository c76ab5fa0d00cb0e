/- The contract of frame.Put: at every frame that may be its bytes ('putL'), of the call's own; else no bytes, and ErrArg; nothing that was there is changed. No condition. -/
import Derived.Test.YthhkkiegfcofjaaDoorFrMem
namespace Go.Proofs.YthhkkiegfcofjaaDoor
open Go.RowKit

set_option maxRecDepth 100000 in
set_option maxHeartbeats 1000000 in
theorem put_ok (k : Nat) (A : Option Addr) (n c : Nat) (bs : List Nat) (w : World) (hk : k < 256) (hn : bs.length = n) (hn2 : n < 256) (hb : ∀ x ∈ bs, x < 256) (hr : Rd w A (u8s bs)) :
    Calls Tryd.prog 26 #[.agg #[.int .i64 (k : Int), .slice A n c]] w fun e w' => ∃ g cap, e = .returned (.tuple #[.slice (some ⟨g, 0, none⟩) (n + 10) cap, .int .i64 0]) ∧ n + 10 ≤ cap ∧ w.heap.size ≤ g ∧ g < w'.heap.size ∧ Rd w' (some ⟨g, 0, none⟩) (u8s (putL k bs)) ∧ Below w.heap.size w w' := by
  have hk0 : decide ((k : Int) < 0) = false := by rw [decide_eq_false_iff_not]; omega
  have hk1 : decide ((255 : Int) < (k : Int)) = false := by rw [decide_eq_false_iff_not]; omega
  have hk2 : decide ((255 : Int) < (n : Int)) = false := by rw [decide_eq_false_iff_not]; omega
  have hk3 : (k : Int) % 256 = (k : Int) := by omega
  have hk4 : (n : Int) % 256 = (n : Int) := by omega
  have hB0 : Below w.heap.size w ((w.alloc (.cells #[.int .i64 (k : Int), .slice A n c] 50)).alloc (.cells #[.int .u8 (k : Int), .int .u8 (n : Int)] 5)) := ((Below.refl _ w).alloc (Nat.le_refl _) _).alloc (by simp) _
  have hr0 := hr.below hB0
  have hlit : Rd ((w.alloc (.cells #[.int .i64 (k : Int), .slice A n c] 50)).alloc (.cells #[.int .u8 (k : Int), .int .u8 (n : Int)] 5)) (some ⟨w.heap.size + 1, 0, none⟩) (u8s [k, n]) := by
    have := lit_rd (w.alloc (.cells #[.int .i64 (k : Int), .slice A n c] 50)) [k, n]
    rw [show (w.alloc (.cells #[.int .i64 (k : Int), .slice A n c] 50)).heap.size = w.heap.size + 1 by simp] at this
    exact this
  have hbx := (Blk.new w 50 [.int .i64 (k : Int), .slice A n c]).alloc (.cells #[.int .u8 (k : Int), .int .u8 (n : Int)] 5)
  have hcell := hbx.cell (j := 1) rfl
  have P1 := Lib.hid (fun (W : World) (a : Option Addr) (h : Rd W a (u8s [k, n])) => seal_form a 2 2 [k, n] W rfl (by intro x hx; simp at hx; omega) h (by omega))
  have P2 := Lib.hid (fun (W : World) (h : Rd W A (u8s bs)) => seal_form A c n bs W hn hb h (by omega))
  have hput : putL k bs = sealL [k, n] ++ sealL bs := by unfold putL; rw [hn]
  have hl1 : (sealL [k, n]).length = 6 := head_length k n
  have hl2 : (sealL bs).length = n + 4 := by rw [sealL_length, hn]
  have P3 := Lib.hid (fun (W : World) (G a b c1 c2 : Nat) (h0 : G < W.heap.size) (h1 : Rd W (some ⟨a, 0, none⟩) (u8s (sealL [k, n]))) (h2 : Rd W (some ⟨b, 0, none⟩) (u8s (sealL bs))) (h3 : W.cell? ⟨G, 0, none⟩ = some (.slice (some ⟨a, 0, none⟩) 6 c1)) (h4 : W.cell? ⟨G, 1, none⟩ = some (.slice (some ⟨b, 0, none⟩) (n + 4) c2)) =>
    concat2_any G (some ⟨a, 0, none⟩) (some ⟨b, 0, none⟩) 6 c1 (n + 4) c2 (sealL [k, n]) (sealL bs) W hl1 hl2 (by omega) (by omega) h1 h2 h0 h3 h4)
  have hl3 : (sealL [k, n] ++ sealL bs).length = n + 10 := by rw [List.length_append, hl1, hl2]; omega
  rw [hl3] at P3
  rw [hput]
  generalize sealL [k, n] = s1 at *
  generalize sealL bs = s2 at *
  have Hl3 := Lib.hid hl3
  have Hcell := Lib.hid hcell
  clear hl3 hput hl1 hl2 hbx hcell
  go_enter Tryd.func26, Tryd.ntmps26
  go_wp2_with fail
  refine sch_start [(0, true), (2, true), (3, true), (1, false), (4, false), (5, false), (6, false), (7, true), (8, true)]
    (fun W => W.cell? ⟨w.heap.size, 1, none⟩ = some (.slice A n c)) (by kernel_rfl) rfl (by kernel_rfl) (fun _ _ _ _ _ h => h) Hcell.out (fun hH => ?_)
  repeat (first | (refine sch_yes (v := ?_) rfl rfl ?_ hH ?_; rotate_left; (focus ((intro W hW; go_simp) <;> with_reducible rfl)); simp only [Act.put, List.setIfInBounds_toArray, List.set_cons_zero, List.set_cons_succ]) | (refine sch_no rfl rfl hH ?_; simp only [Act.put, List.setIfInBounds_toArray, List.set_cons_zero, List.set_cons_succ]))
  refine sch_call rfl rfl (fun K hK => ?_)
  go_wp2_with (go_at_call 40; refine (P1.out _ _ ?_).mono ?_; exact hlit; rintro e w1 ⟨g1, cap1, rfl, hcap1, hg1, hgl1, hrs1, hB1⟩)
  have hB1' : Below w.heap.size w w1 := hB0.drew.trans (hB1.mono hB0.size)
  have hc1 : w1.cell? ⟨w.heap.size, 1, none⟩ = some (.slice A n c) := (hB1.cell (p := ⟨w.heap.size, 1, none⟩) (by simp; omega)).trans Hcell.out
  have hr1 : Rd w1 A (u8s bs) := hr.below hB1'
  refine hK.out _ _ hc1 ?_
  clear hK hB1 hB0 hH Hcell hr0 hlit
  have hH := hc1
  repeat (first | (refine sch_yes (v := ?_) rfl rfl ?_ hH ?_; rotate_left; (focus ((intro W hW; go_simp) <;> with_reducible rfl)); simp only [Act.put, List.setIfInBounds_toArray, List.set_cons_zero, List.set_cons_succ]) | (refine sch_no rfl rfl hH ?_; simp only [Act.put, List.setIfInBounds_toArray, List.set_cons_zero, List.set_cons_succ]))
  refine sch_call rfl rfl (fun K hK => ?_)
  go_wp2_with (go_at_call 40; refine (P2.out _ hr1).mono ?_; rintro e w2 ⟨g2, cap2, rfl, hcap2, hg2, hgl2, hrs2, hB2⟩)
  have hB2' : Below w.heap.size w w2 := hB1'.trans (hB2.mono hB1'.size)
  have hgw : w.heap.size < w1.heap.size := by have := hg1; simp at this; omega
  have hc2 : w2.cell? ⟨w.heap.size, 1, none⟩ = some (.slice A n c) := (hB2.cell (p := ⟨w.heap.size, 1, none⟩) hgw).trans hc1
  have hrs1' := hrs1.below hB2
  have hgw2 : w.heap.size < w2.heap.size := Nat.lt_of_lt_of_le hgw hB2.size
  refine hK.out _ _ hc2 ?_
  clear hK hB2 hB1' hH hc1 hr1 hrs1 hr P1 P2 hg1 hgl1 hg2 hgl2 hgw
  have hH := hc2
  have hbl := Blk.new w2 26 [.slice (some ⟨g1, 0, none⟩) 6 cap1, .slice (some ⟨g2, 0, none⟩) (n + 4) cap2]
  have hA : Below w2.heap.size w2 (w2.alloc (.cells #[.slice (some ⟨g1, 0, none⟩) 6 cap1, .slice (some ⟨g2, 0, none⟩) (n + 4) cap2] 26)) := (Below.refl _ w2).alloc (Nat.le_refl _) _
  have hc3 := (hA.cell (p := ⟨w.heap.size, 1, none⟩) hgw2).trans hc2
  have hB3' := hB2'.trans (hA.mono hB2'.size)
  have C3 := Lib.hid (P3.out _ w2.heap.size g1 g2 cap1 cap2 (by simp) (hrs1'.below hA) (hrs2.below hA) (hbl.cell (j := 0) rfl) (hbl.cell (j := 1) rfl))
  have Hc3 := Lib.hid hc3
  clear hc3 hbl P3
  refine sch_call rfl rfl (fun K hK => ?_)
  go_wp2_with fail
  refine hK.out _ _ Hc3.out ?_
  clear hK hH
  refine sch_call rfl rfl (fun K hK => ?_)
  go_wp2_with (go_at_call 39; refine C3.out.mono ?_; rintro e w4 ⟨v, rfl, hown, hB4⟩)
  have hc4 : w4.cell? ⟨w.heap.size, 1, none⟩ = some (.slice A n c) := (hB4.cell (p := ⟨w.heap.size, 1, none⟩) (by simp; omega)).trans Hc3.out
  have hB4' := hB3'.trans (hB4.mono hB3'.size)
  obtain ⟨g, cap, rfl, hg, hlt, hcap, _⟩ := own_open hown (by omega)
  refine hK.out _ _ hc4 ?_
  clear hK
  have hH := hc4
  repeat (first | (refine sch_yes (v := ?_) rfl rfl ?_ hH ?_; rotate_left; (focus ((intro W hW; go_simp) <;> with_reducible rfl)); simp only [Act.put, List.setIfInBounds_toArray, List.set_cons_zero, List.set_cons_succ]) | (refine sch_no rfl rfl hH ?_; simp only [Act.put, List.setIfInBounds_toArray, List.set_cons_zero, List.set_cons_succ]))
  refine sch_done ?_
  go_wp2
  go_ret2
  exact ⟨g, cap, rfl, hcap, Nat.le_trans hB3'.size hg, hlt, Rd.own hown, hB4'⟩

set_option maxRecDepth 100000 in
set_option maxHeartbeats 1000000 in
theorem put_bad (k : Int) (A : Option Addr) (n c : Nat) (w : World) (h : ¬ (0 ≤ k ∧ k ≤ 255 ∧ n ≤ 255)) :
    Calls Tryd.prog 26 #[.agg #[.int .i64 k, .slice A n c]] w fun e w' => e = .returned (.tuple #[.slice none 0 0, .int .i64 1]) ∧ Below w.heap.size w w' := by
  have hor : decide (k < 0) = true ∨ (decide (k < 0) = false ∧ decide (255 < k) = true) ∨ (decide (k < 0) = false ∧ decide (255 < k) = false ∧ decide ((255 : Int) < (n : Int)) = true) := by
    simp only [decide_eq_true_eq, decide_eq_false_iff_not]; omega
  rcases hor with h0 | ⟨h0, h1⟩ | ⟨h0, h1, h2⟩
  all_goals
    go_enter Tryd.func26, Tryd.ntmps26
    go_wp2
    go_ret2
    exact ⟨rfl, (Below.refl _ w).alloc (Nat.le_refl _) _⟩
end Go.Proofs.YthhkkiegfcofjaaDoor
