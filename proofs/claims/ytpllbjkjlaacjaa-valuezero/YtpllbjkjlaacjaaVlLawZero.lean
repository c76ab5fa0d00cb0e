/- ValueZero's walk. -/
import Derived.Test.YtpllbjkjlaacjaaVlArg
import Derived.Test.YtpllbjkjlaacjaaSched
namespace Go.Proofs.Ytpllbjkjlaacjaa
open Go.RowKit

set_option maxRecDepth 100000 in
set_option maxHeartbeats 4000000 in
theorem valueZero_walk (w : World) (fs : Array Value) (f : ByteArray × Int × ByteArray) (hf : rVlFld (All w) w fs.toList f) (name : ByteArray) (_hna : name.size ≤ maxLen) (to : ByteArray) (_hto : to.size ≤ maxLen) (cs : Array Value) (x : Int × ByteArray × Int) (h : rVl (All w) w cs.toList x) :
    Calls Try.prog 6 #[.agg fs, .string name, .string to, .agg cs] w fun e w' => e = .returned (.bool true) ∧ Below w.heap.size w w' := by
  obtain ⟨rfl, -, -, hk⟩ := vl_fld_arg hf
  obtain ⟨rfl, hs, h0, h1⟩ := vl_val_arg h
  obtain ⟨a, k, b⟩ := f
  obtain ⟨n, s, r⟩ := x
  simp only at hs h0 h1 hk ⊢
  clear h hf hk hs h0 h1
  have HA := Lib.hid (VlArgs.start w a b s k n r)
  have T1 := Lib.hid (fun W => vlzero_any a b k W)
  have T2 := Lib.hid (fun W => vlfits_any a b ⟨#[]⟩ k 0 (zeroV k).2.2 W)
  have T3 := Lib.hid (fun W => vlfits_any a b s k n r W)
  have T4 := Lib.hid (fun W => vlfits_any name to s k n r W)
  have hz : fitsV k (0, byt ⟨#[]⟩, (zeroV k).2.2) = decide (0 ≤ k ∧ k ≤ 5) := by
    rw [← vl_fits_zero]
    congr 1
    unfold zeroV
    split <;> rfl
  by_cases hk0 : 0 ≤ k
  · have d0 : decide (0 ≤ k) = true := decide_eq_true hk0
    by_cases hk5 : k ≤ 5
    · have d1 : decide (k ≤ 5) = true := decide_eq_true hk5
      rw [decide_eq_true (by omega)] at hz
      rw [hz] at T2
      have hFF : ∀ F : Bool, (F == F) = true := fun F => by simp
      generalize fitsV k (n, byt s, r) = F at *
      have hF := hFF F
      clear hFF
      clear hz
      generalize (zeroV k).2.2 = z at *
      go_enter Try.func6, Try.ntmps6
      go_wp2_with fail
      refine (vlawake_any _).mono ?_
      rintro e w1 ⟨rfl, hC1⟩
      have A1 := HA.out.below hC1
      have A2 := A1.alloc (.cells #[.string name, .int .i64 k, .string to] 23)
      have g2 := Blk.new w1 23 [.string name, .int .i64 k, .string to]
      obtain ⟨⟨x0, x1, x2⟩, y0, y1, y2⟩ := A1.cells
      obtain ⟨⟨xx0, xx1, xx2⟩, yy0, yy1, yy2⟩ := A2.cells
      go_wp2_with fail
      clear x0 x1 x2 y0 y1 y2 xx0 xx1 xx2 yy0 yy1 yy2
      generalize w1.alloc (.cells #[.string name, .int .i64 k, .string to] 23) = w2 at *
      have HS : Hid (∀ W, Below w2.heap.size w2 W → ((W.cell? ⟨w.heap.size, 0, none⟩ = some (.string a) ∧ W.cell? ⟨w.heap.size, 1, none⟩ = some (.int .i64 k) ∧ W.cell? ⟨w.heap.size, 2, none⟩ = some (.string b)) ∧
          W.cell? ⟨w.heap.size + 1, 0, none⟩ = some (.int .i64 n) ∧ W.cell? ⟨w.heap.size + 1, 1, none⟩ = some (.string s) ∧ W.cell? ⟨w.heap.size + 1, 2, none⟩ = some (.int .i64 r)) ∧
          W.cell? ⟨w1.heap.size, 0, none⟩ = some (.string name) ∧ W.cell? ⟨w1.heap.size, 1, none⟩ = some (.int .i64 k) ∧ W.cell? ⟨w1.heap.size, 2, none⟩ = some (.string to)) := Lib.hid fun W hW =>
        ⟨(A2.below hW).cells, (g2.below g2.lt hW).cell rfl, (g2.below g2.lt hW).cell rfl, (g2.below g2.lt hW).cell rfl⟩
      have HB := Lib.hid A2.bel
      clear A1 A2 g2 hC1
      refine sch_start [(0, true), (1, true), (2, true), (3, true), (6, true), (4, false), (5, false), (7, true), (8, true), (9, true), (10, true), (11, true), (13, true), (14, true), (12, false), (15, false), (16, true), (17, true), (18, true), (19, true), (20, true), (21, true), (22, true), (23, false), (24, true), (25, true), (26, true), (27, true)]
        (fun W => ((W.cell? ⟨w.heap.size, 0, none⟩ = some (.string a) ∧ W.cell? ⟨w.heap.size, 1, none⟩ = some (.int .i64 k) ∧ W.cell? ⟨w.heap.size, 2, none⟩ = some (.string b)) ∧
          W.cell? ⟨w.heap.size + 1, 0, none⟩ = some (.int .i64 n) ∧ W.cell? ⟨w.heap.size + 1, 1, none⟩ = some (.string s) ∧ W.cell? ⟨w.heap.size + 1, 2, none⟩ = some (.int .i64 r)) ∧
          W.cell? ⟨w1.heap.size, 0, none⟩ = some (.string name) ∧ W.cell? ⟨w1.heap.size, 1, none⟩ = some (.int .i64 k) ∧ W.cell? ⟨w1.heap.size, 2, none⟩ = some (.string to))
        (by kernel_rfl) rfl (by kernel_rfl) (fun _ _ _ _ _ h => h) (HS.out _ (Below.refl _ w2).drew) (fun hH => ?_)
      have hD2 := (Below.refl w2.heap.size w2).drew
      repeat (first | (refine sch_yes (v := ?_) rfl rfl ?_ hH ?_; rotate_left; (focus ((rintro W ⟨⟨⟨x0, x1, x2⟩, y0, y1, y2⟩, z0, z1, z2⟩; go_simp) <;> with_reducible rfl)); simp only [Act.put, List.setIfInBounds_toArray, List.set_cons_zero, List.set_cons_succ]) | (refine sch_no rfl rfl hH ?_; simp only [Act.put, List.setIfInBounds_toArray, List.set_cons_zero, List.set_cons_succ]))
      refine sch_call rfl rfl (fun K hK => ?_)
      go_wp2_with (go_at_call 17; refine (T1.out _).mono ?_; rintro e w3 ⟨rfl, hC3⟩)
      have hD3 := hD2.trans (hC3.mono hD2.size)
      refine hK.out _ _ (HS.out _ hD3) ?_
      clear hK hH hD2 hC3
      have hH := HS.out _ hD3
      repeat (first | (refine sch_yes (v := ?_) rfl rfl ?_ hH ?_; rotate_left; (focus ((rintro W ⟨⟨⟨x0, x1, x2⟩, y0, y1, y2⟩, z0, z1, z2⟩; go_simp) <;> with_reducible rfl)); simp only [Act.put, List.setIfInBounds_toArray, List.set_cons_zero, List.set_cons_succ]) | (refine sch_no rfl rfl hH ?_; simp only [Act.put, List.setIfInBounds_toArray, List.set_cons_zero, List.set_cons_succ]))
      refine sch_call rfl rfl (fun K hK => ?_)
      go_wp2_with (go_at_call 16; refine (T2.out _).mono ?_; rintro e w4 ⟨rfl, hC4⟩)
      have hD4 := hD3.trans (hC4.mono hD3.size)
      refine hK.out _ _ (HS.out _ hD4) ?_
      clear hK hH hD3 hC4
      have hH := HS.out _ hD4
      repeat (first | (refine sch_yes (v := ?_) rfl rfl ?_ hH ?_; rotate_left; (focus ((rintro W ⟨⟨⟨x0, x1, x2⟩, y0, y1, y2⟩, z0, z1, z2⟩; go_simp) <;> with_reducible rfl)); simp only [Act.put, List.setIfInBounds_toArray, List.set_cons_zero, List.set_cons_succ]) | (refine sch_no rfl rfl hH ?_; simp only [Act.put, List.setIfInBounds_toArray, List.set_cons_zero, List.set_cons_succ]))
      refine sch_call rfl rfl (fun K hK => ?_)
      go_wp2_with (go_at_call 16; refine (T3.out _).mono ?_; rintro e w5 ⟨rfl, hC5⟩)
      have hD5 := hD4.trans (hC5.mono hD4.size)
      refine hK.out _ _ (HS.out _ hD5) ?_
      clear hK hH hD4 hC5
      have hH := HS.out _ hD5
      repeat (first | (refine sch_yes (v := ?_) rfl rfl ?_ hH ?_; rotate_left; (focus ((rintro W ⟨⟨⟨x0, x1, x2⟩, y0, y1, y2⟩, z0, z1, z2⟩; go_simp) <;> with_reducible rfl)); simp only [Act.put, List.setIfInBounds_toArray, List.set_cons_zero, List.set_cons_succ]) | (refine sch_no rfl rfl hH ?_; simp only [Act.put, List.setIfInBounds_toArray, List.set_cons_zero, List.set_cons_succ]))
      refine sch_call rfl rfl (fun K hK => ?_)
      go_wp2_with (go_at_call 16; refine (T4.out _).mono ?_; rintro e w6 ⟨rfl, hC6⟩)
      have hD6 := hD5.trans (hC6.mono hD5.size)
      refine hK.out _ _ (HS.out _ hD6) ?_
      clear hK hH hD5 hC6
      have hH := HS.out _ hD6
      repeat (first | (refine sch_yes (v := ?_) rfl rfl ?_ hH ?_; rotate_left; (focus ((rintro W ⟨⟨⟨x0, x1, x2⟩, y0, y1, y2⟩, z0, z1, z2⟩; go_simp) <;> with_reducible rfl)); simp only [Act.put, List.setIfInBounds_toArray, List.set_cons_zero, List.set_cons_succ]) | (refine sch_no rfl rfl hH ?_; simp only [Act.put, List.setIfInBounds_toArray, List.set_cons_zero, List.set_cons_succ]))
      refine sch_call_no rfl rfl hH ?_
      simp only [Act.put, List.setIfInBounds_toArray, List.set_cons_zero, List.set_cons_succ]
      repeat (first | (refine sch_yes (v := ?_) rfl rfl ?_ hH ?_; rotate_left; (focus ((rintro W ⟨⟨⟨x0, x1, x2⟩, y0, y1, y2⟩, z0, z1, z2⟩; go_simp) <;> with_reducible rfl)); simp only [Act.put, List.setIfInBounds_toArray, List.set_cons_zero, List.set_cons_succ]) | (refine sch_no rfl rfl hH ?_; simp only [Act.put, List.setIfInBounds_toArray, List.set_cons_zero, List.set_cons_succ]))
      refine sch_done ?_
      clear hH
      go_wp2
      go_ret
      exact ⟨rfl, HB.out.trans (hD6.mono HB.out.size)⟩
    · have d1 : decide (k ≤ 5) = false := decide_eq_false hk5
      rw [decide_eq_false (by omega)] at hz
      rw [hz] at T2
      rw [vl_fits_x (v := (n, byt s, r)) (by omega)] at T3 T4
      clear hz
      generalize (zeroV k).2.2 = z at *
      go_enter Try.func6, Try.ntmps6
      go_wp2_with fail
      refine (vlawake_any _).mono ?_
      rintro e w1 ⟨rfl, hC1⟩
      have A1 := HA.out.below hC1
      have A2 := A1.alloc (.cells #[.string name, .int .i64 k, .string to] 23)
      have g2 := Blk.new w1 23 [.string name, .int .i64 k, .string to]
      obtain ⟨⟨x0, x1, x2⟩, y0, y1, y2⟩ := A1.cells
      obtain ⟨⟨xx0, xx1, xx2⟩, yy0, yy1, yy2⟩ := A2.cells
      go_wp2_with fail
      clear x0 x1 x2 y0 y1 y2 xx0 xx1 xx2 yy0 yy1 yy2
      generalize w1.alloc (.cells #[.string name, .int .i64 k, .string to] 23) = w2 at *
      have HS : Hid (∀ W, Below w2.heap.size w2 W → ((W.cell? ⟨w.heap.size, 0, none⟩ = some (.string a) ∧ W.cell? ⟨w.heap.size, 1, none⟩ = some (.int .i64 k) ∧ W.cell? ⟨w.heap.size, 2, none⟩ = some (.string b)) ∧
          W.cell? ⟨w.heap.size + 1, 0, none⟩ = some (.int .i64 n) ∧ W.cell? ⟨w.heap.size + 1, 1, none⟩ = some (.string s) ∧ W.cell? ⟨w.heap.size + 1, 2, none⟩ = some (.int .i64 r)) ∧
          W.cell? ⟨w1.heap.size, 0, none⟩ = some (.string name) ∧ W.cell? ⟨w1.heap.size, 1, none⟩ = some (.int .i64 k) ∧ W.cell? ⟨w1.heap.size, 2, none⟩ = some (.string to)) := Lib.hid fun W hW =>
        ⟨(A2.below hW).cells, (g2.below g2.lt hW).cell rfl, (g2.below g2.lt hW).cell rfl, (g2.below g2.lt hW).cell rfl⟩
      have HB := Lib.hid A2.bel
      clear A1 A2 g2 hC1
      refine sch_start [(0, true), (1, true), (2, true), (3, true), (6, true), (4, false), (5, false), (7, true), (8, true), (9, true), (10, true), (11, true), (13, true), (14, true), (12, false), (15, false), (16, true), (17, true), (18, true), (19, true), (20, true), (21, true), (22, true), (23, false), (24, true), (25, true), (26, true), (27, true)]
        (fun W => ((W.cell? ⟨w.heap.size, 0, none⟩ = some (.string a) ∧ W.cell? ⟨w.heap.size, 1, none⟩ = some (.int .i64 k) ∧ W.cell? ⟨w.heap.size, 2, none⟩ = some (.string b)) ∧
          W.cell? ⟨w.heap.size + 1, 0, none⟩ = some (.int .i64 n) ∧ W.cell? ⟨w.heap.size + 1, 1, none⟩ = some (.string s) ∧ W.cell? ⟨w.heap.size + 1, 2, none⟩ = some (.int .i64 r)) ∧
          W.cell? ⟨w1.heap.size, 0, none⟩ = some (.string name) ∧ W.cell? ⟨w1.heap.size, 1, none⟩ = some (.int .i64 k) ∧ W.cell? ⟨w1.heap.size, 2, none⟩ = some (.string to))
        (by kernel_rfl) rfl (by kernel_rfl) (fun _ _ _ _ _ h => h) (HS.out _ (Below.refl _ w2).drew) (fun hH => ?_)
      have hD2 := (Below.refl w2.heap.size w2).drew
      repeat (first | (refine sch_yes (v := ?_) rfl rfl ?_ hH ?_; rotate_left; (focus ((rintro W ⟨⟨⟨x0, x1, x2⟩, y0, y1, y2⟩, z0, z1, z2⟩; go_simp) <;> with_reducible rfl)); simp only [Act.put, List.setIfInBounds_toArray, List.set_cons_zero, List.set_cons_succ]) | (refine sch_no rfl rfl hH ?_; simp only [Act.put, List.setIfInBounds_toArray, List.set_cons_zero, List.set_cons_succ]))
      refine sch_call rfl rfl (fun K hK => ?_)
      go_wp2_with (go_at_call 17; refine (T1.out _).mono ?_; rintro e w3 ⟨rfl, hC3⟩)
      have hD3 := hD2.trans (hC3.mono hD2.size)
      refine hK.out _ _ (HS.out _ hD3) ?_
      clear hK hH hD2 hC3
      have hH := HS.out _ hD3
      repeat (first | (refine sch_yes (v := ?_) rfl rfl ?_ hH ?_; rotate_left; (focus ((rintro W ⟨⟨⟨x0, x1, x2⟩, y0, y1, y2⟩, z0, z1, z2⟩; go_simp) <;> with_reducible rfl)); simp only [Act.put, List.setIfInBounds_toArray, List.set_cons_zero, List.set_cons_succ]) | (refine sch_no rfl rfl hH ?_; simp only [Act.put, List.setIfInBounds_toArray, List.set_cons_zero, List.set_cons_succ]))
      refine sch_call rfl rfl (fun K hK => ?_)
      go_wp2_with (go_at_call 16; refine (T2.out _).mono ?_; rintro e w4 ⟨rfl, hC4⟩)
      have hD4 := hD3.trans (hC4.mono hD3.size)
      refine hK.out _ _ (HS.out _ hD4) ?_
      clear hK hH hD3 hC4
      have hH := HS.out _ hD4
      repeat (first | (refine sch_yes (v := ?_) rfl rfl ?_ hH ?_; rotate_left; (focus ((rintro W ⟨⟨⟨x0, x1, x2⟩, y0, y1, y2⟩, z0, z1, z2⟩; go_simp) <;> with_reducible rfl)); simp only [Act.put, List.setIfInBounds_toArray, List.set_cons_zero, List.set_cons_succ]) | (refine sch_no rfl rfl hH ?_; simp only [Act.put, List.setIfInBounds_toArray, List.set_cons_zero, List.set_cons_succ]))
      refine sch_call rfl rfl (fun K hK => ?_)
      go_wp2_with (go_at_call 16; refine (T3.out _).mono ?_; rintro e w5 ⟨rfl, hC5⟩)
      have hD5 := hD4.trans (hC5.mono hD4.size)
      refine hK.out _ _ (HS.out _ hD5) ?_
      clear hK hH hD4 hC5
      have hH := HS.out _ hD5
      repeat (first | (refine sch_yes (v := ?_) rfl rfl ?_ hH ?_; rotate_left; (focus ((rintro W ⟨⟨⟨x0, x1, x2⟩, y0, y1, y2⟩, z0, z1, z2⟩; go_simp) <;> with_reducible rfl)); simp only [Act.put, List.setIfInBounds_toArray, List.set_cons_zero, List.set_cons_succ]) | (refine sch_no rfl rfl hH ?_; simp only [Act.put, List.setIfInBounds_toArray, List.set_cons_zero, List.set_cons_succ]))
      refine sch_call rfl rfl (fun K hK => ?_)
      go_wp2_with (go_at_call 16; refine (T4.out _).mono ?_; rintro e w6 ⟨rfl, hC6⟩)
      have hD6 := hD5.trans (hC6.mono hD5.size)
      refine hK.out _ _ (HS.out _ hD6) ?_
      clear hK hH hD5 hC6
      have hH := HS.out _ hD6
      repeat (first | (refine sch_yes (v := ?_) rfl rfl ?_ hH ?_; rotate_left; (focus ((rintro W ⟨⟨⟨x0, x1, x2⟩, y0, y1, y2⟩, z0, z1, z2⟩; go_simp) <;> with_reducible rfl)); simp only [Act.put, List.setIfInBounds_toArray, List.set_cons_zero, List.set_cons_succ]) | (refine sch_no rfl rfl hH ?_; simp only [Act.put, List.setIfInBounds_toArray, List.set_cons_zero, List.set_cons_succ]))
      refine sch_call rfl rfl (fun K hK => ?_)
      go_wp2_with (go_at_call 16; refine (T3.out _).mono ?_; rintro e w7 ⟨rfl, hC7⟩)
      have hD7 := hD6.trans (hC7.mono hD6.size)
      refine hK.out _ _ (HS.out _ hD7) ?_
      clear hK hH hD6 hC7
      have hH := HS.out _ hD7
      repeat (first | (refine sch_yes (v := ?_) rfl rfl ?_ hH ?_; rotate_left; (focus ((rintro W ⟨⟨⟨x0, x1, x2⟩, y0, y1, y2⟩, z0, z1, z2⟩; go_simp) <;> with_reducible rfl)); simp only [Act.put, List.setIfInBounds_toArray, List.set_cons_zero, List.set_cons_succ]) | (refine sch_no rfl rfl hH ?_; simp only [Act.put, List.setIfInBounds_toArray, List.set_cons_zero, List.set_cons_succ]))
      refine sch_done ?_
      clear hH
      go_wp2
      go_ret
      exact ⟨rfl, HB.out.trans (hD7.mono HB.out.size)⟩
  · have d0 : decide (0 ≤ k) = false := decide_eq_false hk0
    · rw [decide_eq_false (by omega)] at hz
      rw [hz] at T2
      rw [vl_fits_x (v := (n, byt s, r)) (by omega)] at T3 T4
      clear hz
      generalize (zeroV k).2.2 = z at *
      go_enter Try.func6, Try.ntmps6
      go_wp2_with fail
      refine (vlawake_any _).mono ?_
      rintro e w1 ⟨rfl, hC1⟩
      have A1 := HA.out.below hC1
      have A2 := A1.alloc (.cells #[.string name, .int .i64 k, .string to] 23)
      have g2 := Blk.new w1 23 [.string name, .int .i64 k, .string to]
      obtain ⟨⟨x0, x1, x2⟩, y0, y1, y2⟩ := A1.cells
      obtain ⟨⟨xx0, xx1, xx2⟩, yy0, yy1, yy2⟩ := A2.cells
      go_wp2_with fail
      clear x0 x1 x2 y0 y1 y2 xx0 xx1 xx2 yy0 yy1 yy2
      generalize w1.alloc (.cells #[.string name, .int .i64 k, .string to] 23) = w2 at *
      have HS : Hid (∀ W, Below w2.heap.size w2 W → ((W.cell? ⟨w.heap.size, 0, none⟩ = some (.string a) ∧ W.cell? ⟨w.heap.size, 1, none⟩ = some (.int .i64 k) ∧ W.cell? ⟨w.heap.size, 2, none⟩ = some (.string b)) ∧
          W.cell? ⟨w.heap.size + 1, 0, none⟩ = some (.int .i64 n) ∧ W.cell? ⟨w.heap.size + 1, 1, none⟩ = some (.string s) ∧ W.cell? ⟨w.heap.size + 1, 2, none⟩ = some (.int .i64 r)) ∧
          W.cell? ⟨w1.heap.size, 0, none⟩ = some (.string name) ∧ W.cell? ⟨w1.heap.size, 1, none⟩ = some (.int .i64 k) ∧ W.cell? ⟨w1.heap.size, 2, none⟩ = some (.string to)) := Lib.hid fun W hW =>
        ⟨(A2.below hW).cells, (g2.below g2.lt hW).cell rfl, (g2.below g2.lt hW).cell rfl, (g2.below g2.lt hW).cell rfl⟩
      have HB := Lib.hid A2.bel
      clear A1 A2 g2 hC1
      refine sch_start [(0, true), (1, true), (2, true), (3, true), (6, true), (4, false), (5, false), (7, true), (8, true), (9, true), (10, true), (11, true), (13, true), (14, true), (12, false), (15, false), (16, true), (17, true), (18, true), (19, true), (20, true), (21, true), (22, true), (23, false), (24, true), (25, true), (26, true), (27, true)]
        (fun W => ((W.cell? ⟨w.heap.size, 0, none⟩ = some (.string a) ∧ W.cell? ⟨w.heap.size, 1, none⟩ = some (.int .i64 k) ∧ W.cell? ⟨w.heap.size, 2, none⟩ = some (.string b)) ∧
          W.cell? ⟨w.heap.size + 1, 0, none⟩ = some (.int .i64 n) ∧ W.cell? ⟨w.heap.size + 1, 1, none⟩ = some (.string s) ∧ W.cell? ⟨w.heap.size + 1, 2, none⟩ = some (.int .i64 r)) ∧
          W.cell? ⟨w1.heap.size, 0, none⟩ = some (.string name) ∧ W.cell? ⟨w1.heap.size, 1, none⟩ = some (.int .i64 k) ∧ W.cell? ⟨w1.heap.size, 2, none⟩ = some (.string to))
        (by kernel_rfl) rfl (by kernel_rfl) (fun _ _ _ _ _ h => h) (HS.out _ (Below.refl _ w2).drew) (fun hH => ?_)
      have hD2 := (Below.refl w2.heap.size w2).drew
      repeat (first | (refine sch_yes (v := ?_) rfl rfl ?_ hH ?_; rotate_left; (focus ((rintro W ⟨⟨⟨x0, x1, x2⟩, y0, y1, y2⟩, z0, z1, z2⟩; go_simp) <;> with_reducible rfl)); simp only [Act.put, List.setIfInBounds_toArray, List.set_cons_zero, List.set_cons_succ]) | (refine sch_no rfl rfl hH ?_; simp only [Act.put, List.setIfInBounds_toArray, List.set_cons_zero, List.set_cons_succ]))
      refine sch_call rfl rfl (fun K hK => ?_)
      go_wp2_with (go_at_call 17; refine (T1.out _).mono ?_; rintro e w3 ⟨rfl, hC3⟩)
      have hD3 := hD2.trans (hC3.mono hD2.size)
      refine hK.out _ _ (HS.out _ hD3) ?_
      clear hK hH hD2 hC3
      have hH := HS.out _ hD3
      repeat (first | (refine sch_yes (v := ?_) rfl rfl ?_ hH ?_; rotate_left; (focus ((rintro W ⟨⟨⟨x0, x1, x2⟩, y0, y1, y2⟩, z0, z1, z2⟩; go_simp) <;> with_reducible rfl)); simp only [Act.put, List.setIfInBounds_toArray, List.set_cons_zero, List.set_cons_succ]) | (refine sch_no rfl rfl hH ?_; simp only [Act.put, List.setIfInBounds_toArray, List.set_cons_zero, List.set_cons_succ]))
      refine sch_call rfl rfl (fun K hK => ?_)
      go_wp2_with (go_at_call 16; refine (T2.out _).mono ?_; rintro e w4 ⟨rfl, hC4⟩)
      have hD4 := hD3.trans (hC4.mono hD3.size)
      refine hK.out _ _ (HS.out _ hD4) ?_
      clear hK hH hD3 hC4
      have hH := HS.out _ hD4
      repeat (first | (refine sch_yes (v := ?_) rfl rfl ?_ hH ?_; rotate_left; (focus ((rintro W ⟨⟨⟨x0, x1, x2⟩, y0, y1, y2⟩, z0, z1, z2⟩; go_simp) <;> with_reducible rfl)); simp only [Act.put, List.setIfInBounds_toArray, List.set_cons_zero, List.set_cons_succ]) | (refine sch_no rfl rfl hH ?_; simp only [Act.put, List.setIfInBounds_toArray, List.set_cons_zero, List.set_cons_succ]))
      refine sch_call rfl rfl (fun K hK => ?_)
      go_wp2_with (go_at_call 16; refine (T3.out _).mono ?_; rintro e w5 ⟨rfl, hC5⟩)
      have hD5 := hD4.trans (hC5.mono hD4.size)
      refine hK.out _ _ (HS.out _ hD5) ?_
      clear hK hH hD4 hC5
      have hH := HS.out _ hD5
      repeat (first | (refine sch_yes (v := ?_) rfl rfl ?_ hH ?_; rotate_left; (focus ((rintro W ⟨⟨⟨x0, x1, x2⟩, y0, y1, y2⟩, z0, z1, z2⟩; go_simp) <;> with_reducible rfl)); simp only [Act.put, List.setIfInBounds_toArray, List.set_cons_zero, List.set_cons_succ]) | (refine sch_no rfl rfl hH ?_; simp only [Act.put, List.setIfInBounds_toArray, List.set_cons_zero, List.set_cons_succ]))
      refine sch_call rfl rfl (fun K hK => ?_)
      go_wp2_with (go_at_call 16; refine (T4.out _).mono ?_; rintro e w6 ⟨rfl, hC6⟩)
      have hD6 := hD5.trans (hC6.mono hD5.size)
      refine hK.out _ _ (HS.out _ hD6) ?_
      clear hK hH hD5 hC6
      have hH := HS.out _ hD6
      repeat (first | (refine sch_yes (v := ?_) rfl rfl ?_ hH ?_; rotate_left; (focus ((rintro W ⟨⟨⟨x0, x1, x2⟩, y0, y1, y2⟩, z0, z1, z2⟩; go_simp) <;> with_reducible rfl)); simp only [Act.put, List.setIfInBounds_toArray, List.set_cons_zero, List.set_cons_succ]) | (refine sch_no rfl rfl hH ?_; simp only [Act.put, List.setIfInBounds_toArray, List.set_cons_zero, List.set_cons_succ]))
      refine sch_call rfl rfl (fun K hK => ?_)
      go_wp2_with (go_at_call 16; refine (T3.out _).mono ?_; rintro e w7 ⟨rfl, hC7⟩)
      have hD7 := hD6.trans (hC7.mono hD6.size)
      refine hK.out _ _ (HS.out _ hD7) ?_
      clear hK hH hD6 hC7
      have hH := HS.out _ hD7
      repeat (first | (refine sch_yes (v := ?_) rfl rfl ?_ hH ?_; rotate_left; (focus ((rintro W ⟨⟨⟨x0, x1, x2⟩, y0, y1, y2⟩, z0, z1, z2⟩; go_simp) <;> with_reducible rfl)); simp only [Act.put, List.setIfInBounds_toArray, List.set_cons_zero, List.set_cons_succ]) | (refine sch_no rfl rfl hH ?_; simp only [Act.put, List.setIfInBounds_toArray, List.set_cons_zero, List.set_cons_succ]))
      refine sch_done ?_
      clear hH
      go_wp2
      go_ret
      exact ⟨rfl, HB.out.trans (hD7.mono HB.out.size)⟩
end Go.Proofs.Ytpllbjkjlaacjaa
