/- ValueEnds' walk (its cases written by a program: where the number lies). -/
import Derived.Test.YtpllbjkjlaacjaaVlAwake
namespace Go.Proofs.Ytpllbjkjlaacjaa
open Go.RowKit

set_option maxRecDepth 100000 in
set_option maxHeartbeats 4000000 in
theorem valueEnds_walk (w : World) (n : Int) (h0 : -9223372036854775808 ≤ n) (h1 : n ≤ 9223372036854775807) (s : ByteArray) (hs : s.size ≤ maxLen) :
    Calls Try.prog 9 #[.int .i64 n, .string s] w fun e w' => e = .returned (.bool true) ∧ Below w.heap.size w w' := by
  simp only [maxLen] at hs
  by_cases h300 : s.size ≤ 300
  · have h300' : decide ((300 : Int) < (s.size : Int)) = false := decide_eq_false (by omega)
    have hq : decide ((s.size : Int) ≤ 12) = decide (s.size ≤ 12) := decide_eq_decide.2 (by omega)
    have T0 := Lib.hid (fun W => vlfits_any ⟨#[]⟩ ⟨#[]⟩ ⟨#[]⟩ 0 n 0 W)
    have T1 := Lib.hid (fun W => vlfits_any ⟨#[]⟩ ⟨#[]⟩ ⟨#[]⟩ 1 n 0 W)
    have T2 := Lib.hid (fun W => vlfits_any ⟨#[]⟩ ⟨#[]⟩ ⟨#[]⟩ 2 n 0 W)
    have T3 := Lib.hid (fun W => vlfits_any ⟨#[]⟩ ⟨#[]⟩ ⟨#[]⟩ 3 n 0 W)
    have T4 := Lib.hid (fun W => vlfits_any ⟨#[]⟩ ⟨#[]⟩ s 4 0 0 W)
    rw [vl_fits_0] at T0
    rw [vl_fits_1] at T1
    rw [vl_fits_2] at T2
    rw [show fitsV 3 (n, byt ⟨#[]⟩, 0) = true by rw [vl_fits_3]; exact decide_eq_true ⟨rfl, rfl⟩] at T3
    rw [show fitsV 4 (0, byt s, 0) = decide (s.size ≤ 12) by rw [vl_fits_4]; exact decide_eq_decide.2 ⟨fun h => by have := h.1; rwa [byt_length] at this, fun h => ⟨by rwa [byt_length], rfl, rfl⟩⟩] at T4
    simp only [byt_nil] at T0 T1 T2
    generalize decide (s.size ≤ 12) = q at *
    rcases (by omega : (n < -2147483648) ∨ (-2147483648 ≤ n ∧ n < -32768) ∨ (-32768 ≤ n ∧ n < -128) ∨ (-128 ≤ n ∧ n ≤ 127) ∨ (127 < n ∧ n ≤ 32767) ∨ (32767 < n ∧ n ≤ 2147483647) ∨ (2147483647 < n)) with hc | hc | hc | hc | hc | hc | hc
    · rw [decide_eq_false (by simp only [and_true]; omega)] at T0
      have a0 : decide (-128 ≤ n) = false := decide_eq_false (by omega)
      have b0 : decide (n ≤ 127) = true := decide_eq_true (by omega)
      rw [decide_eq_false (by simp only [and_true]; omega)] at T1
      have a1 : decide (-32768 ≤ n) = false := decide_eq_false (by omega)
      have b1 : decide (n ≤ 32767) = true := decide_eq_true (by omega)
      rw [decide_eq_false (by simp only [and_true]; omega)] at T2
      have a2 : decide (-2147483648 ≤ n) = false := decide_eq_false (by omega)
      have b2 : decide (n ≤ 2147483647) = true := decide_eq_true (by omega)
      clear hc h0 h1
      go_enter Try.func9, Try.ntmps9
      go_wp2_with fail
      refine (vlawake_any _).mono ?_
      rintro e w1 ⟨rfl, hB1⟩
      have hB2 := hB1.alloc hB1.size (.cells #[.int .i64 n, .string ⟨#[]⟩, .int .i64 0] 25)
      have v2 := Blk.new w1 25 [.int .i64 n, .string ⟨#[]⟩, .int .i64 0]
      go_wp2_with fail
      refine (T0.out _).mono ?_
      rintro e w3 ⟨rfl, hC3⟩
      have hB3 := hB2.trans (hC3.mono hB2.size)
      have v3 := v2.below v2.lt hC3
      have y0 := v3.cell (j := 0) rfl
      have y1 := v3.cell (j := 1) rfl
      have y2 := v3.cell (j := 2) rfl
      clear hC3 hB2 v2
      go_wp2_with fail
      refine (T1.out _).mono ?_
      rintro e w4 ⟨rfl, hC4⟩
      have hB4 := hB3.trans (hC4.mono hB3.size)
      have v4 := v3.below v3.lt hC4
      clear y0 y1 y2
      have y0 := v4.cell (j := 0) rfl
      have y1 := v4.cell (j := 1) rfl
      have y2 := v4.cell (j := 2) rfl
      clear hC4 hB3 v3
      go_wp2_with fail
      refine (T2.out _).mono ?_
      rintro e w5 ⟨rfl, hC5⟩
      have hB5 := hB4.trans (hC5.mono hB4.size)
      have v5 := v4.below v4.lt hC5
      clear y0 y1 y2
      have y0 := v5.cell (j := 0) rfl
      have y1 := v5.cell (j := 1) rfl
      have y2 := v5.cell (j := 2) rfl
      clear hC5 hB4 v4
      go_wp2_with fail
      refine (T3.out _).mono ?_
      rintro e w6 ⟨rfl, hC6⟩
      have hB6 := hB5.trans (hC6.mono hB5.size)
      have v6 := v5.below v5.lt hC6
      clear y0 y1 y2
      have y0 := v6.cell (j := 0) rfl
      have y1 := v6.cell (j := 1) rfl
      have y2 := v6.cell (j := 2) rfl
      clear hC6 hB5 v5
      go_wp2_with fail
      refine (T4.out _).mono ?_
      rintro e w7 ⟨rfl, hC7⟩
      go_wp2
      go_ret
      exact ⟨rfl, hB6.trans (hC7.mono hB6.size)⟩
    · rw [decide_eq_false (by simp only [and_true]; omega)] at T0
      have a0 : decide (-128 ≤ n) = false := decide_eq_false (by omega)
      have b0 : decide (n ≤ 127) = true := decide_eq_true (by omega)
      rw [decide_eq_false (by simp only [and_true]; omega)] at T1
      have a1 : decide (-32768 ≤ n) = false := decide_eq_false (by omega)
      have b1 : decide (n ≤ 32767) = true := decide_eq_true (by omega)
      rw [decide_eq_true (by simp only [and_true]; omega)] at T2
      have a2 : decide (-2147483648 ≤ n) = true := decide_eq_true (by omega)
      have b2 : decide (n ≤ 2147483647) = true := decide_eq_true (by omega)
      clear hc h0 h1
      go_enter Try.func9, Try.ntmps9
      go_wp2_with fail
      refine (vlawake_any _).mono ?_
      rintro e w1 ⟨rfl, hB1⟩
      have hB2 := hB1.alloc hB1.size (.cells #[.int .i64 n, .string ⟨#[]⟩, .int .i64 0] 25)
      have v2 := Blk.new w1 25 [.int .i64 n, .string ⟨#[]⟩, .int .i64 0]
      go_wp2_with fail
      refine (T0.out _).mono ?_
      rintro e w3 ⟨rfl, hC3⟩
      have hB3 := hB2.trans (hC3.mono hB2.size)
      have v3 := v2.below v2.lt hC3
      have y0 := v3.cell (j := 0) rfl
      have y1 := v3.cell (j := 1) rfl
      have y2 := v3.cell (j := 2) rfl
      clear hC3 hB2 v2
      go_wp2_with fail
      refine (T1.out _).mono ?_
      rintro e w4 ⟨rfl, hC4⟩
      have hB4 := hB3.trans (hC4.mono hB3.size)
      have v4 := v3.below v3.lt hC4
      clear y0 y1 y2
      have y0 := v4.cell (j := 0) rfl
      have y1 := v4.cell (j := 1) rfl
      have y2 := v4.cell (j := 2) rfl
      clear hC4 hB3 v3
      go_wp2_with fail
      refine (T2.out _).mono ?_
      rintro e w5 ⟨rfl, hC5⟩
      have hB5 := hB4.trans (hC5.mono hB4.size)
      have v5 := v4.below v4.lt hC5
      clear y0 y1 y2
      have y0 := v5.cell (j := 0) rfl
      have y1 := v5.cell (j := 1) rfl
      have y2 := v5.cell (j := 2) rfl
      clear hC5 hB4 v4
      go_wp2_with fail
      refine (T3.out _).mono ?_
      rintro e w6 ⟨rfl, hC6⟩
      have hB6 := hB5.trans (hC6.mono hB5.size)
      have v6 := v5.below v5.lt hC6
      clear y0 y1 y2
      have y0 := v6.cell (j := 0) rfl
      have y1 := v6.cell (j := 1) rfl
      have y2 := v6.cell (j := 2) rfl
      clear hC6 hB5 v5
      go_wp2_with fail
      refine (T4.out _).mono ?_
      rintro e w7 ⟨rfl, hC7⟩
      go_wp2
      go_ret
      exact ⟨rfl, hB6.trans (hC7.mono hB6.size)⟩
    · rw [decide_eq_false (by simp only [and_true]; omega)] at T0
      have a0 : decide (-128 ≤ n) = false := decide_eq_false (by omega)
      have b0 : decide (n ≤ 127) = true := decide_eq_true (by omega)
      rw [decide_eq_true (by simp only [and_true]; omega)] at T1
      have a1 : decide (-32768 ≤ n) = true := decide_eq_true (by omega)
      have b1 : decide (n ≤ 32767) = true := decide_eq_true (by omega)
      rw [decide_eq_true (by simp only [and_true]; omega)] at T2
      have a2 : decide (-2147483648 ≤ n) = true := decide_eq_true (by omega)
      have b2 : decide (n ≤ 2147483647) = true := decide_eq_true (by omega)
      clear hc h0 h1
      go_enter Try.func9, Try.ntmps9
      go_wp2_with fail
      refine (vlawake_any _).mono ?_
      rintro e w1 ⟨rfl, hB1⟩
      have hB2 := hB1.alloc hB1.size (.cells #[.int .i64 n, .string ⟨#[]⟩, .int .i64 0] 25)
      have v2 := Blk.new w1 25 [.int .i64 n, .string ⟨#[]⟩, .int .i64 0]
      go_wp2_with fail
      refine (T0.out _).mono ?_
      rintro e w3 ⟨rfl, hC3⟩
      have hB3 := hB2.trans (hC3.mono hB2.size)
      have v3 := v2.below v2.lt hC3
      have y0 := v3.cell (j := 0) rfl
      have y1 := v3.cell (j := 1) rfl
      have y2 := v3.cell (j := 2) rfl
      clear hC3 hB2 v2
      go_wp2_with fail
      refine (T1.out _).mono ?_
      rintro e w4 ⟨rfl, hC4⟩
      have hB4 := hB3.trans (hC4.mono hB3.size)
      have v4 := v3.below v3.lt hC4
      clear y0 y1 y2
      have y0 := v4.cell (j := 0) rfl
      have y1 := v4.cell (j := 1) rfl
      have y2 := v4.cell (j := 2) rfl
      clear hC4 hB3 v3
      go_wp2_with fail
      refine (T2.out _).mono ?_
      rintro e w5 ⟨rfl, hC5⟩
      have hB5 := hB4.trans (hC5.mono hB4.size)
      have v5 := v4.below v4.lt hC5
      clear y0 y1 y2
      have y0 := v5.cell (j := 0) rfl
      have y1 := v5.cell (j := 1) rfl
      have y2 := v5.cell (j := 2) rfl
      clear hC5 hB4 v4
      go_wp2_with fail
      refine (T3.out _).mono ?_
      rintro e w6 ⟨rfl, hC6⟩
      have hB6 := hB5.trans (hC6.mono hB5.size)
      have v6 := v5.below v5.lt hC6
      clear y0 y1 y2
      have y0 := v6.cell (j := 0) rfl
      have y1 := v6.cell (j := 1) rfl
      have y2 := v6.cell (j := 2) rfl
      clear hC6 hB5 v5
      go_wp2_with fail
      refine (T4.out _).mono ?_
      rintro e w7 ⟨rfl, hC7⟩
      go_wp2
      go_ret
      exact ⟨rfl, hB6.trans (hC7.mono hB6.size)⟩
    · rw [decide_eq_true (by simp only [and_true]; omega)] at T0
      have a0 : decide (-128 ≤ n) = true := decide_eq_true (by omega)
      have b0 : decide (n ≤ 127) = true := decide_eq_true (by omega)
      rw [decide_eq_true (by simp only [and_true]; omega)] at T1
      have a1 : decide (-32768 ≤ n) = true := decide_eq_true (by omega)
      have b1 : decide (n ≤ 32767) = true := decide_eq_true (by omega)
      rw [decide_eq_true (by simp only [and_true]; omega)] at T2
      have a2 : decide (-2147483648 ≤ n) = true := decide_eq_true (by omega)
      have b2 : decide (n ≤ 2147483647) = true := decide_eq_true (by omega)
      clear hc h0 h1
      go_enter Try.func9, Try.ntmps9
      go_wp2_with fail
      refine (vlawake_any _).mono ?_
      rintro e w1 ⟨rfl, hB1⟩
      have hB2 := hB1.alloc hB1.size (.cells #[.int .i64 n, .string ⟨#[]⟩, .int .i64 0] 25)
      have v2 := Blk.new w1 25 [.int .i64 n, .string ⟨#[]⟩, .int .i64 0]
      go_wp2_with fail
      refine (T0.out _).mono ?_
      rintro e w3 ⟨rfl, hC3⟩
      have hB3 := hB2.trans (hC3.mono hB2.size)
      have v3 := v2.below v2.lt hC3
      have y0 := v3.cell (j := 0) rfl
      have y1 := v3.cell (j := 1) rfl
      have y2 := v3.cell (j := 2) rfl
      clear hC3 hB2 v2
      go_wp2_with fail
      refine (T1.out _).mono ?_
      rintro e w4 ⟨rfl, hC4⟩
      have hB4 := hB3.trans (hC4.mono hB3.size)
      have v4 := v3.below v3.lt hC4
      clear y0 y1 y2
      have y0 := v4.cell (j := 0) rfl
      have y1 := v4.cell (j := 1) rfl
      have y2 := v4.cell (j := 2) rfl
      clear hC4 hB3 v3
      go_wp2_with fail
      refine (T2.out _).mono ?_
      rintro e w5 ⟨rfl, hC5⟩
      have hB5 := hB4.trans (hC5.mono hB4.size)
      have v5 := v4.below v4.lt hC5
      clear y0 y1 y2
      have y0 := v5.cell (j := 0) rfl
      have y1 := v5.cell (j := 1) rfl
      have y2 := v5.cell (j := 2) rfl
      clear hC5 hB4 v4
      go_wp2_with fail
      refine (T3.out _).mono ?_
      rintro e w6 ⟨rfl, hC6⟩
      have hB6 := hB5.trans (hC6.mono hB5.size)
      have v6 := v5.below v5.lt hC6
      clear y0 y1 y2
      have y0 := v6.cell (j := 0) rfl
      have y1 := v6.cell (j := 1) rfl
      have y2 := v6.cell (j := 2) rfl
      clear hC6 hB5 v5
      go_wp2_with fail
      refine (T4.out _).mono ?_
      rintro e w7 ⟨rfl, hC7⟩
      go_wp2
      go_ret
      exact ⟨rfl, hB6.trans (hC7.mono hB6.size)⟩
    · rw [decide_eq_false (by simp only [and_true]; omega)] at T0
      have a0 : decide (-128 ≤ n) = true := decide_eq_true (by omega)
      have b0 : decide (n ≤ 127) = false := decide_eq_false (by omega)
      rw [decide_eq_true (by simp only [and_true]; omega)] at T1
      have a1 : decide (-32768 ≤ n) = true := decide_eq_true (by omega)
      have b1 : decide (n ≤ 32767) = true := decide_eq_true (by omega)
      rw [decide_eq_true (by simp only [and_true]; omega)] at T2
      have a2 : decide (-2147483648 ≤ n) = true := decide_eq_true (by omega)
      have b2 : decide (n ≤ 2147483647) = true := decide_eq_true (by omega)
      clear hc h0 h1
      go_enter Try.func9, Try.ntmps9
      go_wp2_with fail
      refine (vlawake_any _).mono ?_
      rintro e w1 ⟨rfl, hB1⟩
      have hB2 := hB1.alloc hB1.size (.cells #[.int .i64 n, .string ⟨#[]⟩, .int .i64 0] 25)
      have v2 := Blk.new w1 25 [.int .i64 n, .string ⟨#[]⟩, .int .i64 0]
      go_wp2_with fail
      refine (T0.out _).mono ?_
      rintro e w3 ⟨rfl, hC3⟩
      have hB3 := hB2.trans (hC3.mono hB2.size)
      have v3 := v2.below v2.lt hC3
      have y0 := v3.cell (j := 0) rfl
      have y1 := v3.cell (j := 1) rfl
      have y2 := v3.cell (j := 2) rfl
      clear hC3 hB2 v2
      go_wp2_with fail
      refine (T1.out _).mono ?_
      rintro e w4 ⟨rfl, hC4⟩
      have hB4 := hB3.trans (hC4.mono hB3.size)
      have v4 := v3.below v3.lt hC4
      clear y0 y1 y2
      have y0 := v4.cell (j := 0) rfl
      have y1 := v4.cell (j := 1) rfl
      have y2 := v4.cell (j := 2) rfl
      clear hC4 hB3 v3
      go_wp2_with fail
      refine (T2.out _).mono ?_
      rintro e w5 ⟨rfl, hC5⟩
      have hB5 := hB4.trans (hC5.mono hB4.size)
      have v5 := v4.below v4.lt hC5
      clear y0 y1 y2
      have y0 := v5.cell (j := 0) rfl
      have y1 := v5.cell (j := 1) rfl
      have y2 := v5.cell (j := 2) rfl
      clear hC5 hB4 v4
      go_wp2_with fail
      refine (T3.out _).mono ?_
      rintro e w6 ⟨rfl, hC6⟩
      have hB6 := hB5.trans (hC6.mono hB5.size)
      have v6 := v5.below v5.lt hC6
      clear y0 y1 y2
      have y0 := v6.cell (j := 0) rfl
      have y1 := v6.cell (j := 1) rfl
      have y2 := v6.cell (j := 2) rfl
      clear hC6 hB5 v5
      go_wp2_with fail
      refine (T4.out _).mono ?_
      rintro e w7 ⟨rfl, hC7⟩
      go_wp2
      go_ret
      exact ⟨rfl, hB6.trans (hC7.mono hB6.size)⟩
    · rw [decide_eq_false (by simp only [and_true]; omega)] at T0
      have a0 : decide (-128 ≤ n) = true := decide_eq_true (by omega)
      have b0 : decide (n ≤ 127) = false := decide_eq_false (by omega)
      rw [decide_eq_false (by simp only [and_true]; omega)] at T1
      have a1 : decide (-32768 ≤ n) = true := decide_eq_true (by omega)
      have b1 : decide (n ≤ 32767) = false := decide_eq_false (by omega)
      rw [decide_eq_true (by simp only [and_true]; omega)] at T2
      have a2 : decide (-2147483648 ≤ n) = true := decide_eq_true (by omega)
      have b2 : decide (n ≤ 2147483647) = true := decide_eq_true (by omega)
      clear hc h0 h1
      go_enter Try.func9, Try.ntmps9
      go_wp2_with fail
      refine (vlawake_any _).mono ?_
      rintro e w1 ⟨rfl, hB1⟩
      have hB2 := hB1.alloc hB1.size (.cells #[.int .i64 n, .string ⟨#[]⟩, .int .i64 0] 25)
      have v2 := Blk.new w1 25 [.int .i64 n, .string ⟨#[]⟩, .int .i64 0]
      go_wp2_with fail
      refine (T0.out _).mono ?_
      rintro e w3 ⟨rfl, hC3⟩
      have hB3 := hB2.trans (hC3.mono hB2.size)
      have v3 := v2.below v2.lt hC3
      have y0 := v3.cell (j := 0) rfl
      have y1 := v3.cell (j := 1) rfl
      have y2 := v3.cell (j := 2) rfl
      clear hC3 hB2 v2
      go_wp2_with fail
      refine (T1.out _).mono ?_
      rintro e w4 ⟨rfl, hC4⟩
      have hB4 := hB3.trans (hC4.mono hB3.size)
      have v4 := v3.below v3.lt hC4
      clear y0 y1 y2
      have y0 := v4.cell (j := 0) rfl
      have y1 := v4.cell (j := 1) rfl
      have y2 := v4.cell (j := 2) rfl
      clear hC4 hB3 v3
      go_wp2_with fail
      refine (T2.out _).mono ?_
      rintro e w5 ⟨rfl, hC5⟩
      have hB5 := hB4.trans (hC5.mono hB4.size)
      have v5 := v4.below v4.lt hC5
      clear y0 y1 y2
      have y0 := v5.cell (j := 0) rfl
      have y1 := v5.cell (j := 1) rfl
      have y2 := v5.cell (j := 2) rfl
      clear hC5 hB4 v4
      go_wp2_with fail
      refine (T3.out _).mono ?_
      rintro e w6 ⟨rfl, hC6⟩
      have hB6 := hB5.trans (hC6.mono hB5.size)
      have v6 := v5.below v5.lt hC6
      clear y0 y1 y2
      have y0 := v6.cell (j := 0) rfl
      have y1 := v6.cell (j := 1) rfl
      have y2 := v6.cell (j := 2) rfl
      clear hC6 hB5 v5
      go_wp2_with fail
      refine (T4.out _).mono ?_
      rintro e w7 ⟨rfl, hC7⟩
      go_wp2
      go_ret
      exact ⟨rfl, hB6.trans (hC7.mono hB6.size)⟩
    · rw [decide_eq_false (by simp only [and_true]; omega)] at T0
      have a0 : decide (-128 ≤ n) = true := decide_eq_true (by omega)
      have b0 : decide (n ≤ 127) = false := decide_eq_false (by omega)
      rw [decide_eq_false (by simp only [and_true]; omega)] at T1
      have a1 : decide (-32768 ≤ n) = true := decide_eq_true (by omega)
      have b1 : decide (n ≤ 32767) = false := decide_eq_false (by omega)
      rw [decide_eq_false (by simp only [and_true]; omega)] at T2
      have a2 : decide (-2147483648 ≤ n) = true := decide_eq_true (by omega)
      have b2 : decide (n ≤ 2147483647) = false := decide_eq_false (by omega)
      clear hc h0 h1
      go_enter Try.func9, Try.ntmps9
      go_wp2_with fail
      refine (vlawake_any _).mono ?_
      rintro e w1 ⟨rfl, hB1⟩
      have hB2 := hB1.alloc hB1.size (.cells #[.int .i64 n, .string ⟨#[]⟩, .int .i64 0] 25)
      have v2 := Blk.new w1 25 [.int .i64 n, .string ⟨#[]⟩, .int .i64 0]
      go_wp2_with fail
      refine (T0.out _).mono ?_
      rintro e w3 ⟨rfl, hC3⟩
      have hB3 := hB2.trans (hC3.mono hB2.size)
      have v3 := v2.below v2.lt hC3
      have y0 := v3.cell (j := 0) rfl
      have y1 := v3.cell (j := 1) rfl
      have y2 := v3.cell (j := 2) rfl
      clear hC3 hB2 v2
      go_wp2_with fail
      refine (T1.out _).mono ?_
      rintro e w4 ⟨rfl, hC4⟩
      have hB4 := hB3.trans (hC4.mono hB3.size)
      have v4 := v3.below v3.lt hC4
      clear y0 y1 y2
      have y0 := v4.cell (j := 0) rfl
      have y1 := v4.cell (j := 1) rfl
      have y2 := v4.cell (j := 2) rfl
      clear hC4 hB3 v3
      go_wp2_with fail
      refine (T2.out _).mono ?_
      rintro e w5 ⟨rfl, hC5⟩
      have hB5 := hB4.trans (hC5.mono hB4.size)
      have v5 := v4.below v4.lt hC5
      clear y0 y1 y2
      have y0 := v5.cell (j := 0) rfl
      have y1 := v5.cell (j := 1) rfl
      have y2 := v5.cell (j := 2) rfl
      clear hC5 hB4 v4
      go_wp2_with fail
      refine (T3.out _).mono ?_
      rintro e w6 ⟨rfl, hC6⟩
      have hB6 := hB5.trans (hC6.mono hB5.size)
      have v6 := v5.below v5.lt hC6
      clear y0 y1 y2
      have y0 := v6.cell (j := 0) rfl
      have y1 := v6.cell (j := 1) rfl
      have y2 := v6.cell (j := 2) rfl
      clear hC6 hB5 v5
      go_wp2_with fail
      refine (T4.out _).mono ?_
      rintro e w7 ⟨rfl, hC7⟩
      go_wp2
      go_ret
      exact ⟨rfl, hB6.trans (hC7.mono hB6.size)⟩
  · have h300' : decide ((300 : Int) < (s.size : Int)) = true := decide_eq_true (by omega)
    go_enter Try.func9, Try.ntmps9
    go_wp2_with fail
    refine (vlawake_any _).mono ?_
    rintro e w1 ⟨rfl, hB1⟩
    go_wp2
    go_ret
    exact ⟨rfl, hB1⟩
end Go.Proofs.Ytpllbjkjlaacjaa
