/- ValueWide's walk. -/
import Derived.Test.YtpllbjkjlaacjaaVlArg
namespace Go.Proofs.Ytpllbjkjlaacjaa
open Go.RowKit

set_option maxRecDepth 100000 in
set_option maxHeartbeats 2000000 in
theorem valueWide_walk (w : World) (cs : Array Value) (x : Int × ByteArray × Int) (h : rVl (All w) w cs.toList x) (k : Int) (k0 : -9223372036854775808 ≤ k) (k1 : k ≤ 9223372036854775807) (m : Int) (m0 : -9223372036854775808 ≤ m) (m1 : m ≤ 9223372036854775807) :
    Calls Try.prog 5 #[.agg cs, .int .i64 k, .int .i64 m] w fun e w' => e = .returned (.bool true) ∧ Below w.heap.size w w' := by
  obtain ⟨rfl, hs, h0, h1⟩ := vl_val_arg h
  obtain ⟨n, s, r⟩ := x
  simp only at hs h0 h1 ⊢
  simp only [maxLen] at hs
  clear h
  have b0 := Blk.new w 25 [.int .i64 n, .string s, .int .i64 r]
  have hB0 := (Below.refl w.heap.size w).alloc (Nat.le_refl _) (.cells #[.int .i64 n, .string s, .int .i64 r] 25)
  have HB0 := Lib.hid hB0
  clear hB0
  by_cases hin : 0 ≤ k ∧ m ≤ 3 ∧ k ≤ m ∧ s.size ≤ 300
  · obtain ⟨i0, i1, i2, i3⟩ := hin
    have d0 : decide (k < 0) = false := decide_eq_false (by omega)
    have d1 : decide (3 < m) = false := decide_eq_false (by omega)
    have d2 : decide (m < k) = false := decide_eq_false (by omega)
    have d3 : decide ((300 : Int) < (s.size : Int)) = false := decide_eq_false (by omega)
    have T1 := Lib.hid (fun W => vlput_sl ⟨#[]⟩ ⟨#[]⟩ s k n r W h0 h1)
    have T2 := Lib.hid (fun W => vlput_sl ⟨#[]⟩ ⟨#[]⟩ s m n r W h0 h1)
    have Hw := Lib.hid (fun hf => vl_fits_wide (v := (n, byt s, r)) i0 i2 i1 hf)
    have HL := Lib.hid (putVF_len (k := k) (vl_ok (r := r) (s := s) h0 h1))
    cases hf : fitsV k (n, byt s, r)
    · rw [hf] at T1
      generalize putVF k (n, byt s, r) = L1 at *
      generalize putVF m (n, byt s, r) = L2 at *
      generalize fitsV m (n, byt s, r) = F2 at *
      clear hf Hw HL
      go_enter Try.func5, Try.ntmps5
      go_wp2_with fail
      refine (vlawake_any _).mono ?_
      rintro e w1 ⟨rfl, hC1⟩
      have b1 := b0.below b0.lt hC1
      have hB1 := HB0.out.trans (hC1.mono HB0.out.size)
      have y0 := b1.cell (j := 0) rfl
      have y1 := b1.cell (j := 1) rfl
      have y2 := b1.cell (j := 2) rfl
      clear hC1 b0
      go_wp2_with fail
      refine (T1.out _).mono ?_
      rintro e w2 ⟨A2, c2, rfl, hc2, hr2, hC2⟩
      have b2 := b1.below b1.lt hC2
      have hB2 := hB1.trans (hC2.mono hB1.size)
      clear y0 y1 y2 hC2 b1 hB1
      have y0 := b2.cell (j := 0) rfl
      have y1 := b2.cell (j := 1) rfl
      have y2 := b2.cell (j := 2) rfl
      go_wp2_with fail
      refine (T2.out _).mono ?_
      rintro e w3 ⟨A3, c3, rfl, hc3, hr3, hC3⟩
      have hB3 := hB2.trans (hC3.mono hB2.size)
      clear y0 y1 y2 hC3 b2 hB2
      go_wp2
      go_ret
      exact ⟨rfl, hB3⟩
    · obtain ⟨hf2, hp⟩ := Hw.out hf
      have hL : putVF m (n, byt s, r) = putVF k (n, byt s, r) := by rw [putVF_yes hf, putVF_yes hf2, hp]
      rw [hf] at T1
      rw [hf2, hL] at T2
      generalize putVF k (n, byt s, r) = L at *
      clear hf Hw HL hf2 hp hL
      go_enter Try.func5, Try.ntmps5
      go_wp2_with fail
      refine (vlawake_any _).mono ?_
      rintro e w1 ⟨rfl, hC1⟩
      have b1 := b0.below b0.lt hC1
      have hB1 := HB0.out.trans (hC1.mono HB0.out.size)
      have y0 := b1.cell (j := 0) rfl
      have y1 := b1.cell (j := 1) rfl
      have y2 := b1.cell (j := 2) rfl
      clear hC1 b0
      go_wp2_with fail
      refine (T1.out _).mono ?_
      rintro e w2 ⟨A2, c2, rfl, hc2, hr2, hC2⟩
      have b2 := b1.below b1.lt hC2
      have hB2 := hB1.trans (hC2.mono hB1.size)
      clear y0 y1 y2 b1 hB1
      have y0 := b2.cell (j := 0) rfl
      have y1 := b2.cell (j := 1) rfl
      have y2 := b2.cell (j := 2) rfl
      go_wp2_with fail
      refine (T2.out _).mono ?_
      rintro e w3 ⟨A3, c3, rfl, hc3, hr3, hC3⟩
      have hB3 := hB2.trans (hC3.mono hB2.size)
      have cv2 := vl_conv w3 A2 L L.length c2 rfl (hr2.below hC3)
      have cv3 := vl_conv w3 A3 L L.length c3 rfl hr3
      clear y0 y1 y2 hC3 b2 hB2 hC2 hr2 hr3
      generalize strB L = t at *
      go_wp2
      go_ret
      exact ⟨rfl, hB3⟩
  · by_cases i0 : 0 ≤ k
    · by_cases i1 : m ≤ 3
      · by_cases i2 : k ≤ m
        · have d0 : decide (k < 0) = false := decide_eq_false (by omega)
          have d1 : decide (3 < m) = false := decide_eq_false (by omega)
          have d2 : decide (m < k) = false := decide_eq_false (by omega)
          have d3 : decide ((300 : Int) < (s.size : Int)) = true := decide_eq_true (by omega)
          go_enter Try.func5, Try.ntmps5
          go_wp2_with fail
          refine (vlawake_any _).mono ?_
          rintro e w1 ⟨rfl, hC1⟩
          have b1 := b0.below b0.lt hC1
          have y1 := b1.cell (j := 1) rfl
          go_wp2
          go_ret
          exact ⟨rfl, HB0.out.trans (hC1.mono HB0.out.size)⟩
        · have d0 : decide (k < 0) = false := decide_eq_false (by omega)
          have d1 : decide (3 < m) = false := decide_eq_false (by omega)
          have d2 : decide (m < k) = true := decide_eq_true (by omega)
          go_enter Try.func5, Try.ntmps5
          go_wp2_with fail
          refine (vlawake_any _).mono ?_
          rintro e w1 ⟨rfl, hC1⟩
          go_wp2
          go_ret
          exact ⟨rfl, HB0.out.trans (hC1.mono HB0.out.size)⟩
      · have d0 : decide (k < 0) = false := decide_eq_false (by omega)
        have d1 : decide (3 < m) = true := decide_eq_true (by omega)
        go_enter Try.func5, Try.ntmps5
        go_wp2_with fail
        refine (vlawake_any _).mono ?_
        rintro e w1 ⟨rfl, hC1⟩
        go_wp2
        go_ret
        exact ⟨rfl, HB0.out.trans (hC1.mono HB0.out.size)⟩
    · have d0 : decide (k < 0) = true := decide_eq_true (by omega)
      go_enter Try.func5, Try.ntmps5
      go_wp2_with fail
      refine (vlawake_any _).mono ?_
      rintro e w1 ⟨rfl, hC1⟩
      go_wp2
      go_ret
      exact ⟨rfl, HB0.out.trans (hC1.mono HB0.out.size)⟩
end Go.Proofs.Ytpllbjkjlaacjaa
