/- CrcZero's walk. -/
import Derived.Test.YtfidndbiialgoaaCrAwake
namespace Go.Proofs.Ytfidndbiialgoaa
open Go.RowKit

set_option maxRecDepth 100000 in
set_option maxHeartbeats 1000000 in
theorem crcZero_walk (w : World) (A : Option Addr) (c : Nat) (xs : List Nat) (_hl : xs.length ≤ c) (_hm : c ≤ maxLen) (hb : ∀ x ∈ xs, x < 256) (hr : Rd w A (u8s xs)) (a : Nat) (ha : a < 4294967296) (d : Nat) (hd : d < 4294967296) :
    Calls Try.prog 9 #[.slice A xs.length c, .int .u32 (a : Int), .int .u32 (d : Int)] w fun e w' => e = .returned (.bool true) ∧ Below w.heap.size w w' := by
  by_cases hx : xs.length ≤ 300
  · have F1 := Lib.hid (fun (W : World) (h : Rd W A (u8s xs)) => seal_form A c xs.length xs W rfl hb h (by omega))
    have F2 := Lib.hid (fun (W : World) (g cap : Nat) (h : Rd W (some ⟨g, 0, none⟩) (u8s (sealL xs))) => seal_form (some ⟨g, 0, none⟩) cap (xs.length + 4) (sealL xs) W (sealL_length _) (sealL_byte hb) h (by omega))
    have G2 := fun (W : World) (g cap : Nat) (hc : xs.length + 4 + 4 ≤ cap) (h : Rd W (some ⟨g, 0, none⟩) (u8s (sealL (sealL xs)))) => good_any (some ⟨g, 0, none⟩) cap (xs.length + 4 + 4) (sealL (sealL xs)) W (by rw [sealL_length, sealL_length]) hc (sealL_byte (sealL_byte hb)) h (by omega)
    have G1 := fun (W : World) (g cap : Nat) (hc : xs.length + 4 + 4 ≤ cap) (h : Rd W (some ⟨g, 0, none⟩) (u8s (sealL (sealL xs)))) => good_any (some ⟨g, 0, none⟩) cap (xs.length + 4) (sealL xs) W (sealL_length _) (by omega) (sealL_byte hb) (by
      have := h.take (xs.length + 4)
      rw [u8s_take, ← sealL_length xs, sealL_take] at this
      exact this) (by omega)
    rw [good_seal] at G1 G2
    have W1 := Lib.hid (fun (W : World) (h : Rd W A (u8s xs)) => with_any a A c xs W ha hb h (by omega))
    have W2 := Lib.hid (fun (W : World) (h : Rd W A (u8s xs)) => with_any d A c xs W hd hb h (by omega))
    have S0 := Lib.hid (fun (W : World) => sum_any none 0 0 [] W rfl (by simp) (.inl rfl) (by simp))
    have hs0 : sumL [] = 0 := by decide
    rw [hs0] at S0
    have heq : (((withL a xs : Nat) : Int) == ((withL d xs : Nat) : Int)) = ((a : Int) == (d : Int)) := by
      by_cases h : a = d
      · subst h; simp
      · have h1 : ¬ withL a xs = withL d xs := fun e => h (withL_inj xs hb ha hd e)
        have h2 : (((withL a xs : Nat) : Int) == ((withL d xs : Nat) : Int)) = false := by rw [beq_eq_false_iff_ne]; omega
        have h3 : ((a : Int) == (d : Int)) = false := by rw [beq_eq_false_iff_ne]; omega
        rw [h2, h3]
    replace G1 := Lib.hid G1
    replace G2 := Lib.hid G2
    generalize sealL (sealL xs) = s2 at *
    generalize sealL xs = s1 at *
    generalize withL a xs = va at *
    generalize withL d xs = vd at *
    have hx' : decide ((300 : Int) < (xs.length : Int)) = false := by simp; omega
    go_enter Try.func9, Try.ntmps9
    go_wp2_with fail
    refine (awake_any _).mono ?_
    rintro e w1 ⟨rfl, hB1⟩
    have hr1 := hr.below hB1
    go_wp2_with fail
    refine (F1.out _ hr1).mono ?_
    rintro e w2 ⟨g1, cap1, rfl, hc1, _, _, hrd1, hB2⟩
    have hr2 := hr1.below hB2
    go_wp2_with fail
    refine (F2.out _ _ _ hrd1).mono ?_
    rintro e w3 ⟨g2, cap2, rfl, hc2, _, _, hrd2, hB3⟩
    have hr3 := hr2.below hB3
    have hB3' : Below w.heap.size w w3 := (hB1.trans (hB2.mono hB1.size)).trans (hB3.mono (Nat.le_trans hB1.size hB2.size))
    clear hr hr1 hr2 hrd1 hB1 hB2 hB3
    go_wp2_with fail
    refine (S0.out _).mono ?_
    rintro e w4 ⟨rfl, hB4⟩
    go_wp2_with fail
    refine (G2.out _ _ _ hc2 (hrd2.below hB4)).mono ?_
    rintro e w5 ⟨rfl, hB5⟩
    have hB5 := hB4.trans (hB5.mono hB4.size)
    have hc3 : xs.length + 4 ≤ cap2 := by omega
    go_wp2_with fail
    refine (G1.out _ _ _ hc2 (hrd2.below hB5)).mono ?_
    rintro e w6 ⟨rfl, hB6⟩
    have hB6 := hB5.trans (hB6.mono hB5.size)
    go_wp2_with fail
    refine (W1.out _ (hr3.below hB6)).mono ?_
    rintro e w7 ⟨rfl, hB7⟩
    have hB7 := hB6.trans (hB7.mono hB6.size)
    go_wp2_with fail
    refine (W2.out _ (hr3.below hB7)).mono ?_
    rintro e w8 ⟨rfl, hB8⟩
    have hB8 := hB7.trans (hB8.mono hB7.size)
    go_wp2
    go_ret
    exact ⟨rfl, hB3'.trans (hB8.mono hB3'.size)⟩
  · go_enter Try.func9, Try.ntmps9
    go_wp2_with fail
    refine (awake_any _).mono ?_
    rintro e w1 ⟨rfl, hb1⟩
    go_wp2
    go_ret
    exact ⟨rfl, hb1⟩
end Go.Proofs.Ytfidndbiialgoaa
