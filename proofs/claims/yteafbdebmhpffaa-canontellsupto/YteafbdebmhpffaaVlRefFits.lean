/- The contract of the document's own Fits (written by a program: kind by kind, and by which of the questions says no first). No condition. -/
import Derived.Test.YteafbdebmhpffaaVlFitsAll
namespace Go.Proofs.Yteafbdebmhpffaa
open Go.RowKit

set_option maxRecDepth 100000 in
set_option maxHeartbeats 2000000 in
theorem rvlfits_any (a b s : ByteArray) (k n r : Int) (w : World) :
    Calls Try.prog 82 #[.agg #[.string a, .int .i64 k, .string b], .agg #[.int .i64 n, .string s, .int .i64 r]] w fun e w' => e = .returned (.bool (fitsV k (n, byt s, r))) ∧ Below w.heap.size w w' := by
  have hB : ∀ u v, Below w.heap.size w ((w.alloc (.cells u 48)).alloc (.cells v 42)) := fun u v => ((Below.refl _ w).alloc (Nat.le_refl _) _).alloc (by simp) _
  have HB := Lib.hid hB
  clear hB
  have hse : s.toList.isEmpty = decide (byt s = []) := by
    rw [str_empty]; cases byt s <;> rfl
  have hsz : (byt s).length = s.size := byt_length s
  rcases vl_kinds k with rfl | rfl | rfl | rfl | rfl | rfl | hk
  · by_cases hp : byt s = []
    · by_cases hq : r = 0
      · by_cases ha0 : -128 ≤ n
        · by_cases hb0 : n ≤ 127
          · have dp : s.toList.isEmpty = true := by rw [hse]; exact decide_eq_true hp
            have dq : (r == 0) = true := by rw [hq]; rfl
            have da0 : decide (-128 ≤ n) = true := decide_eq_true ha0
            have db0 : decide (n ≤ 127) = true := decide_eq_true hb0
            have Hf : Hid (fitsV 0 (n, byt s, r) = true) := Lib.hid (by rw [vl_fits_0]; exact decide_eq_true ⟨ha0, hb0, hp, hq⟩)
            clear hse hsz hp hq ha0 hb0
            go_enter Try.func82, Try.ntmps82
            go_wp2
            go_ret
            exact ⟨by rw [Hf.out]; rfl, HB.out _ _⟩
          · have dp : s.toList.isEmpty = true := by rw [hse]; exact decide_eq_true hp
            have dq : (r == 0) = true := by rw [hq]; rfl
            have da0 : decide (-128 ≤ n) = true := decide_eq_true ha0
            have db0 : decide (n ≤ 127) = false := decide_eq_false hb0
            have Hf : Hid (fitsV 0 (n, byt s, r) = false) := Lib.hid (by rw [vl_fits_0]; exact decide_eq_false fun h => hb0 h.2.1)
            clear hse hsz hp hq ha0 hb0
            go_enter Try.func82, Try.ntmps82
            go_wp2
            go_ret
            exact ⟨by rw [Hf.out]; rfl, HB.out _ _⟩
        · have dp : s.toList.isEmpty = true := by rw [hse]; exact decide_eq_true hp
          have dq : (r == 0) = true := by rw [hq]; rfl
          have da0 : decide (-128 ≤ n) = false := decide_eq_false ha0
          have Hf : Hid (fitsV 0 (n, byt s, r) = false) := Lib.hid (by rw [vl_fits_0]; exact decide_eq_false fun h => ha0 h.1)
          clear hse hsz hp hq ha0
          go_enter Try.func82, Try.ntmps82
          go_wp2
          go_ret
          exact ⟨by rw [Hf.out]; rfl, HB.out _ _⟩
      · have dp : s.toList.isEmpty = true := by rw [hse]; exact decide_eq_true hp
        have dq : (r == 0) = false := beq_false_of_ne hq
        have Hf : Hid (fitsV 0 (n, byt s, r) = false) := Lib.hid (by rw [vl_fits_0]; exact decide_eq_false fun h => hq h.2.2.2)
        clear hse hsz hp hq
        go_enter Try.func82, Try.ntmps82
        go_wp2
        go_ret
        exact ⟨by rw [Hf.out]; rfl, HB.out _ _⟩
    · have dp : s.toList.isEmpty = false := by rw [hse]; exact decide_eq_false hp
      have Hf : Hid (fitsV 0 (n, byt s, r) = false) := Lib.hid (by rw [vl_fits_0]; exact decide_eq_false fun h => hp h.2.2.1)
      clear hse hsz hp
      go_enter Try.func82, Try.ntmps82
      go_wp2
      go_ret
      exact ⟨by rw [Hf.out]; rfl, HB.out _ _⟩
  · by_cases hp : byt s = []
    · by_cases hq : r = 0
      · by_cases ha1 : -32768 ≤ n
        · by_cases hb1 : n ≤ 32767
          · have dp : s.toList.isEmpty = true := by rw [hse]; exact decide_eq_true hp
            have dq : (r == 0) = true := by rw [hq]; rfl
            have da1 : decide (-32768 ≤ n) = true := decide_eq_true ha1
            have db1 : decide (n ≤ 32767) = true := decide_eq_true hb1
            have Hf : Hid (fitsV 1 (n, byt s, r) = true) := Lib.hid (by rw [vl_fits_1]; exact decide_eq_true ⟨ha1, hb1, hp, hq⟩)
            clear hse hsz hp hq ha1 hb1
            go_enter Try.func82, Try.ntmps82
            go_wp2
            go_ret
            exact ⟨by rw [Hf.out]; rfl, HB.out _ _⟩
          · have dp : s.toList.isEmpty = true := by rw [hse]; exact decide_eq_true hp
            have dq : (r == 0) = true := by rw [hq]; rfl
            have da1 : decide (-32768 ≤ n) = true := decide_eq_true ha1
            have db1 : decide (n ≤ 32767) = false := decide_eq_false hb1
            have Hf : Hid (fitsV 1 (n, byt s, r) = false) := Lib.hid (by rw [vl_fits_1]; exact decide_eq_false fun h => hb1 h.2.1)
            clear hse hsz hp hq ha1 hb1
            go_enter Try.func82, Try.ntmps82
            go_wp2
            go_ret
            exact ⟨by rw [Hf.out]; rfl, HB.out _ _⟩
        · have dp : s.toList.isEmpty = true := by rw [hse]; exact decide_eq_true hp
          have dq : (r == 0) = true := by rw [hq]; rfl
          have da1 : decide (-32768 ≤ n) = false := decide_eq_false ha1
          have Hf : Hid (fitsV 1 (n, byt s, r) = false) := Lib.hid (by rw [vl_fits_1]; exact decide_eq_false fun h => ha1 h.1)
          clear hse hsz hp hq ha1
          go_enter Try.func82, Try.ntmps82
          go_wp2
          go_ret
          exact ⟨by rw [Hf.out]; rfl, HB.out _ _⟩
      · have dp : s.toList.isEmpty = true := by rw [hse]; exact decide_eq_true hp
        have dq : (r == 0) = false := beq_false_of_ne hq
        have Hf : Hid (fitsV 1 (n, byt s, r) = false) := Lib.hid (by rw [vl_fits_1]; exact decide_eq_false fun h => hq h.2.2.2)
        clear hse hsz hp hq
        go_enter Try.func82, Try.ntmps82
        go_wp2
        go_ret
        exact ⟨by rw [Hf.out]; rfl, HB.out _ _⟩
    · have dp : s.toList.isEmpty = false := by rw [hse]; exact decide_eq_false hp
      have Hf : Hid (fitsV 1 (n, byt s, r) = false) := Lib.hid (by rw [vl_fits_1]; exact decide_eq_false fun h => hp h.2.2.1)
      clear hse hsz hp
      go_enter Try.func82, Try.ntmps82
      go_wp2
      go_ret
      exact ⟨by rw [Hf.out]; rfl, HB.out _ _⟩
  · by_cases hp : byt s = []
    · by_cases hq : r = 0
      · by_cases ha2 : -2147483648 ≤ n
        · by_cases hb2 : n ≤ 2147483647
          · have dp : s.toList.isEmpty = true := by rw [hse]; exact decide_eq_true hp
            have dq : (r == 0) = true := by rw [hq]; rfl
            have da2 : decide (-2147483648 ≤ n) = true := decide_eq_true ha2
            have db2 : decide (n ≤ 2147483647) = true := decide_eq_true hb2
            have Hf : Hid (fitsV 2 (n, byt s, r) = true) := Lib.hid (by rw [vl_fits_2]; exact decide_eq_true ⟨ha2, hb2, hp, hq⟩)
            clear hse hsz hp hq ha2 hb2
            go_enter Try.func82, Try.ntmps82
            go_wp2
            go_ret
            exact ⟨by rw [Hf.out]; rfl, HB.out _ _⟩
          · have dp : s.toList.isEmpty = true := by rw [hse]; exact decide_eq_true hp
            have dq : (r == 0) = true := by rw [hq]; rfl
            have da2 : decide (-2147483648 ≤ n) = true := decide_eq_true ha2
            have db2 : decide (n ≤ 2147483647) = false := decide_eq_false hb2
            have Hf : Hid (fitsV 2 (n, byt s, r) = false) := Lib.hid (by rw [vl_fits_2]; exact decide_eq_false fun h => hb2 h.2.1)
            clear hse hsz hp hq ha2 hb2
            go_enter Try.func82, Try.ntmps82
            go_wp2
            go_ret
            exact ⟨by rw [Hf.out]; rfl, HB.out _ _⟩
        · have dp : s.toList.isEmpty = true := by rw [hse]; exact decide_eq_true hp
          have dq : (r == 0) = true := by rw [hq]; rfl
          have da2 : decide (-2147483648 ≤ n) = false := decide_eq_false ha2
          have Hf : Hid (fitsV 2 (n, byt s, r) = false) := Lib.hid (by rw [vl_fits_2]; exact decide_eq_false fun h => ha2 h.1)
          clear hse hsz hp hq ha2
          go_enter Try.func82, Try.ntmps82
          go_wp2
          go_ret
          exact ⟨by rw [Hf.out]; rfl, HB.out _ _⟩
      · have dp : s.toList.isEmpty = true := by rw [hse]; exact decide_eq_true hp
        have dq : (r == 0) = false := beq_false_of_ne hq
        have Hf : Hid (fitsV 2 (n, byt s, r) = false) := Lib.hid (by rw [vl_fits_2]; exact decide_eq_false fun h => hq h.2.2.2)
        clear hse hsz hp hq
        go_enter Try.func82, Try.ntmps82
        go_wp2
        go_ret
        exact ⟨by rw [Hf.out]; rfl, HB.out _ _⟩
    · have dp : s.toList.isEmpty = false := by rw [hse]; exact decide_eq_false hp
      have Hf : Hid (fitsV 2 (n, byt s, r) = false) := Lib.hid (by rw [vl_fits_2]; exact decide_eq_false fun h => hp h.2.2.1)
      clear hse hsz hp
      go_enter Try.func82, Try.ntmps82
      go_wp2
      go_ret
      exact ⟨by rw [Hf.out]; rfl, HB.out _ _⟩
  · by_cases hp : byt s = []
    · by_cases hq : r = 0
      · have dp : s.toList.isEmpty = true := by rw [hse]; exact decide_eq_true hp
        have dq : (r == 0) = true := by rw [hq]; rfl
        have Hf : Hid (fitsV 3 (n, byt s, r) = true) := Lib.hid (by rw [vl_fits_3]; exact decide_eq_true ⟨hp, hq⟩)
        clear hse hsz hp hq
        go_enter Try.func82, Try.ntmps82
        go_wp2
        go_ret
        exact ⟨by rw [Hf.out]; rfl, HB.out _ _⟩
      · have dp : s.toList.isEmpty = true := by rw [hse]; exact decide_eq_true hp
        have dq : (r == 0) = false := beq_false_of_ne hq
        have Hf : Hid (fitsV 3 (n, byt s, r) = false) := Lib.hid (by rw [vl_fits_3]; exact decide_eq_false fun h => hq h.2)
        clear hse hsz hp hq
        go_enter Try.func82, Try.ntmps82
        go_wp2
        go_ret
        exact ⟨by rw [Hf.out]; rfl, HB.out _ _⟩
    · have dp : s.toList.isEmpty = false := by rw [hse]; exact decide_eq_false hp
      have Hf : Hid (fitsV 3 (n, byt s, r) = false) := Lib.hid (by rw [vl_fits_3]; exact decide_eq_false fun h => hp h.1)
      clear hse hsz hp
      go_enter Try.func82, Try.ntmps82
      go_wp2
      go_ret
      exact ⟨by rw [Hf.out]; rfl, HB.out _ _⟩
  · by_cases hp : byt s = []
    · by_cases hq : r = 0
      · by_cases hl : s.size ≤ 12
        · by_cases hn0 : n = 0
          · have dp : s.toList.isEmpty = true := by rw [hse]; exact decide_eq_true hp
            have dq : (r == 0) = true := by rw [hq]; rfl
            have dl : decide ((s.size : Int) ≤ 12) = true := decide_eq_true (by omega)
            have dn0 : (n == 0) = true := by rw [hn0]; rfl
            have Hf : Hid (fitsV 4 (n, byt s, r) = true) := Lib.hid (by rw [vl_fits_4]; exact decide_eq_true ⟨by simp only; omega, hn0, hq⟩)
            clear hse hsz hp hq hl hn0
            go_enter Try.func82, Try.ntmps82
            go_wp2
            go_ret
            exact ⟨by rw [Hf.out]; rfl, HB.out _ _⟩
          · have dp : s.toList.isEmpty = true := by rw [hse]; exact decide_eq_true hp
            have dq : (r == 0) = true := by rw [hq]; rfl
            have dl : decide ((s.size : Int) ≤ 12) = true := decide_eq_true (by omega)
            have dn0 : (n == 0) = false := beq_false_of_ne hn0
            have Hf : Hid (fitsV 4 (n, byt s, r) = false) := Lib.hid (by rw [vl_fits_4]; exact decide_eq_false fun h => hn0 h.2.1)
            clear hse hsz hp hq hl hn0
            go_enter Try.func82, Try.ntmps82
            go_wp2
            go_ret
            exact ⟨by rw [Hf.out]; rfl, HB.out _ _⟩
        · have dp : s.toList.isEmpty = true := by rw [hse]; exact decide_eq_true hp
          have dq : (r == 0) = true := by rw [hq]; rfl
          have dl : decide ((s.size : Int) ≤ 12) = false := decide_eq_false (by omega)
          have Hf : Hid (fitsV 4 (n, byt s, r) = false) := Lib.hid (by rw [vl_fits_4]; exact decide_eq_false fun h => hl (by have := h.1; simp only at this; omega))
          clear hse hsz hp hq hl
          go_enter Try.func82, Try.ntmps82
          go_wp2
          go_ret
          exact ⟨by rw [Hf.out]; rfl, HB.out _ _⟩
      · by_cases hl : s.size ≤ 12
        · by_cases hn0 : n = 0
          · have dp : s.toList.isEmpty = true := by rw [hse]; exact decide_eq_true hp
            have dq : (r == 0) = false := beq_false_of_ne hq
            have dl : decide ((s.size : Int) ≤ 12) = true := decide_eq_true (by omega)
            have dn0 : (n == 0) = true := by rw [hn0]; rfl
            have Hf : Hid (fitsV 4 (n, byt s, r) = false) := Lib.hid (by rw [vl_fits_4]; exact decide_eq_false fun h => hq h.2.2)
            clear hse hsz hp hq hl hn0
            go_enter Try.func82, Try.ntmps82
            go_wp2
            go_ret
            exact ⟨by rw [Hf.out]; rfl, HB.out _ _⟩
          · have dp : s.toList.isEmpty = true := by rw [hse]; exact decide_eq_true hp
            have dq : (r == 0) = false := beq_false_of_ne hq
            have dl : decide ((s.size : Int) ≤ 12) = true := decide_eq_true (by omega)
            have dn0 : (n == 0) = false := beq_false_of_ne hn0
            have Hf : Hid (fitsV 4 (n, byt s, r) = false) := Lib.hid (by rw [vl_fits_4]; exact decide_eq_false fun h => hn0 h.2.1)
            clear hse hsz hp hq hl hn0
            go_enter Try.func82, Try.ntmps82
            go_wp2
            go_ret
            exact ⟨by rw [Hf.out]; rfl, HB.out _ _⟩
        · have dp : s.toList.isEmpty = true := by rw [hse]; exact decide_eq_true hp
          have dq : (r == 0) = false := beq_false_of_ne hq
          have dl : decide ((s.size : Int) ≤ 12) = false := decide_eq_false (by omega)
          have Hf : Hid (fitsV 4 (n, byt s, r) = false) := Lib.hid (by rw [vl_fits_4]; exact decide_eq_false fun h => hl (by have := h.1; simp only at this; omega))
          clear hse hsz hp hq hl
          go_enter Try.func82, Try.ntmps82
          go_wp2
          go_ret
          exact ⟨by rw [Hf.out]; rfl, HB.out _ _⟩
    · by_cases hl : s.size ≤ 12
      · by_cases hn0 : n = 0
        · by_cases hq : r = 0
          · have dp : s.toList.isEmpty = false := by rw [hse]; exact decide_eq_false hp
            have dl : decide ((s.size : Int) ≤ 12) = true := decide_eq_true (by omega)
            have dn0 : (n == 0) = true := by rw [hn0]; rfl
            have dq : (r == 0) = true := by rw [hq]; rfl
            have Hf : Hid (fitsV 4 (n, byt s, r) = true) := Lib.hid (by rw [vl_fits_4]; exact decide_eq_true ⟨by simp only; omega, hn0, hq⟩)
            clear hse hsz hp hl hn0 hq
            go_enter Try.func82, Try.ntmps82
            go_wp2
            go_ret
            exact ⟨by rw [Hf.out]; rfl, HB.out _ _⟩
          · have dp : s.toList.isEmpty = false := by rw [hse]; exact decide_eq_false hp
            have dl : decide ((s.size : Int) ≤ 12) = true := decide_eq_true (by omega)
            have dn0 : (n == 0) = true := by rw [hn0]; rfl
            have dq : (r == 0) = false := beq_false_of_ne hq
            have Hf : Hid (fitsV 4 (n, byt s, r) = false) := Lib.hid (by rw [vl_fits_4]; exact decide_eq_false fun h => hq h.2.2)
            clear hse hsz hp hl hn0 hq
            go_enter Try.func82, Try.ntmps82
            go_wp2
            go_ret
            exact ⟨by rw [Hf.out]; rfl, HB.out _ _⟩
        · have dp : s.toList.isEmpty = false := by rw [hse]; exact decide_eq_false hp
          have dl : decide ((s.size : Int) ≤ 12) = true := decide_eq_true (by omega)
          have dn0 : (n == 0) = false := beq_false_of_ne hn0
          have Hf : Hid (fitsV 4 (n, byt s, r) = false) := Lib.hid (by rw [vl_fits_4]; exact decide_eq_false fun h => hn0 h.2.1)
          clear hse hsz hp hl hn0
          go_enter Try.func82, Try.ntmps82
          go_wp2
          go_ret
          exact ⟨by rw [Hf.out]; rfl, HB.out _ _⟩
      · have dp : s.toList.isEmpty = false := by rw [hse]; exact decide_eq_false hp
        have dl : decide ((s.size : Int) ≤ 12) = false := decide_eq_false (by omega)
        have Hf : Hid (fitsV 4 (n, byt s, r) = false) := Lib.hid (by rw [vl_fits_4]; exact decide_eq_false fun h => hl (by have := h.1; simp only at this; omega))
        clear hse hsz hp hl
        go_enter Try.func82, Try.ntmps82
        go_wp2
        go_ret
        exact ⟨by rw [Hf.out]; rfl, HB.out _ _⟩
  · by_cases hp : byt s = []
    · by_cases hq : r = 0
      · by_cases hr0 : -1 ≤ r
        · by_cases hr1 : r ≤ 1073741824
          · by_cases hn0 : n = 0
            · have dp : s.toList.isEmpty = true := by rw [hse]; exact decide_eq_true hp
              have dq : (r == 0) = true := by rw [hq]; rfl
              have dr0 : decide (-1 ≤ r) = true := decide_eq_true hr0
              have dr1 : decide (r ≤ 1073741824) = true := decide_eq_true hr1
              have dn0 : (n == 0) = true := by rw [hn0]; rfl
              have Hf : Hid (fitsV 5 (n, byt s, r) = true) := Lib.hid (by rw [vl_fits_5]; exact decide_eq_true ⟨hr0, hr1, hn0, hp⟩)
              clear hse hsz hp hq hr0 hr1 hn0
              go_enter Try.func82, Try.ntmps82
              go_wp2
              go_ret
              exact ⟨by rw [Hf.out]; rfl, HB.out _ _⟩
            · have dp : s.toList.isEmpty = true := by rw [hse]; exact decide_eq_true hp
              have dq : (r == 0) = true := by rw [hq]; rfl
              have dr0 : decide (-1 ≤ r) = true := decide_eq_true hr0
              have dr1 : decide (r ≤ 1073741824) = true := decide_eq_true hr1
              have dn0 : (n == 0) = false := beq_false_of_ne hn0
              have Hf : Hid (fitsV 5 (n, byt s, r) = false) := Lib.hid (by rw [vl_fits_5]; exact decide_eq_false fun h => hn0 h.2.2.1)
              clear hse hsz hp hq hr0 hr1 hn0
              go_enter Try.func82, Try.ntmps82
              go_wp2
              go_ret
              exact ⟨by rw [Hf.out]; rfl, HB.out _ _⟩
          · have dp : s.toList.isEmpty = true := by rw [hse]; exact decide_eq_true hp
            have dq : (r == 0) = true := by rw [hq]; rfl
            have dr0 : decide (-1 ≤ r) = true := decide_eq_true hr0
            have dr1 : decide (r ≤ 1073741824) = false := decide_eq_false hr1
            have Hf : Hid (fitsV 5 (n, byt s, r) = false) := Lib.hid (by rw [vl_fits_5]; exact decide_eq_false fun h => hr1 h.2.1)
            clear hse hsz hp hq hr0 hr1
            go_enter Try.func82, Try.ntmps82
            go_wp2
            go_ret
            exact ⟨by rw [Hf.out]; rfl, HB.out _ _⟩
        · have dp : s.toList.isEmpty = true := by rw [hse]; exact decide_eq_true hp
          have dq : (r == 0) = true := by rw [hq]; rfl
          have dr0 : decide (-1 ≤ r) = false := decide_eq_false hr0
          have Hf : Hid (fitsV 5 (n, byt s, r) = false) := Lib.hid (by rw [vl_fits_5]; exact decide_eq_false fun h => hr0 h.1)
          clear hse hsz hp hq hr0
          go_enter Try.func82, Try.ntmps82
          go_wp2
          go_ret
          exact ⟨by rw [Hf.out]; rfl, HB.out _ _⟩
      · by_cases hr0 : -1 ≤ r
        · by_cases hr1 : r ≤ 1073741824
          · by_cases hn0 : n = 0
            · have dp : s.toList.isEmpty = true := by rw [hse]; exact decide_eq_true hp
              have dq : (r == 0) = false := beq_false_of_ne hq
              have dr0 : decide (-1 ≤ r) = true := decide_eq_true hr0
              have dr1 : decide (r ≤ 1073741824) = true := decide_eq_true hr1
              have dn0 : (n == 0) = true := by rw [hn0]; rfl
              have Hf : Hid (fitsV 5 (n, byt s, r) = true) := Lib.hid (by rw [vl_fits_5]; exact decide_eq_true ⟨hr0, hr1, hn0, hp⟩)
              clear hse hsz hp hq hr0 hr1 hn0
              go_enter Try.func82, Try.ntmps82
              go_wp2
              go_ret
              exact ⟨by rw [Hf.out]; rfl, HB.out _ _⟩
            · have dp : s.toList.isEmpty = true := by rw [hse]; exact decide_eq_true hp
              have dq : (r == 0) = false := beq_false_of_ne hq
              have dr0 : decide (-1 ≤ r) = true := decide_eq_true hr0
              have dr1 : decide (r ≤ 1073741824) = true := decide_eq_true hr1
              have dn0 : (n == 0) = false := beq_false_of_ne hn0
              have Hf : Hid (fitsV 5 (n, byt s, r) = false) := Lib.hid (by rw [vl_fits_5]; exact decide_eq_false fun h => hn0 h.2.2.1)
              clear hse hsz hp hq hr0 hr1 hn0
              go_enter Try.func82, Try.ntmps82
              go_wp2
              go_ret
              exact ⟨by rw [Hf.out]; rfl, HB.out _ _⟩
          · have dp : s.toList.isEmpty = true := by rw [hse]; exact decide_eq_true hp
            have dq : (r == 0) = false := beq_false_of_ne hq
            have dr0 : decide (-1 ≤ r) = true := decide_eq_true hr0
            have dr1 : decide (r ≤ 1073741824) = false := decide_eq_false hr1
            have Hf : Hid (fitsV 5 (n, byt s, r) = false) := Lib.hid (by rw [vl_fits_5]; exact decide_eq_false fun h => hr1 h.2.1)
            clear hse hsz hp hq hr0 hr1
            go_enter Try.func82, Try.ntmps82
            go_wp2
            go_ret
            exact ⟨by rw [Hf.out]; rfl, HB.out _ _⟩
        · have dp : s.toList.isEmpty = true := by rw [hse]; exact decide_eq_true hp
          have dq : (r == 0) = false := beq_false_of_ne hq
          have dr0 : decide (-1 ≤ r) = false := decide_eq_false hr0
          have Hf : Hid (fitsV 5 (n, byt s, r) = false) := Lib.hid (by rw [vl_fits_5]; exact decide_eq_false fun h => hr0 h.1)
          clear hse hsz hp hq hr0
          go_enter Try.func82, Try.ntmps82
          go_wp2
          go_ret
          exact ⟨by rw [Hf.out]; rfl, HB.out _ _⟩
    · by_cases hr0 : -1 ≤ r
      · by_cases hr1 : r ≤ 1073741824
        · by_cases hn0 : n = 0
          · have dp : s.toList.isEmpty = false := by rw [hse]; exact decide_eq_false hp
            have dr0 : decide (-1 ≤ r) = true := decide_eq_true hr0
            have dr1 : decide (r ≤ 1073741824) = true := decide_eq_true hr1
            have dn0 : (n == 0) = true := by rw [hn0]; rfl
            have Hf : Hid (fitsV 5 (n, byt s, r) = false) := Lib.hid (by rw [vl_fits_5]; exact decide_eq_false fun h => hp h.2.2.2)
            clear hse hsz hp hr0 hr1 hn0
            go_enter Try.func82, Try.ntmps82
            go_wp2
            go_ret
            exact ⟨by rw [Hf.out]; rfl, HB.out _ _⟩
          · have dp : s.toList.isEmpty = false := by rw [hse]; exact decide_eq_false hp
            have dr0 : decide (-1 ≤ r) = true := decide_eq_true hr0
            have dr1 : decide (r ≤ 1073741824) = true := decide_eq_true hr1
            have dn0 : (n == 0) = false := beq_false_of_ne hn0
            have Hf : Hid (fitsV 5 (n, byt s, r) = false) := Lib.hid (by rw [vl_fits_5]; exact decide_eq_false fun h => hn0 h.2.2.1)
            clear hse hsz hp hr0 hr1 hn0
            go_enter Try.func82, Try.ntmps82
            go_wp2
            go_ret
            exact ⟨by rw [Hf.out]; rfl, HB.out _ _⟩
        · have dp : s.toList.isEmpty = false := by rw [hse]; exact decide_eq_false hp
          have dr0 : decide (-1 ≤ r) = true := decide_eq_true hr0
          have dr1 : decide (r ≤ 1073741824) = false := decide_eq_false hr1
          have Hf : Hid (fitsV 5 (n, byt s, r) = false) := Lib.hid (by rw [vl_fits_5]; exact decide_eq_false fun h => hr1 h.2.1)
          clear hse hsz hp hr0 hr1
          go_enter Try.func82, Try.ntmps82
          go_wp2
          go_ret
          exact ⟨by rw [Hf.out]; rfl, HB.out _ _⟩
      · have dp : s.toList.isEmpty = false := by rw [hse]; exact decide_eq_false hp
        have dr0 : decide (-1 ≤ r) = false := decide_eq_false hr0
        have Hf : Hid (fitsV 5 (n, byt s, r) = false) := Lib.hid (by rw [vl_fits_5]; exact decide_eq_false fun h => hr0 h.1)
        clear hse hsz hp hr0
        go_enter Try.func82, Try.ntmps82
        go_wp2
        go_ret
        exact ⟨by rw [Hf.out]; rfl, HB.out _ _⟩
  · have e0 : (k == 0) = false := beq_false_of_ne (by omega)
    have e1 : (k == 1) = false := beq_false_of_ne (by omega)
    have e2 : (k == 2) = false := beq_false_of_ne (by omega)
    have e3 : (k == 3) = false := beq_false_of_ne (by omega)
    have e4 : (k == 4) = false := beq_false_of_ne (by omega)
    have e5 : (k == 5) = false := beq_false_of_ne (by omega)
    by_cases hp : byt s = []
    · by_cases hq : r = 0
      · have dp : s.toList.isEmpty = true := by rw [hse]; exact decide_eq_true hp
        have dq : (r == 0) = true := by rw [hq]; rfl
        have Hf : Hid (fitsV k (n, byt s, r) = false) := Lib.hid (vl_fits_x hk)
        clear hse hsz hp hq hk
        go_enter Try.func82, Try.ntmps82
        go_wp2
        go_ret
        exact ⟨by rw [Hf.out]; rfl, HB.out _ _⟩
      · have dp : s.toList.isEmpty = true := by rw [hse]; exact decide_eq_true hp
        have dq : (r == 0) = false := beq_false_of_ne hq
        have Hf : Hid (fitsV k (n, byt s, r) = false) := Lib.hid (vl_fits_x hk)
        clear hse hsz hp hq hk
        go_enter Try.func82, Try.ntmps82
        go_wp2
        go_ret
        exact ⟨by rw [Hf.out]; rfl, HB.out _ _⟩
    · have dp : s.toList.isEmpty = false := by rw [hse]; exact decide_eq_false hp
      have Hf : Hid (fitsV k (n, byt s, r) = false) := Lib.hid (vl_fits_x hk)
      clear hse hsz hp hk
      go_enter Try.func82, Try.ntmps82
      go_wp2
      go_ret
      exact ⟨by rw [Hf.out]; rfl, HB.out _ _⟩
end Go.Proofs.Yteafbdebmhpffaa
