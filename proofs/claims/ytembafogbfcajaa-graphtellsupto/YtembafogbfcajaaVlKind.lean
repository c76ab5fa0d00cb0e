/- Kinds of fields, and what fits them, on plain data. No condition. -/
import Derived.Test.YtembafogbfcajaaScPlainAll
namespace Go.Proofs.Ytembafogbfcajaa

/-- A value: its number, its text's bytes, where it leads. -/
abbrev Vl := Int × List Nat × Int
abbrev vz : Vl := (0, [], 0)
def fitsV (k : Int) (v : Vl) : Bool :=
  if k = 0 then decide (-128 ≤ v.1 ∧ v.1 ≤ 127 ∧ v.2.1 = [] ∧ v.2.2 = 0)
  else if k = 1 then decide (-32768 ≤ v.1 ∧ v.1 ≤ 32767 ∧ v.2.1 = [] ∧ v.2.2 = 0)
  else if k = 2 then decide (-2147483648 ≤ v.1 ∧ v.1 ≤ 2147483647 ∧ v.2.1 = [] ∧ v.2.2 = 0)
  else if k = 3 then decide (v.2.1 = [] ∧ v.2.2 = 0)
  else if k = 4 then decide (v.2.1.length ≤ 12 ∧ v.1 = 0 ∧ v.2.2 = 0)
  else if k = 5 then decide (-1 ≤ v.2.2 ∧ v.2.2 ≤ 1073741824 ∧ v.1 = 0 ∧ v.2.1 = [])
  else false
def zeroV (k : Int) : Vl := if k = 5 then (0, [], -1) else vz
/-- A number of 64 bits, and bytes. -/
def OkV (v : Vl) : Prop := (-9223372036854775808 ≤ v.1 ∧ v.1 ≤ 9223372036854775807) ∧ ∀ x ∈ v.2.1, x < 256

theorem vl_fits_0 {v : Vl} : fitsV 0 v = decide (-128 ≤ v.1 ∧ v.1 ≤ 127 ∧ v.2.1 = [] ∧ v.2.2 = 0) := rfl
theorem vl_fits_1 {v : Vl} : fitsV 1 v = decide (-32768 ≤ v.1 ∧ v.1 ≤ 32767 ∧ v.2.1 = [] ∧ v.2.2 = 0) := rfl
theorem vl_fits_2 {v : Vl} : fitsV 2 v = decide (-2147483648 ≤ v.1 ∧ v.1 ≤ 2147483647 ∧ v.2.1 = [] ∧ v.2.2 = 0) := rfl
theorem vl_fits_3 {v : Vl} : fitsV 3 v = decide (v.2.1 = [] ∧ v.2.2 = 0) := rfl
theorem vl_fits_4 {v : Vl} : fitsV 4 v = decide (v.2.1.length ≤ 12 ∧ v.1 = 0 ∧ v.2.2 = 0) := rfl
theorem vl_fits_5 {v : Vl} : fitsV 5 v = decide (-1 ≤ v.2.2 ∧ v.2.2 ≤ 1073741824 ∧ v.1 = 0 ∧ v.2.1 = []) := rfl
theorem vl_fits_x {k : Int} {v : Vl} (h : ¬ (0 ≤ k ∧ k ≤ 5)) : fitsV k v = false := by
  rw [fitsV, if_neg (by omega), if_neg (by omega), if_neg (by omega), if_neg (by omega), if_neg (by omega), if_neg (by omega)]
/-- The vl_kinds, one by one. -/
theorem vl_kinds (k : Int) : k = 0 ∨ k = 1 ∨ k = 2 ∨ k = 3 ∨ k = 4 ∨ k = 5 ∨ ¬ (0 ≤ k ∧ k ≤ 5) := by omega
/-- What fits a number's kind is a number alone. -/
theorem vl_fits_num {k : Int} {v : Vl} (h4 : k ≠ 4) (h5 : k ≠ 5) (h : fitsV k v = true) : v.2.1 = [] ∧ v.2.2 = 0 := by
  rcases vl_kinds k with rfl | rfl | rfl | rfl | rfl | rfl | hk
  · rw [vl_fits_0] at h; exact (of_decide_eq_true h).2.2
  · rw [vl_fits_1] at h; exact (of_decide_eq_true h).2.2
  · rw [vl_fits_2] at h; exact (of_decide_eq_true h).2.2
  · rw [vl_fits_3] at h; exact of_decide_eq_true h
  · exact absurd rfl h4
  · exact absurd rfl h5
  · rw [vl_fits_x hk] at h; cases h
theorem vl_fits_zero (k : Int) : fitsV k (zeroV k) = decide (0 ≤ k ∧ k ≤ 5) := by
  rcases vl_kinds k with rfl | rfl | rfl | rfl | rfl | rfl | hk
  · decide
  · decide
  · decide
  · decide
  · decide
  · decide
  · rw [vl_fits_x hk, decide_eq_false hk]
end Go.Proofs.Ytembafogbfcajaa
