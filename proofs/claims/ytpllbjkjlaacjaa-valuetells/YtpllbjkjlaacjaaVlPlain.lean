/- Fields' values and their bytes, on plain data: what fits, what is put, what is read, and the laws between these. No condition. -/
import Derived.Test.YtpllbjkjlaacjaaVaPlain
import Derived.Test.YtpllbjkjlaacjaaVaZig
import Derived.Test.YtpllbjkjlaacjaaNaNames
namespace Go.Proofs.Ytpllbjkjlaacjaa

/-- A value: its number, its text's bytes, where it leads. -/
abbrev Vl := Int × List Nat × Int
abbrev vz : Vl := (0, [], 0)
def fitsV (k : Int) (v : Vl) : Bool :=
  if k = 0 then decide (-128 ≤ v.1 ∧ v.1 ≤ 127 ∧ v.2.1 = [] ∧ v.2.2 = 0)
  else if k = 1 then decide (-32768 ≤ v.1 ∧ v.1 ≤ 32767 ∧ v.2.1 = [] ∧ v.2.2 = 0)
  else if k = 2 then decide (-2147483648 ≤ v.1 ∧ v.1 ≤ 2147483647 ∧ v.2.1 = [] ∧ v.2.2 = 0)
  else if k = 3 then decide (v.2.1 = [] ∧ v.2.2 = 0)
  else if k = 4 then decide (v.2.1.length ≤ 12 ∧ v.1 = 0 ∧ v.2.2 = 0)
  else if k = 5 then decide (-1 ≤ v.2.2 ∧ v.2.2 ≤ 1073741824 ∧ v.1 = 0 ∧ v.2.1 = [])
  else false
def zeroV (k : Int) : Vl := if k = 5 then (0, [], -1) else vz
def putV (k : Int) (v : Vl) : List Nat :=
  if k = 4 then vputL v.2.1.length ++ v.2.1 else if k = 5 then vputL (v.2.2 + 1).toNat else vputL (zigV v.1).toNat
/-- What is put: nothing, if it does not fit. -/
def putVF (k : Int) (v : Vl) : List Nat := if fitsV k v = true then putV k v else []
def getV (k : Int) (bs : List Nat) : Option (Vl × Nat) :=
  if (getL bs).2 = 0 then none
  else if k = 4 then if (getL bs).1 ≤ 12 ∧ (getL bs).2 + (getL bs).1 ≤ bs.length then some ((0, (bs.drop (getL bs).2).take (getL bs).1, 0), (getL bs).2 + (getL bs).1) else none
  else if k = 5 then if (getL bs).1 ≤ 1073741825 then some ((0, [], ((getL bs).1 : Int) - 1), (getL bs).2) else none
  else if fitsV k (zagV ((getL bs).1 : Int), [], 0) = true then some ((zagV ((getL bs).1 : Int), [], 0), (getL bs).2) else none
/-- A number of 64 bits, and bytes. -/
def OkV (v : Vl) : Prop := (-9223372036854775808 ≤ v.1 ∧ v.1 ≤ 9223372036854775807) ∧ ∀ x ∈ v.2.1, x < 256

theorem vl_fits_0 {v : Vl} : fitsV 0 v = decide (-128 ≤ v.1 ∧ v.1 ≤ 127 ∧ v.2.1 = [] ∧ v.2.2 = 0) := rfl
theorem vl_fits_1 {v : Vl} : fitsV 1 v = decide (-32768 ≤ v.1 ∧ v.1 ≤ 32767 ∧ v.2.1 = [] ∧ v.2.2 = 0) := rfl
theorem vl_fits_2 {v : Vl} : fitsV 2 v = decide (-2147483648 ≤ v.1 ∧ v.1 ≤ 2147483647 ∧ v.2.1 = [] ∧ v.2.2 = 0) := rfl
theorem vl_fits_3 {v : Vl} : fitsV 3 v = decide (v.2.1 = [] ∧ v.2.2 = 0) := rfl
theorem vl_fits_4 {v : Vl} : fitsV 4 v = decide (v.2.1.length ≤ 12 ∧ v.1 = 0 ∧ v.2.2 = 0) := rfl
theorem vl_fits_5 {v : Vl} : fitsV 5 v = decide (-1 ≤ v.2.2 ∧ v.2.2 ≤ 1073741824 ∧ v.1 = 0 ∧ v.2.1 = []) := rfl
theorem vl_fits_x {k : Int} {v : Vl} (h : ¬ (0 ≤ k ∧ k ≤ 5)) : fitsV k v = false := by
  rw [fitsV, if_neg (by omega), if_neg (by omega), if_neg (by omega), if_neg (by omega), if_neg (by omega), if_neg (by omega)]
/-- The vl_kinds, one by one. -/
theorem vl_kinds (k : Int) : k = 0 ∨ k = 1 ∨ k = 2 ∨ k = 3 ∨ k = 4 ∨ k = 5 ∨ ¬ (0 ≤ k ∧ k ≤ 5) := by omega
/-- What fits a number's kind is a number alone. -/
theorem vl_fits_num {k : Int} {v : Vl} (h4 : k ≠ 4) (h5 : k ≠ 5) (h : fitsV k v = true) : v.2.1 = [] ∧ v.2.2 = 0 := by
  rcases vl_kinds k with rfl | rfl | rfl | rfl | rfl | rfl | hk
  · rw [vl_fits_0] at h; exact (of_decide_eq_true h).2.2
  · rw [vl_fits_1] at h; exact (of_decide_eq_true h).2.2
  · rw [vl_fits_2] at h; exact (of_decide_eq_true h).2.2
  · rw [vl_fits_3] at h; exact of_decide_eq_true h
  · exact absurd rfl h4
  · exact absurd rfl h5
  · rw [vl_fits_x hk] at h; cases h
theorem vl_put_4 (v : Vl) : putV 4 v = vputL v.2.1.length ++ v.2.1 := rfl
theorem vl_put_5 (v : Vl) : putV 5 v = vputL (v.2.2 + 1).toNat := rfl
theorem vl_put_num {k : Int} {v : Vl} (h4 : k ≠ 4) (h5 : k ≠ 5) : putV k v = vputL (zigV v.1).toNat := by rw [putV, if_neg h4, if_neg h5]
theorem putVF_yes {k : Int} {v : Vl} (h : fitsV k v = true) : putVF k v = putV k v := if_pos h
theorem putVF_no {k : Int} {v : Vl} (h : fitsV k v = false) : putVF k v = [] := if_neg (by rw [h]; decide)
theorem vl_get_none {k : Int} {bs : List Nat} (h : (getL bs).2 = 0) : getV k bs = none := if_pos h
theorem vl_get_4 {bs : List Nat} (h : (getL bs).2 ≠ 0) : getV 4 bs = if (getL bs).1 ≤ 12 ∧ (getL bs).2 + (getL bs).1 ≤ bs.length then some ((0, (bs.drop (getL bs).2).take (getL bs).1, 0), (getL bs).2 + (getL bs).1) else none := by
  rw [getV, if_neg h]; rfl
theorem vl_get_5 {bs : List Nat} (h : (getL bs).2 ≠ 0) : getV 5 bs = if (getL bs).1 ≤ 1073741825 then some ((0, [], ((getL bs).1 : Int) - 1), (getL bs).2) else none := by
  rw [getV, if_neg h]; rfl
theorem vl_get_num {k : Int} {bs : List Nat} (h4 : k ≠ 4) (h5 : k ≠ 5) (h : (getL bs).2 ≠ 0) : getV k bs = if fitsV k (zagV ((getL bs).1 : Int), [], 0) = true then some ((zagV ((getL bs).1 : Int), [], 0), (getL bs).2) else none := by
  rw [getV, if_neg h, if_neg h4, if_neg h5]
theorem vl_zig_nat {n : Int} (h0 : -9223372036854775808 ≤ n) (h1 : n ≤ 9223372036854775807) : ∃ u : Nat, zigV n = (u : Int) ∧ u < 18446744073709551616 := by
  have := zig_range n h0 h1
  exact ⟨(zigV n).toNat, by omega, by omega⟩

theorem putV_pos (k : Int) (v : Vl) : 0 < (putV k v).length := by
  by_cases h4 : k = 4
  · subst h4
    have := putL_pos v.2.1.length
    rw [vl_put_4, List.length_append]; omega
  · by_cases h5 : k = 5
    · subst h5; exact putL_pos _
    · rw [vl_put_num h4 h5]; exact putL_pos _
/-- What is put has at most thirteen bytes. -/
theorem putV_len {k : Int} {v : Vl} (hv : OkV v) (h : fitsV k v = true) : (putV k v).length ≤ 13 := by
  by_cases h4 : k = 4
  · subst h4
    rw [vl_fits_4] at h
    have h := (of_decide_eq_true h).1
    rw [vl_put_4, putL_small (by omega)]; simp only [List.length_append, List.length_cons, List.length_nil]; omega
  · by_cases h5 : k = 5
    · subst h5
      rw [vl_fits_5] at h
      have h := of_decide_eq_true h
      have := putL_len10 (v.2.2 + 1).toNat (by omega)
      rw [vl_put_5]; omega
    · obtain ⟨u, hu, hlt⟩ := vl_zig_nat hv.1.1 hv.1.2
      rw [vl_put_num h4 h5, hu]
      have := putL_len10 u hlt
      rw [Int.toNat_natCast]; omega
theorem putVF_len {k : Int} {v : Vl} (hv : OkV v) : (putVF k v).length ≤ 13 := by
  cases h : fitsV k v
  · rw [putVF_no h]; simp
  · rw [putVF_yes h]; exact putV_len hv h
theorem putV_byte {k : Int} {v : Vl} (hv : OkV v) : ∀ x ∈ putV k v, x < 256 := by
  intro x hx
  by_cases h4 : k = 4
  · subst h4
    rw [vl_put_4, List.mem_append] at hx
    exact hx.elim (vputL_byte _ x) (hv.2 x)
  · by_cases h5 : k = 5
    · subst h5; exact vputL_byte _ x hx
    · rw [vl_put_num h4 h5] at hx; exact vputL_byte _ x hx
theorem putVF_byte {k : Int} {v : Vl} (hv : OkV v) : ∀ x ∈ putVF k v, x < 256 := by
  intro x hx
  cases h : fitsV k v
  · rw [putVF_no h] at hx; cases hx
  · rw [putVF_yes h] at hx; exact putV_byte hv x hx
theorem vl_zag_zig_nat {n : Int} {u : Nat} (h : zigV n = (u : Int)) : zagV (u : Int) = n := by rw [← h, zag_zig]

/-- What is put is read, whatever stands behind. -/
theorem vl_get_put {k : Int} {v : Vl} (hv : OkV v) (h : fitsV k v = true) (r : List Nat) : getV k (putV k v ++ r) = some (v, (putV k v).length) := by
  obtain ⟨n, s, d⟩ := v
  by_cases h4 : k = 4
  · subst h4
    rw [vl_fits_4] at h
    obtain ⟨h1, h2, h3⟩ := of_decide_eq_true h
    simp only at h1 h2 h3
    subst h2 h3
    have hg : getL (putV 4 (0, s, 0) ++ r) = (s.length, 1) := by
      rw [vl_put_4, List.append_assoc, getL_put _ _ (by simp only; omega)]
      simp only
      rw [putL_small (by omega)]; rfl
    have hp : putV 4 (0, s, 0) = s.length :: s := by rw [vl_put_4, putL_small (by simp only; omega)]; rfl
    rw [vl_get_4 (by rw [hg]; exact Nat.one_ne_zero), hg, hp]
    rw [if_pos ⟨h1, by simp only [List.length_append, List.length_cons]; omega⟩]
    simp only [List.cons_append, List.drop_succ_cons, List.drop_zero, List.take_left', List.length_cons]
    simp
    omega
  · by_cases h5 : k = 5
    · subst h5
      rw [vl_fits_5] at h
      obtain ⟨h1, h2, h3, h6⟩ := of_decide_eq_true h
      simp only at h1 h2 h3 h6
      subst h3 h6
      have hg : getL (putV 5 (0, [], d) ++ r) = ((d + 1).toNat, (putV 5 (0, [], d)).length) := by
        rw [vl_put_5]; exact getL_put _ _ (by simp only; omega)
      have hp := putV_pos 5 (0, [], d)
      rw [vl_get_5 (by rw [hg]; simp only; omega), hg, if_pos (by simp only; omega)]
      simp only [Option.some.injEq, Prod.mk.injEq, and_true, true_and]
      omega
    · obtain ⟨e1, e2⟩ := vl_fits_num h4 h5 h
      simp only at e1 e2
      subst e1 e2
      obtain ⟨u, hu, hlt⟩ := vl_zig_nat hv.1.1 hv.1.2
      simp only at hu
      have hpp : putV k (n, [], 0) = vputL u := by rw [vl_put_num h4 h5]; simp only; rw [hu, Int.toNat_natCast]
      have hg : getL (putV k (n, [], 0) ++ r) = (u, (putV k (n, [], 0)).length) := by rw [hpp]; exact getL_put _ _ hlt
      have hp := putV_pos k (n, [], 0)
      rw [vl_get_num h4 h5 (by rw [hg]; simp only; omega), hg]
      simp only
      rw [vl_zag_zig_nat hu, if_pos h]
/-- What is read fits, and is put as the same bytes. -/
theorem vl_get_back {k : Int} {bs : List Nat} {v : Vl} {m : Nat} (hb : ∀ x ∈ bs, x < 256) (h : getV k bs = some (v, m)) : fitsV k v = true ∧ m ≤ bs.length ∧ putV k v = bs.take m ∧ OkV v := by
  by_cases h0 : (getL bs).2 = 0
  · rw [vl_get_none h0] at h; cases h
  · obtain ⟨hle, h10, hlt⟩ := getL_le bs hb
    have hback := getL_back bs hb h0
    by_cases h4 : k = 4
    · subst h4
      rw [vl_get_4 h0] at h
      split at h
      case isFalse => cases h
      case isTrue hc =>
        obtain ⟨hc1, hc2⟩ := hc
        simp only [Option.some.injEq, Prod.mk.injEq] at h
        obtain ⟨rfl, rfl⟩ := h
        have hlen : ((bs.drop (getL bs).2).take (getL bs).1).length = (getL bs).1 := by rw [List.length_take, List.length_drop]; omega
        refine ⟨?_, hc2, ?_, ⟨by simp only; omega, fun x hx => hb x (List.mem_of_mem_drop (List.mem_of_mem_take hx))⟩⟩
        · rw [vl_fits_4]; exact decide_eq_true ⟨by simp only; omega, rfl, rfl⟩
        · rw [vl_put_4]; simp only
          rw [hlen, hback.2.2.1, List.take_add]
    · by_cases h5 : k = 5
      · subst h5
        rw [vl_get_5 h0] at h
        split at h
        case isFalse => cases h
        case isTrue hc =>
          simp only [Option.some.injEq, Prod.mk.injEq] at h
          obtain ⟨rfl, rfl⟩ := h
          refine ⟨?_, hle, ?_, ⟨by simp only; omega, fun x hx => by cases hx⟩⟩
          · rw [vl_fits_5]; exact decide_eq_true ⟨by simp only; omega, by simp only; omega, rfl, rfl⟩
          · rw [vl_put_5]; simp only
            rw [show ((getL bs).1 - 1 + 1 : Int).toNat = (getL bs).1 by omega, hback.2.2.1]
      · rw [vl_get_num h4 h5 h0] at h
        split at h
        case isFalse => cases h
        case isTrue hc =>
          simp only [Option.some.injEq, Prod.mk.injEq] at h
          obtain ⟨rfl, rfl⟩ := h
          have hz := zag_range (getL bs).1 (by omega) (by omega)
          refine ⟨hc, hle, ?_, ⟨hz, fun x hx => by cases hx⟩⟩
          rw [vl_put_num h4 h5]; simp only
          rw [zig_zag _ (by omega), Int.toNat_natCast, hback.2.2.1]
/-- No beginning of a value's bytes, but all of them, is one's. -/
theorem vl_get_cut {k : Int} {v : Vl} (hv : OkV v) (h : fitsV k v = true) {j : Nat} (hj : j < (putV k v).length) : getV k ((putV k v).take j) = none := by
  by_cases h4 : k = 4
  · subst h4
    rw [vl_fits_4] at h
    obtain ⟨h1, h2, h3⟩ := of_decide_eq_true h
    have hp : putV 4 v = v.2.1.length :: v.2.1 := by rw [vl_put_4, putL_small (by omega)]; rfl
    rw [hp] at hj ⊢
    rw [List.length_cons] at hj
    cases j with
    | zero => exact vl_get_none rfl
    | succ i =>
      rw [List.take_succ_cons]
      have hg : getL (v.2.1.length :: v.2.1.take i) = (v.2.1.length, 1) := by
        have := getL_put v.2.1.length (v.2.1.take i) (by omega)
        rw [putL_small (by omega)] at this
        exact this
      rw [vl_get_4 (by rw [hg]; exact Nat.one_ne_zero), hg, if_neg]
      rw [List.length_cons, List.length_take]
      simp only
      omega
  · by_cases h5 : k = 5
    · subst h5
      rw [vl_fits_5] at h
      have h := of_decide_eq_true h
      refine vl_get_none ?_
      rw [vl_put_5] at hj ⊢
      rw [getL_cut _ _ (by omega) hj]
    · obtain ⟨u, hu, hlt⟩ := vl_zig_nat hv.1.1 hv.1.2
      refine vl_get_none ?_
      rw [vl_put_num h4 h5, hu, Int.toNat_natCast] at hj ⊢
      rw [getL_cut _ _ hlt hj]
/-- Values that fit, and have the same bytes, are the same. -/
theorem vl_put_inj {k : Int} {v v' : Vl} (hv : OkV v) (hv' : OkV v') (h : fitsV k v = true) (h' : fitsV k v' = true) (he : putV k v = putV k v') : v = v' := by
  have a := vl_get_put hv h []
  have b := vl_get_put hv' h' []
  rw [he, b] at a
  simpa using a.symm
/-- What fits a number of fewer bits fits one of more, with the same bytes. -/
theorem vl_fits_wide {k m : Int} {v : Vl} (h0 : 0 ≤ k) (hkm : k ≤ m) (h3 : m ≤ 3) (h : fitsV k v = true) : fitsV m v = true ∧ putV k v = putV m v := by
  refine ⟨?_, by rw [vl_put_num (by omega) (by omega), vl_put_num (by omega) (by omega)]⟩
  obtain ⟨e1, e2⟩ := vl_fits_num (by omega) (by omega) h
  have hk : k = 0 ∨ k = 1 ∨ k = 2 ∨ k = 3 := by omega
  have hm : m = 0 ∨ m = 1 ∨ m = 2 ∨ m = 3 := by omega
  rcases hm with rfl | rfl | rfl | rfl
  · obtain rfl : k = 0 := by omega
    exact h
  · rcases hk with rfl | rfl | rfl | rfl <;> first | omega | (simp only [vl_fits_0, vl_fits_1, decide_eq_true_eq] at h ⊢; exact ⟨by omega, by omega, e1, e2⟩)
  · rcases hk with rfl | rfl | rfl | rfl <;> first | omega | (simp only [vl_fits_0, vl_fits_1, vl_fits_2, decide_eq_true_eq] at h ⊢; exact ⟨by omega, by omega, e1, e2⟩)
  · rw [vl_fits_3]; exact decide_eq_true ⟨e1, e2⟩
theorem vl_fits_zero (k : Int) : fitsV k (zeroV k) = decide (0 ≤ k ∧ k ≤ 5) := by
  rcases vl_kinds k with rfl | rfl | rfl | rfl | rfl | rfl | hk
  · decide
  · decide
  · decide
  · decide
  · decide
  · decide
  · rw [vl_fits_x hk, decide_eq_false hk]
end Go.Proofs.Ytpllbjkjlaacjaa
