/- FrameHead's walk. -/
import Derived.Test.YtikpgacapaebkaaFrAwake
namespace Go.Proofs.Ytikpgacapaebkaa
open Go.RowKit

/-- A frame that came in, written out. -/
theorem fra_arg {w : World} {cs : Array Value} {f : Fra} (h : rFra (All w) w cs.toList f) : ∃ A c, cs = #[.int .i64 f.1, .slice A f.2.length c] ∧ f.2.length ≤ c ∧ c ≤ maxLen ∧ (∀ x ∈ f.2, x < 256) ∧ (-9223372036854775808 ≤ f.1 ∧ f.1 ≤ 9223372036854775807) ∧ Rd w A (u8s f.2) := by
  obtain ⟨A, c, h1, h2, h3, h4, h5, h6⟩ := rFra_open h
  exact ⟨A, c, by cases cs; simpa using h1, h2, h3, h4, bounds_i64 h5, h6⟩
theorem putL_at {k j : Nat} {bs : List Nat} (hj : j < bs.length) : (putL k bs).getD (6 + j) 0 = bs.getD j 0 := by
  have h := putL_drop6 k bs []
  rw [List.append_nil, List.append_nil] at h
  have : (putL k bs).getD (6 + j) 0 = ((putL k bs).drop 6).getD j 0 := by simp [List.getD_eq_getElem?_getD, List.getElem?_drop]
  rw [this, h, sealL]
  simp [List.getD_eq_getElem?_getD, List.getElem?_append_left hj]

set_option maxRecDepth 100000 in
set_option maxHeartbeats 2000000 in
theorem frameHead_walk (w : World) (cs : Array Value) (f : Fra) (hf : rFra (All w) w cs.toList f) (i : Int) (i0 : -9223372036854775808 ≤ i) (i1 : i ≤ 9223372036854775807) :
    Calls Try.prog 8 #[.agg cs, .int .i64 i] w fun e w' => e = .returned (.bool true) ∧ Below w.heap.size w w' := by
  obtain ⟨A, c, rfl, hlc, hcm, hby, hkb, hrd⟩ := fra_arg hf
  obtain ⟨k, bs⟩ := f
  simp only at hlc hby hkb hrd ⊢
  clear hf
  have hB0 : Below w.heap.size w (w.alloc (.cells #[.int .i64 k, .slice A bs.length c] 24)) := (Below.refl _ w).alloc (Nat.le_refl _) _
  have hbx := Blk.new w 24 [.int .i64 k, .slice A bs.length c]
  have AW := Lib.hid (awake_any (w.alloc (.cells #[.int .i64 k, .slice A bs.length c] 24)))
  by_cases h600 : bs.length ≤ 600
  · have hd6 : decide ((600 : Int) < (bs.length : Int)) = false := by rw [decide_eq_false_iff_not]; omega
    by_cases hok : 0 ≤ k ∧ k ≤ 255 ∧ bs.length ≤ 255
    · obtain ⟨hk0, hk1, hl⟩ := hok
      obtain ⟨q, rfl⟩ := Int.eq_ofNat_of_zero_le hk0
      have P1 := Lib.hid (fun W h => put_ok q A bs.length c bs W (by omega) rfl (by omega) hby h)
      have hpl := putL_length q bs
      have hp0 : (putL q bs).getD 0 0 = q := rfl
      have hp1 : (putL q bs).getD 1 0 = bs.length := rfl
      have hpa := fun j (hj : j < bs.length) => putL_at (k := q) hj
      generalize putL q bs = pl at *
      have hd1 : decide ((0 : Int) ≤ (q : Int)) = true := by rw [decide_eq_true_eq]; omega
      have hd2 : decide ((q : Int) ≤ 255) = true := by rw [decide_eq_true_eq]; omega
      have hd3 : decide ((bs.length : Int) ≤ 255) = true := by rw [decide_eq_true_eq]; omega
      go_enter Try.func8, Try.ntmps8
      go_wp2_with fail
      refine AW.out.mono ?_
      rintro e w1 ⟨rfl, hB1⟩
      have hbx1 := hbx.below hbx.lt hB1
      have hB1' := hB0.trans (hB1.mono hB0.size)
      clear AW hB0 hB1 hbx
      have hc0 := hbx1.cell (j := 0) rfl
      have hc1 := hbx1.cell (j := 1) rfl
      go_wp2_with fail
      refine (P1.out w1 (hrd.below hB1')).mono ?_
      rintro e w2 ⟨g, cap, rfl, hcap, hg, hgl, hrp, hB2⟩
      have hbx2 := hbx1.below hbx1.lt hB2
      have hB2' := hB1'.trans (hB2.mono hB1'.size)
      clear hB2 hB1' P1 hc0 hc1 hbx1
      have hc0 := hbx2.cell (j := 0) rfl
      have hc1 := hbx2.cell (j := 1) rfl
      have hb0 := rd_u8 hrp (k := 0) (by omega)
      have hb1 := rd_u8 hrp (k := 1) (by omega)
      rw [hp0] at hb0
      rw [hp1] at hb1
      have hrb := hrd.below hB2'
      have hw10 : IntKind.i64.wrap ((bs.length : Int) + 10) = (bs.length : Int) + 10 := IntWalk.i64_in _ (by omega)
      have hcap0 : (0 : Int) < (bs.length : Int) + 10 := by omega
      have hcap1 : (1 : Int) < (bs.length : Int) + 10 := by omega
      have hne1 : (((bs.length : Int) + 10) != ((bs.length : Int) + 10)) = false := by simp
      have hne2 : ((q : Int) != (q : Int)) = false := by simp
      have hne3 : ((bs.length : Int) != (bs.length : Int)) = false := by simp
      go_wp2_with fail
      go_quiet (fail)
      by_cases hi : 0 ≤ i ∧ i < bs.length
      · obtain ⟨hi0, hi1⟩ := hi
        obtain ⟨j, rfl⟩ := Int.eq_ofNat_of_zero_le hi0
        have hj : j < bs.length := by omega
        have hbj := rd_u8 hrp (k := 6 + j) (by omega)
        rw [hpa j hj] at hbj
        obtain ⟨b, off, rfl, hblt, hbc⟩ := u8s_at hrb hj
        have hgd : bs.getD j 0 = bs[j] := by simp [hj]
        rw [← hgd] at hbc
        generalize bs.getD j 0 = x at *
        have hd4 : decide ((j : Int) < 0) = false := by rw [decide_eq_false_iff_not]; omega
        have hd5 : decide ((bs.length : Int) ≤ (j : Int)) = false := by rw [decide_eq_false_iff_not]; omega
        have hw6 : IntKind.i64.wrap (6 + (j : Int)) = 6 + (j : Int) := IntWalk.i64_in _ (by omega)
        have hi2 : (0 : Int) ≤ 6 + (j : Int) := by omega
        have hi3 : 6 + (j : Int) < (bs.length : Int) + 10 := by omega
        have hi4 : (6 + (j : Int)).toNat = 6 + j := by omega
        have hxx : ((x : Int) == (x : Int)) = true := by simp
        go_wp2_with fail
        go_quiet (fail)
        go_wp2
        go_ret
        exact ⟨rfl, below_drewN (below_drewN hB2' _) _⟩
      · have hor : decide (i < 0) = true ∨ (decide (i < 0) = false ∧ decide ((bs.length : Int) ≤ i) = true) := by
          simp only [decide_eq_true_eq, decide_eq_false_iff_not]; omega
        rcases hor with h0 | ⟨h0, h1⟩
        all_goals
          go_wp2_with fail
          go_quiet (fail)
          go_wp2
          go_ret
          exact ⟨rfl, below_drewN (below_drewN hB2' _) _⟩
    · have hor : decide (0 ≤ k) = false ∨ (decide (0 ≤ k) = true ∧ decide (k ≤ 255) = false) ∨ (decide (0 ≤ k) = true ∧ decide (k ≤ 255) = true ∧ decide ((bs.length : Int) ≤ 255) = false) := by
        simp only [decide_eq_true_eq, decide_eq_false_iff_not]; omega
      have P1 := Lib.hid (fun W => put_bad k A bs.length c W hok)
      go_enter Try.func8, Try.ntmps8
      go_wp2_with fail
      refine AW.out.mono ?_
      rintro e w1 ⟨rfl, hB1⟩
      have hbx1 := hbx.below hbx.lt hB1
      have hB1' := hB0.trans (hB1.mono hB0.size)
      clear AW hB0 hB1 hbx
      have hc0 := hbx1.cell (j := 0) rfl
      have hc1 := hbx1.cell (j := 1) rfl
      go_wp2_with fail
      refine (P1.out w1).mono ?_
      rintro e w2 ⟨rfl, hB2⟩
      have hbx2 := hbx1.below hbx1.lt hB2
      have hB2' := hB1'.trans (hB2.mono hB1'.size)
      clear hB2 hB1' P1 hc0 hc1 hbx1
      have hc0 := hbx2.cell (j := 0) rfl
      have hc1 := hbx2.cell (j := 1) rfl
      rcases hor with h0 | ⟨h0, h1⟩ | ⟨h0, h1, h2⟩
      all_goals
        go_wp2
        go_ret
        exact ⟨rfl, hB2'⟩
  · have hd6 : decide ((600 : Int) < (bs.length : Int)) = true := by rw [decide_eq_true_eq]; omega
    go_enter Try.func8, Try.ntmps8
    go_wp2_with fail
    refine AW.out.mono ?_
    rintro e w1 ⟨rfl, hB1⟩
    have hc1 := (hbx.below hbx.lt hB1).cell (j := 1) rfl
    go_wp2
    go_ret
    exact ⟨rfl, hB0.trans (hB1.mono hB0.size)⟩
end Go.Proofs.Ytikpgacapaebkaa
