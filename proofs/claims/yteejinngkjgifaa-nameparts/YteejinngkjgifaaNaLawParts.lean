/- NameParts' walk. -/
import Derived.Test.YteejinngkjgifaaNaAwake
namespace Go.Proofs.Yteejinngkjgifaa
open Go.RowKit

theorem byt_at2 {s : ByteArray} {k : Nat} (h : k < s.size) : (byt s).getD k 0 = (s[k]'h).toNat := by
  rw [List.getD_eq_getElem?_getD, List.getElem?_eq_getElem (by simpa using h)]
  simp only [Option.getD_some, byt, List.getElem_map, Array.getElem_toList]; rfl

set_option maxRecDepth 100000 in
set_option maxHeartbeats 4000000 in
theorem nameParts_walk (w : World) (a : ByteArray) (_hsa : a.size ≤ maxLen) (b : ByteArray) (_hsb : b.size ≤ maxLen) (k : Int) (k0 : -9223372036854775808 ≤ k) (k1 : k ≤ 9223372036854775807) :
    Calls Try.prog 6 #[.string a, .string b, .int .i64 k] w fun e w' => e = .returned (.bool true) ∧ Below w.heap.size w w' := by
  have HA := Lib.hid (fun W => len_any a W)
  have HB := Lib.hid (fun W => len_any b W)
  by_cases hna : lenN (byt a) = 0
  · rw [hna] at HA
    generalize lenN (byt b) = m at *
    go_enter Try.func6, Try.ntmps6
    go_wp2_with fail
    refine (awake_any _).mono ?_
    rintro e w1 ⟨rfl, hB1⟩
    go_wp2_with fail
    refine (HA.out _).mono ?_
    rintro e w2 ⟨rfl, hB2⟩
    go_wp2_with fail
    refine (HB.out _).mono ?_
    rintro e w3 ⟨rfl, hB3⟩
    go_wp2
    go_ret
    exact ⟨rfl, (hB1.trans (hB2.mono hB1.size)).trans (hB3.mono (Nat.le_trans hB1.size hB2.size))⟩
  by_cases hnb : lenN (byt b) = 0
  · rw [hnb] at HB
    have hn0 : ((lenN (byt a) : Int) == 0) = false := by simp; omega
    generalize lenN (byt a) = n at *
    go_enter Try.func6, Try.ntmps6
    go_wp2_with fail
    refine (awake_any _).mono ?_
    rintro e w1 ⟨rfl, hB1⟩
    go_wp2_with fail
    refine (HA.out _).mono ?_
    rintro e w2 ⟨rfl, hB2⟩
    go_wp2_with fail
    refine (HB.out _).mono ?_
    rintro e w3 ⟨rfl, hB3⟩
    go_wp2
    go_ret
    exact ⟨rfl, (hB1.trans (hB2.mono hB1.size)).trans (hB3.mono (Nat.le_trans hB1.size hB2.size))⟩
  have hma : mayN (byt a) = true := by
    cases h : mayN (byt a)
    · exact absurd (lenN_pos.2 h) hna
    · rfl
  have hmb : mayN (byt b) = true := by
    cases h : mayN (byt b)
    · exact absurd (lenN_pos.2 h) hnb
    · rfl
  obtain ⟨hn1, hn8, hnl⟩ := (lenN_le hma).2
  obtain ⟨hm1, hm8, _⟩ := (lenN_le hmb).2
  rw [byt_length] at hnl
  have hza := may_size hma
  have hzb := may_size hmb
  obtain ⟨hc1, hc2⟩ := may_cat hma hmb
  have HM := Lib.hid (fun W => may_any (a ++ b) W)
  have HL := Lib.hid (fun W => len_any (a ++ b) W)
  rw [byt_append] at HM HL
  have HK : Hid (∀ kk : Nat, 1 ≤ kk → (hk : kk < a.size) → mid ((a[kk]'hk).toNat) = false → ∃ n2 : Nat, n2 < lenN (byt a) ∧ (∀ W, Calls Try.prog 14 #[.string (a.extract 0 kk)] W fun e w' => e = .returned (.bool true) ∧ Below W.heap.size W w') ∧
      (∀ W, Calls Try.prog 15 #[.string (a.extract 0 kk)] W fun e w' => e = .returned (.int .i64 (n2 : Int)) ∧ Below W.heap.size W w')) := fun kk h1 h2 h3 => by
    rw [← byt_at2 h2] at h3
    obtain ⟨h4, h5⟩ := may_take hma h1 (by rw [byt_length]; exact h2) h3
    have e : byt (a.extract 0 kk) = (byt a).take kk := by rw [byt_extract, List.drop_zero]
    refine ⟨_, h5, fun W => ?_, fun W => ?_⟩
    · refine (may_any _ W).mono fun e' w' ⟨he, hB⟩ => ⟨?_, hB⟩
      rw [e, h4] at he; exact he
    · refine (len_any _ W).mono fun e' w' ⟨he, hB⟩ => ⟨?_, hB⟩
      rw [e] at he; exact he
  rw [hc1] at HM hc2
  have hn0 : ((lenN (byt a) : Int) == 0) = false := by simp; omega
  have hm0 : ((lenN (byt b) : Int) == 0) = false := by simp; omega
  have HC2 := Lib.hid hc2
  clear hc1 hc2 hma hmb hna hnb
  generalize lenN (byt a) = n at *
  generalize lenN (byt b) = m at *
  generalize lenN (byt a ++ byt b) = nm at *
  have hd1 : decide ((a.size : Int) < (n : Int)) = false := by simp; omega
  by_cases hk1 : k < 1
  · have hk1' : decide (k < 1) = true := decide_eq_true hk1
    clear HK
    go_enter Try.func6, Try.ntmps6
    go_wp2_with fail
    refine (awake_any _).mono ?_
    rintro e w1 ⟨rfl, hB⟩
    go_wp2_with fail
    refine (HA.out _).mono ?_
    rintro e w2 ⟨rfl, hBn⟩
    have hB' := hB.trans (hBn.mono hB.size)
    clear hB hBn
    have hB := hB'
    clear hB'
    go_wp2_with fail
    refine (HB.out _).mono ?_
    rintro e w3 ⟨rfl, hBn⟩
    have hB' := hB.trans (hBn.mono hB.size)
    clear hB hBn
    have hB := hB'
    clear hB'
    by_cases h8 : n + m ≤ 8
    · rw [decide_eq_true h8] at HM HC2
      obtain rfl := HC2.out rfl
      have h8' : decide ((n : Int) + (m : Int) ≤ 8) = true := by simp; omega
      clear HC2
      go_wp2_with fail
      refine (HM.out _).mono ?_
      rintro e w4 ⟨rfl, hBn⟩
      have hB' := hB.trans (hBn.mono hB.size)
      clear hB hBn
      have hB := hB'
      clear hB'
      go_wp2_with fail
      refine (HM.out _).mono ?_
      rintro e w5 ⟨rfl, hBn⟩
      have hB' := hB.trans (hBn.mono hB.size)
      clear hB hBn
      have hB := hB'
      clear hB'
      go_wp2_with fail
      refine (HL.out _).mono ?_
      rintro e w6 ⟨rfl, hBn⟩
      have hB' := hB.trans (hBn.mono hB.size)
      clear hB hBn
      have hB := hB'
      clear hB'
      go_wp2
      go_ret
      exact ⟨rfl, hB⟩
    · rw [decide_eq_false h8] at HM
      have h8' : decide ((n : Int) + (m : Int) ≤ 8) = false := by simp; omega
      clear HC2 HL
      go_wp2_with fail
      refine (HM.out _).mono ?_
      rintro e w4 ⟨rfl, hBn⟩
      have hB' := hB.trans (hBn.mono hB.size)
      clear hB hBn
      have hB := hB'
      clear hB'
      go_wp2_with fail
      refine (HM.out _).mono ?_
      rintro e w5 ⟨rfl, hBn⟩
      have hB' := hB.trans (hBn.mono hB.size)
      clear hB hBn
      have hB := hB'
      clear hB'
      go_wp2
      go_ret
      exact ⟨rfl, hB⟩
  have hk1' : decide (k < 1) = false := decide_eq_false hk1
  by_cases hk2 : (a.size : Int) ≤ k
  · have hk2' : decide ((a.size : Int) ≤ k) = true := decide_eq_true hk2
    clear HK
    go_enter Try.func6, Try.ntmps6
    go_wp2_with fail
    refine (awake_any _).mono ?_
    rintro e w1 ⟨rfl, hB⟩
    go_wp2_with fail
    refine (HA.out _).mono ?_
    rintro e w2 ⟨rfl, hBn⟩
    have hB' := hB.trans (hBn.mono hB.size)
    clear hB hBn
    have hB := hB'
    clear hB'
    go_wp2_with fail
    refine (HB.out _).mono ?_
    rintro e w3 ⟨rfl, hBn⟩
    have hB' := hB.trans (hBn.mono hB.size)
    clear hB hBn
    have hB := hB'
    clear hB'
    by_cases h8 : n + m ≤ 8
    · rw [decide_eq_true h8] at HM HC2
      obtain rfl := HC2.out rfl
      have h8' : decide ((n : Int) + (m : Int) ≤ 8) = true := by simp; omega
      clear HC2
      go_wp2_with fail
      refine (HM.out _).mono ?_
      rintro e w4 ⟨rfl, hBn⟩
      have hB' := hB.trans (hBn.mono hB.size)
      clear hB hBn
      have hB := hB'
      clear hB'
      go_wp2_with fail
      refine (HM.out _).mono ?_
      rintro e w5 ⟨rfl, hBn⟩
      have hB' := hB.trans (hBn.mono hB.size)
      clear hB hBn
      have hB := hB'
      clear hB'
      go_wp2_with fail
      refine (HL.out _).mono ?_
      rintro e w6 ⟨rfl, hBn⟩
      have hB' := hB.trans (hBn.mono hB.size)
      clear hB hBn
      have hB := hB'
      clear hB'
      go_wp2
      go_ret
      exact ⟨rfl, hB⟩
    · rw [decide_eq_false h8] at HM
      have h8' : decide ((n : Int) + (m : Int) ≤ 8) = false := by simp; omega
      clear HC2 HL
      go_wp2_with fail
      refine (HM.out _).mono ?_
      rintro e w4 ⟨rfl, hBn⟩
      have hB' := hB.trans (hBn.mono hB.size)
      clear hB hBn
      have hB := hB'
      clear hB'
      go_wp2_with fail
      refine (HM.out _).mono ?_
      rintro e w5 ⟨rfl, hBn⟩
      have hB' := hB.trans (hBn.mono hB.size)
      clear hB hBn
      have hB := hB'
      clear hB'
      go_wp2
      go_ret
      exact ⟨rfl, hB⟩
  have hk2' : decide ((a.size : Int) ≤ k) = false := decide_eq_false hk2
  obtain ⟨kk, rfl⟩ := Int.eq_ofNat_of_zero_le (show 0 ≤ k by omega)
  have hlt : kk < a.size := by omega
  have hlt' : (kk : Int) < (a.size : Int) := by omega
  have HQ := Lib.hid (HK.out kk (by omega) hlt)
  clear HK
  have hby : (a[kk]'hlt).toNat < 256 := UInt8.toNat_lt _
  by_cases hm : mid ((a[kk]'hlt).toNat) = true
  · have hm1 := mid_of hm
    have hm2 : decide ((128 : Int) ≤ ((a[kk]'hlt).toNat : Int)) = true := by simp; omega
    have hm3 : decide (((a[kk]'hlt).toNat : Int) < 192) = true := by simp; omega
    clear HQ hm
    go_enter Try.func6, Try.ntmps6
    go_wp2_with fail
    refine (awake_any _).mono ?_
    rintro e w1 ⟨rfl, hB⟩
    go_wp2_with fail
    refine (HA.out _).mono ?_
    rintro e w2 ⟨rfl, hBn⟩
    have hB' := hB.trans (hBn.mono hB.size)
    clear hB hBn
    have hB := hB'
    clear hB'
    go_wp2_with fail
    refine (HB.out _).mono ?_
    rintro e w3 ⟨rfl, hBn⟩
    have hB' := hB.trans (hBn.mono hB.size)
    clear hB hBn
    have hB := hB'
    clear hB'
    by_cases h8 : n + m ≤ 8
    · rw [decide_eq_true h8] at HM HC2
      obtain rfl := HC2.out rfl
      have h8' : decide ((n : Int) + (m : Int) ≤ 8) = true := by simp; omega
      clear HC2
      go_wp2_with fail
      refine (HM.out _).mono ?_
      rintro e w4 ⟨rfl, hBn⟩
      have hB' := hB.trans (hBn.mono hB.size)
      clear hB hBn
      have hB := hB'
      clear hB'
      go_wp2_with fail
      refine (HM.out _).mono ?_
      rintro e w5 ⟨rfl, hBn⟩
      have hB' := hB.trans (hBn.mono hB.size)
      clear hB hBn
      have hB := hB'
      clear hB'
      go_wp2_with fail
      refine (HL.out _).mono ?_
      rintro e w6 ⟨rfl, hBn⟩
      have hB' := hB.trans (hBn.mono hB.size)
      clear hB hBn
      have hB := hB'
      clear hB'
      go_wp2
      go_ret
      exact ⟨rfl, hB⟩
    · rw [decide_eq_false h8] at HM
      have h8' : decide ((n : Int) + (m : Int) ≤ 8) = false := by simp; omega
      clear HC2 HL
      go_wp2_with fail
      refine (HM.out _).mono ?_
      rintro e w4 ⟨rfl, hBn⟩
      have hB' := hB.trans (hBn.mono hB.size)
      clear hB hBn
      have hB := hB'
      clear hB'
      go_wp2_with fail
      refine (HM.out _).mono ?_
      rintro e w5 ⟨rfl, hBn⟩
      have hB' := hB.trans (hBn.mono hB.size)
      clear hB hBn
      have hB := hB'
      clear hB'
      go_wp2
      go_ret
      exact ⟨rfl, hB⟩
  · obtain ⟨n2, hn2, hX, hY⟩ := HQ.out (by simpa using hm)
    have HX := Lib.hid hX
    have HY := Lib.hid hY
    clear hX hY HQ
    have hlss : decide ((n2 : Int) < (n : Int)) = true := by simp; omega
    have hlss2 : decide (n2 < n) = true := by simp; omega
    have hmid : ¬ (128 ≤ (a[kk]'hlt).toNat ∧ (a[kk]'hlt).toNat < 192) := fun h => hm (decide_eq_true h)
    clear hm
    by_cases h128 : 128 ≤ (a[kk]'hlt).toNat
    · have hm2 : decide ((128 : Int) ≤ ((a[kk]'hlt).toNat : Int)) = true := by simp; omega
      have hm3 : decide (((a[kk]'hlt).toNat : Int) < 192) = false := by simp; omega
      go_enter Try.func6, Try.ntmps6
      go_wp2_with fail
      refine (awake_any _).mono ?_
      rintro e w1 ⟨rfl, hB⟩
      go_wp2_with fail
      refine (HA.out _).mono ?_
      rintro e w2 ⟨rfl, hBn⟩
      have hB' := hB.trans (hBn.mono hB.size)
      clear hB hBn
      have hB := hB'
      clear hB'
      go_wp2_with fail
      refine (HB.out _).mono ?_
      rintro e w3 ⟨rfl, hBn⟩
      have hB' := hB.trans (hBn.mono hB.size)
      clear hB hBn
      have hB := hB'
      clear hB'
      by_cases h8 : n + m ≤ 8
      · rw [decide_eq_true h8] at HM HC2
        obtain rfl := HC2.out rfl
        have h8' : decide ((n : Int) + (m : Int) ≤ 8) = true := by simp; omega
        clear HC2
        go_wp2_with fail
        refine (HM.out _).mono ?_
        rintro e w4 ⟨rfl, hBn⟩
        have hB' := hB.trans (hBn.mono hB.size)
        clear hB hBn
        have hB := hB'
        clear hB'
        go_wp2_with fail
        refine (HM.out _).mono ?_
        rintro e w5 ⟨rfl, hBn⟩
        have hB' := hB.trans (hBn.mono hB.size)
        clear hB hBn
        have hB := hB'
        clear hB'
        go_wp2_with fail
        refine (HL.out _).mono ?_
        rintro e w6 ⟨rfl, hBn⟩
        have hB' := hB.trans (hBn.mono hB.size)
        clear hB hBn
        have hB := hB'
        clear hB'
        go_wp2_with fail
        refine (HX.out _).mono ?_
        rintro e w7 ⟨rfl, hBn⟩
        have hB' := hB.trans (hBn.mono hB.size)
        clear hB hBn
        have hB := hB'
        clear hB'
        go_wp2_with fail
        refine (HY.out _).mono ?_
        rintro e w8 ⟨rfl, hBn⟩
        have hB' := hB.trans (hBn.mono hB.size)
        clear hB hBn
        have hB := hB'
        clear hB'
        go_wp2
        go_ret
        exact ⟨rfl, hB⟩
      · rw [decide_eq_false h8] at HM
        have h8' : decide ((n : Int) + (m : Int) ≤ 8) = false := by simp; omega
        clear HC2 HL
        go_wp2_with fail
        refine (HM.out _).mono ?_
        rintro e w4 ⟨rfl, hBn⟩
        have hB' := hB.trans (hBn.mono hB.size)
        clear hB hBn
        have hB := hB'
        clear hB'
        go_wp2_with fail
        refine (HM.out _).mono ?_
        rintro e w5 ⟨rfl, hBn⟩
        have hB' := hB.trans (hBn.mono hB.size)
        clear hB hBn
        have hB := hB'
        clear hB'
        go_wp2_with fail
        refine (HX.out _).mono ?_
        rintro e w7 ⟨rfl, hBn⟩
        have hB' := hB.trans (hBn.mono hB.size)
        clear hB hBn
        have hB := hB'
        clear hB'
        go_wp2_with fail
        refine (HY.out _).mono ?_
        rintro e w8 ⟨rfl, hBn⟩
        have hB' := hB.trans (hBn.mono hB.size)
        clear hB hBn
        have hB := hB'
        clear hB'
        go_wp2
        go_ret
        exact ⟨rfl, hB⟩
    · have hm2 : decide ((128 : Int) ≤ ((a[kk]'hlt).toNat : Int)) = false := by simp; omega
      go_enter Try.func6, Try.ntmps6
      go_wp2_with fail
      refine (awake_any _).mono ?_
      rintro e w1 ⟨rfl, hB⟩
      go_wp2_with fail
      refine (HA.out _).mono ?_
      rintro e w2 ⟨rfl, hBn⟩
      have hB' := hB.trans (hBn.mono hB.size)
      clear hB hBn
      have hB := hB'
      clear hB'
      go_wp2_with fail
      refine (HB.out _).mono ?_
      rintro e w3 ⟨rfl, hBn⟩
      have hB' := hB.trans (hBn.mono hB.size)
      clear hB hBn
      have hB := hB'
      clear hB'
      by_cases h8 : n + m ≤ 8
      · rw [decide_eq_true h8] at HM HC2
        obtain rfl := HC2.out rfl
        have h8' : decide ((n : Int) + (m : Int) ≤ 8) = true := by simp; omega
        clear HC2
        go_wp2_with fail
        refine (HM.out _).mono ?_
        rintro e w4 ⟨rfl, hBn⟩
        have hB' := hB.trans (hBn.mono hB.size)
        clear hB hBn
        have hB := hB'
        clear hB'
        go_wp2_with fail
        refine (HM.out _).mono ?_
        rintro e w5 ⟨rfl, hBn⟩
        have hB' := hB.trans (hBn.mono hB.size)
        clear hB hBn
        have hB := hB'
        clear hB'
        go_wp2_with fail
        refine (HL.out _).mono ?_
        rintro e w6 ⟨rfl, hBn⟩
        have hB' := hB.trans (hBn.mono hB.size)
        clear hB hBn
        have hB := hB'
        clear hB'
        go_wp2_with fail
        refine (HX.out _).mono ?_
        rintro e w7 ⟨rfl, hBn⟩
        have hB' := hB.trans (hBn.mono hB.size)
        clear hB hBn
        have hB := hB'
        clear hB'
        go_wp2_with fail
        refine (HY.out _).mono ?_
        rintro e w8 ⟨rfl, hBn⟩
        have hB' := hB.trans (hBn.mono hB.size)
        clear hB hBn
        have hB := hB'
        clear hB'
        go_wp2
        go_ret
        exact ⟨rfl, hB⟩
      · rw [decide_eq_false h8] at HM
        have h8' : decide ((n : Int) + (m : Int) ≤ 8) = false := by simp; omega
        clear HC2 HL
        go_wp2_with fail
        refine (HM.out _).mono ?_
        rintro e w4 ⟨rfl, hBn⟩
        have hB' := hB.trans (hBn.mono hB.size)
        clear hB hBn
        have hB := hB'
        clear hB'
        go_wp2_with fail
        refine (HM.out _).mono ?_
        rintro e w5 ⟨rfl, hBn⟩
        have hB' := hB.trans (hBn.mono hB.size)
        clear hB hBn
        have hB := hB'
        clear hB'
        go_wp2_with fail
        refine (HX.out _).mono ?_
        rintro e w7 ⟨rfl, hBn⟩
        have hB' := hB.trans (hBn.mono hB.size)
        clear hB hBn
        have hB := hB'
        clear hB'
        go_wp2_with fail
        refine (HY.out _).mono ?_
        rintro e w8 ⟨rfl, hBn⟩
        have hB' := hB.trans (hBn.mono hB.size)
        clear hB hBn
        have hB := hB'
        clear hB'
        go_wp2
        go_ret
        exact ⟨rfl, hB⟩
end Go.Proofs.Yteejinngkjgifaa
