/- NameSigns' walk. -/
import Derived.Test.YteejinngkjgifaaNaAwake
import Derived.Test.YteejinngkjgifaaAppend
namespace Go.Proofs.Yteejinngkjgifaa
open Go.RowKit

theorem byt_strB1 (c : Nat) (h : c < 256) : byt (strB [c]) = [c] := by
  show [(UInt8.ofNat c).toNat] = [c]
  rw [UInt8.toNat_ofNat', Nat.mod_eq_of_lt h]
theorem byt_7 : byt ⟨#[55]⟩ = [55] := rfl
theorem odd_none {l : List Nat} {c : Nat} (hm : c ∈ l) (h1 : c < 128) (h2 : okS c = false) : mayN l = false := by
  cases h : mayN l
  · rfl
  · have := may_low h hm h1
    rw [this] at h2; cases h2

set_option maxRecDepth 100000 in
set_option maxHeartbeats 8000000 in
theorem nameSigns_walk (w : World) (s : ByteArray) (_hs : s.size ≤ maxLen) (c : Nat) (hc : c < 256) (k : Int) (k0 : -9223372036854775808 ≤ k) (k1 : k ≤ 9223372036854775807) :
    Calls Try.prog 7 #[.string s, .int .u8 (c : Int), .int .i64 k] w fun e w' => e = .returned (.bool true) ∧ Below w.heap.size w w' := by
  by_cases h200 : s.size ≤ 200
  rotate_left
  · have h200' : decide ((200 : Int) < (s.size : Int)) = true := by simp; omega
    go_enter Try.func7, Try.ntmps7
    go_wp2_with fail
    refine (awake_any _).mono ?_
    rintro e w1 ⟨rfl, hB⟩
    go_wp2
    go_ret
    exact ⟨rfl, hB⟩
  have h200' : decide ((200 : Int) < (s.size : Int)) = false := by simp; omega
  by_cases hk1 : k < 0
  · have hk1' : decide (k < 0) = true := decide_eq_true hk1
    go_enter Try.func7, Try.ntmps7
    go_wp2_with fail
    refine (awake_any _).mono ?_
    rintro e w1 ⟨rfl, hB⟩
    go_wp2
    go_ret
    exact ⟨rfl, hB⟩
  have hk1' : decide (k < 0) = false := decide_eq_false hk1
  by_cases hk2 : (s.size : Int) < k
  · have hk2' : decide ((s.size : Int) < k) = true := decide_eq_true hk2
    go_enter Try.func7, Try.ntmps7
    go_wp2_with fail
    refine (awake_any _).mono ?_
    rintro e w1 ⟨rfl, hB⟩
    go_wp2
    go_ret
    exact ⟨rfl, hB⟩
  have hk2' : decide ((s.size : Int) < k) = false := decide_eq_false hk2
  obtain ⟨kk, rfl⟩ := Int.eq_ofNat_of_zero_le (show 0 ≤ k by omega)
  have hle : kk ≤ s.size := by omega
  have hle' : (kk : Int) ≤ (s.size : Int) := by omega
  have hge' : (0 : Int) ≤ (kk : Int) := by omega
  have hx : byt (s.extract 0 kk ++ strB [c] ++ s.extract kk s.size) = (byt s).take kk ++ [c] ++ (byt s).drop kk := by
    rw [byt_append, byt_append, byt_strB1 c hc, byt_extract, byt_extract, List.drop_zero, List.take_of_length_le (show (byt s).length ≤ s.size by simp)]
  have HX : Hid (c < 128 → okS c = false → ∀ W, Calls Try.prog 14 #[.string (s.extract 0 kk ++ strB [c] ++ s.extract kk s.size)] W fun e w' => e = .returned (.bool false) ∧ Below W.heap.size W w') := fun h1 h2 W => by
    refine (may_any _ W).mono fun e w' ⟨he, hB⟩ => ⟨?_, hB⟩
    rw [hx, odd_none (by simp) h1 h2] at he
    exact he
  have HL := Lib.hid (fun W => len_any s W)
  have H7 : Hid (lenN (byt s) ≠ 0 → ∀ W, Calls Try.prog 14 #[.string (s ++ ⟨#[55]⟩)] W fun e w' => e = .returned (.bool (decide (lenN (byt s) < 8))) ∧ Below W.heap.size W w') := fun h W => by
    have hm : mayN (byt s) = true := by
      cases h2 : mayN (byt s)
      · exact absurd (lenN_pos.2 h2) h
      · rfl
    refine (may_any _ W).mono fun e w' ⟨he, hB⟩ => ⟨?_, hB⟩
    rw [byt_append, byt_7, may_dig hm (by decide)] at he
    exact he
  have hsz : (strB [c]).size = 1 := by rw [← byt_length, byt_strB1 c hc]; rfl
  have hcv : ∀ W : World, (convert 31 9 (.slice (some ⟨W.heap.size, 0, none⟩) 1 1)).run Try.prog (W.alloc (.cells #[.int .u8 (c : Int)] 5)).drew = .ok (.string (strB [c])) (W.alloc (.cells #[.int .u8 (c : Int)] 5)).drew := fun W =>
    conv_str (P := Try.prog) _ _ _ _ Try.underlying31 Try.underlying5 Try.underlying9 _ [c] 1 1 rfl (lit_rd W [c])
  have Hcv := Lib.hid hcv
  clear hcv hx
  generalize lenN (byt s) = n at *
  generalize strB [c] = sc at *
  have hz1 : ¬ (9223372036854775807 < kk + 1) := by omega
  have hz2 : ¬ (9223372036854775807 < kk + 1 + (s.size - kk)) := by omega
  by_cases hq0 : 97 ≤ c ∧ c ≤ 122
  · have hf0 : decide ((97 : Int) ≤ (c : Int)) = true := by simp; omega
    have hf1 : decide ((c : Int) ≤ 122) = true := by simp; omega
    clear HX
    go_enter Try.func7, Try.ntmps7
    go_wp2_with fail
    refine (awake_any _).mono ?_
    rintro e w1 ⟨rfl, hB⟩
    go_wp2
    refine sch_start [(0, true), (1, true), (2, true), (3, true), (7, true), (8, true), (9, true), (4, false), (5, true), (6, true), (10, true), (11, true)]
      (fun _ => True) (by kernel_rfl) rfl (by kernel_rfl) (fun _ _ _ _ _ h => h) trivial (fun hH => ?_)
    repeat (first | (refine sch_yes (v := ?_) rfl rfl ?_ hH ?_; rotate_left; (focus ((intro W hW; go_simp) <;> with_reducible rfl)); simp only [Act.put, List.setIfInBounds_toArray, List.set_cons_zero, List.set_cons_succ]) | (refine sch_no rfl rfl hH ?_; simp only [Act.put, List.setIfInBounds_toArray, List.set_cons_zero, List.set_cons_succ]))
    refine sch_call rfl rfl (fun K hK => ?_)
    go_wp2
    have hcv := Hcv.out w1
    have hB2 := (hB.alloc (o := .cells #[.int .u8 (c : Int)] 5) hB.size).drew
    generalize (w1.alloc (.cells #[.int .u8 (c : Int)] 5)).drew = w2 at *
    refine hK.out _ _ trivial ?_
    clear hK
    refine sch_more (S' := fun W => W = w2) (fun _ _ => trivial) ?_
    clear hH
    have hH : w2 = w2 := rfl
    repeat (first | (refine sch_yes (v := ?_) rfl rfl ?_ hH ?_; rotate_left; (focus ((rintro W rfl; go_simp) <;> with_reducible rfl)); simp only [Act.put, List.setIfInBounds_toArray, List.set_cons_zero, List.set_cons_succ]) | (refine sch_no rfl rfl hH ?_; simp only [Act.put, List.setIfInBounds_toArray, List.set_cons_zero, List.set_cons_succ]))
    refine sch_done ?_
    clear hB
    have hB := hB2
    clear hB2
    go_wp2_with fail
    refine (HL.out _).mono ?_
    rintro e w4 ⟨rfl, hBn⟩
    have hB' := hB.trans (hBn.mono hB.size)
    clear hB hBn
    have hB := hB'
    clear hB'
    by_cases hn0 : n = 0
    · subst hn0
      go_wp2
      go_ret
      exact ⟨rfl, hB⟩
    · have hn0' : ((n : Int) == 0) = false := by simp; omega
      have H8 := Lib.hid (H7.out hn0)
      by_cases hn8 : n < 8
      · rw [decide_eq_true hn8] at H8
        have hn8' : decide ((n : Int) < 8) = true := by simp; omega
        go_wp2_with fail
        refine (H8.out _).mono ?_
        rintro e w5 ⟨rfl, hBn⟩
        have hB' := hB.trans (hBn.mono hB.size)
        clear hB hBn
        have hB := hB'
        clear hB'
        go_wp2
        go_ret
        exact ⟨rfl, hB⟩
      · rw [decide_eq_false hn8] at H8
        have hn8' : decide ((n : Int) < 8) = false := by simp; omega
        go_wp2_with fail
        refine (H8.out _).mono ?_
        rintro e w5 ⟨rfl, hBn⟩
        have hB' := hB.trans (hBn.mono hB.size)
        clear hB hBn
        have hB := hB'
        clear hB'
        go_wp2
        go_ret
        exact ⟨rfl, hB⟩
  by_cases hq1 : 48 ≤ c ∧ c ≤ 57
  · have hf0 : decide ((97 : Int) ≤ (c : Int)) = false := by simp; omega
    have hf1 : decide ((48 : Int) ≤ (c : Int)) = true := by simp; omega
    have hf2 : decide ((c : Int) ≤ 57) = true := by simp; omega
    clear HX
    go_enter Try.func7, Try.ntmps7
    go_wp2_with fail
    refine (awake_any _).mono ?_
    rintro e w1 ⟨rfl, hB⟩
    go_wp2
    refine sch_start [(0, true), (1, true), (2, true), (3, true), (7, true), (8, true), (9, true), (4, false), (5, true), (6, true), (10, true), (11, true)]
      (fun _ => True) (by kernel_rfl) rfl (by kernel_rfl) (fun _ _ _ _ _ h => h) trivial (fun hH => ?_)
    repeat (first | (refine sch_yes (v := ?_) rfl rfl ?_ hH ?_; rotate_left; (focus ((intro W hW; go_simp) <;> with_reducible rfl)); simp only [Act.put, List.setIfInBounds_toArray, List.set_cons_zero, List.set_cons_succ]) | (refine sch_no rfl rfl hH ?_; simp only [Act.put, List.setIfInBounds_toArray, List.set_cons_zero, List.set_cons_succ]))
    refine sch_call rfl rfl (fun K hK => ?_)
    go_wp2
    have hcv := Hcv.out w1
    have hB2 := (hB.alloc (o := .cells #[.int .u8 (c : Int)] 5) hB.size).drew
    generalize (w1.alloc (.cells #[.int .u8 (c : Int)] 5)).drew = w2 at *
    refine hK.out _ _ trivial ?_
    clear hK
    refine sch_more (S' := fun W => W = w2) (fun _ _ => trivial) ?_
    clear hH
    have hH : w2 = w2 := rfl
    repeat (first | (refine sch_yes (v := ?_) rfl rfl ?_ hH ?_; rotate_left; (focus ((rintro W rfl; go_simp) <;> with_reducible rfl)); simp only [Act.put, List.setIfInBounds_toArray, List.set_cons_zero, List.set_cons_succ]) | (refine sch_no rfl rfl hH ?_; simp only [Act.put, List.setIfInBounds_toArray, List.set_cons_zero, List.set_cons_succ]))
    refine sch_done ?_
    clear hB
    have hB := hB2
    clear hB2
    go_wp2_with fail
    refine (HL.out _).mono ?_
    rintro e w4 ⟨rfl, hBn⟩
    have hB' := hB.trans (hBn.mono hB.size)
    clear hB hBn
    have hB := hB'
    clear hB'
    by_cases hn0 : n = 0
    · subst hn0
      go_wp2
      go_ret
      exact ⟨rfl, hB⟩
    · have hn0' : ((n : Int) == 0) = false := by simp; omega
      have H8 := Lib.hid (H7.out hn0)
      by_cases hn8 : n < 8
      · rw [decide_eq_true hn8] at H8
        have hn8' : decide ((n : Int) < 8) = true := by simp; omega
        go_wp2_with fail
        refine (H8.out _).mono ?_
        rintro e w5 ⟨rfl, hBn⟩
        have hB' := hB.trans (hBn.mono hB.size)
        clear hB hBn
        have hB := hB'
        clear hB'
        go_wp2
        go_ret
        exact ⟨rfl, hB⟩
      · rw [decide_eq_false hn8] at H8
        have hn8' : decide ((n : Int) < 8) = false := by simp; omega
        go_wp2_with fail
        refine (H8.out _).mono ?_
        rintro e w5 ⟨rfl, hBn⟩
        have hB' := hB.trans (hBn.mono hB.size)
        clear hB hBn
        have hB := hB'
        clear hB'
        go_wp2
        go_ret
        exact ⟨rfl, hB⟩
  by_cases hq2 : 128 ≤ c
  · have hf0 : decide ((97 : Int) ≤ (c : Int)) = true := by simp; omega
    have hf1 : decide ((c : Int) ≤ 122) = false := by simp; omega
    have hf2 : decide ((48 : Int) ≤ (c : Int)) = true := by simp; omega
    have hf3 : decide ((c : Int) ≤ 57) = false := by simp; omega
    have hf4 : decide ((128 : Int) ≤ (c : Int)) = true := by simp; omega
    clear HX
    go_enter Try.func7, Try.ntmps7
    go_wp2_with fail
    refine (awake_any _).mono ?_
    rintro e w1 ⟨rfl, hB⟩
    go_wp2
    refine sch_start [(0, true), (1, true), (2, true), (3, true), (7, true), (8, true), (9, true), (4, false), (5, true), (6, true), (10, true), (11, true)]
      (fun _ => True) (by kernel_rfl) rfl (by kernel_rfl) (fun _ _ _ _ _ h => h) trivial (fun hH => ?_)
    repeat (first | (refine sch_yes (v := ?_) rfl rfl ?_ hH ?_; rotate_left; (focus ((intro W hW; go_simp) <;> with_reducible rfl)); simp only [Act.put, List.setIfInBounds_toArray, List.set_cons_zero, List.set_cons_succ]) | (refine sch_no rfl rfl hH ?_; simp only [Act.put, List.setIfInBounds_toArray, List.set_cons_zero, List.set_cons_succ]))
    refine sch_call rfl rfl (fun K hK => ?_)
    go_wp2
    have hcv := Hcv.out w1
    have hB2 := (hB.alloc (o := .cells #[.int .u8 (c : Int)] 5) hB.size).drew
    generalize (w1.alloc (.cells #[.int .u8 (c : Int)] 5)).drew = w2 at *
    refine hK.out _ _ trivial ?_
    clear hK
    refine sch_more (S' := fun W => W = w2) (fun _ _ => trivial) ?_
    clear hH
    have hH : w2 = w2 := rfl
    repeat (first | (refine sch_yes (v := ?_) rfl rfl ?_ hH ?_; rotate_left; (focus ((rintro W rfl; go_simp) <;> with_reducible rfl)); simp only [Act.put, List.setIfInBounds_toArray, List.set_cons_zero, List.set_cons_succ]) | (refine sch_no rfl rfl hH ?_; simp only [Act.put, List.setIfInBounds_toArray, List.set_cons_zero, List.set_cons_succ]))
    refine sch_done ?_
    clear hB
    have hB := hB2
    clear hB2
    go_wp2_with fail
    refine (HL.out _).mono ?_
    rintro e w4 ⟨rfl, hBn⟩
    have hB' := hB.trans (hBn.mono hB.size)
    clear hB hBn
    have hB := hB'
    clear hB'
    by_cases hn0 : n = 0
    · subst hn0
      go_wp2
      go_ret
      exact ⟨rfl, hB⟩
    · have hn0' : ((n : Int) == 0) = false := by simp; omega
      have H8 := Lib.hid (H7.out hn0)
      by_cases hn8 : n < 8
      · rw [decide_eq_true hn8] at H8
        have hn8' : decide ((n : Int) < 8) = true := by simp; omega
        go_wp2_with fail
        refine (H8.out _).mono ?_
        rintro e w5 ⟨rfl, hBn⟩
        have hB' := hB.trans (hBn.mono hB.size)
        clear hB hBn
        have hB := hB'
        clear hB'
        go_wp2
        go_ret
        exact ⟨rfl, hB⟩
      · rw [decide_eq_false hn8] at H8
        have hn8' : decide ((n : Int) < 8) = false := by simp; omega
        go_wp2_with fail
        refine (H8.out _).mono ?_
        rintro e w5 ⟨rfl, hBn⟩
        have hB' := hB.trans (hBn.mono hB.size)
        clear hB hBn
        have hB := hB'
        clear hB'
        go_wp2
        go_ret
        exact ⟨rfl, hB⟩
  by_cases hq3 : c < 48
  · have hf0 : decide ((97 : Int) ≤ (c : Int)) = false := by simp; omega
    have hf1 : decide ((48 : Int) ≤ (c : Int)) = false := by simp; omega
    have hf2 : decide ((128 : Int) ≤ (c : Int)) = false := by simp; omega
    have hok : okS c = false := by
      cases h : okS c
      · rfl
      · simp [okS, letS, digS] at h; omega
    have HY := Lib.hid (HX.out (by omega) hok)
    clear HX hok
    go_enter Try.func7, Try.ntmps7
    go_wp2_with fail
    refine (awake_any _).mono ?_
    rintro e w1 ⟨rfl, hB⟩
    go_wp2
    refine sch_start [(0, true), (1, true), (2, true), (3, true), (7, true), (8, true), (9, true), (4, false), (5, true), (6, true), (10, true), (11, true)]
      (fun _ => True) (by kernel_rfl) rfl (by kernel_rfl) (fun _ _ _ _ _ h => h) trivial (fun hH => ?_)
    repeat (first | (refine sch_yes (v := ?_) rfl rfl ?_ hH ?_; rotate_left; (focus ((intro W hW; go_simp) <;> with_reducible rfl)); simp only [Act.put, List.setIfInBounds_toArray, List.set_cons_zero, List.set_cons_succ]) | (refine sch_no rfl rfl hH ?_; simp only [Act.put, List.setIfInBounds_toArray, List.set_cons_zero, List.set_cons_succ]))
    refine sch_call rfl rfl (fun K hK => ?_)
    go_wp2
    have hcv := Hcv.out w1
    have hB2 := (hB.alloc (o := .cells #[.int .u8 (c : Int)] 5) hB.size).drew
    generalize (w1.alloc (.cells #[.int .u8 (c : Int)] 5)).drew = w2 at *
    refine hK.out _ _ trivial ?_
    clear hK
    refine sch_more (S' := fun W => W = w2) (fun _ _ => trivial) ?_
    clear hH
    have hH : w2 = w2 := rfl
    repeat (first | (refine sch_yes (v := ?_) rfl rfl ?_ hH ?_; rotate_left; (focus ((rintro W rfl; go_simp) <;> with_reducible rfl)); simp only [Act.put, List.setIfInBounds_toArray, List.set_cons_zero, List.set_cons_succ]) | (refine sch_no rfl rfl hH ?_; simp only [Act.put, List.setIfInBounds_toArray, List.set_cons_zero, List.set_cons_succ]))
    refine sch_done ?_
    clear hB
    have hB := hB2
    clear hB2
    go_wp2_with fail
    refine (HY.out _).mono ?_
    rintro e w3 ⟨rfl, hBn⟩
    have hB' := hB.trans (hBn.mono hB.size)
    clear hB hBn
    have hB := hB'
    clear hB'
    go_wp2_with fail
    refine (HL.out _).mono ?_
    rintro e w4 ⟨rfl, hBn⟩
    have hB' := hB.trans (hBn.mono hB.size)
    clear hB hBn
    have hB := hB'
    clear hB'
    by_cases hn0 : n = 0
    · subst hn0
      go_wp2
      go_ret
      exact ⟨rfl, hB⟩
    · have hn0' : ((n : Int) == 0) = false := by simp; omega
      have H8 := Lib.hid (H7.out hn0)
      by_cases hn8 : n < 8
      · rw [decide_eq_true hn8] at H8
        have hn8' : decide ((n : Int) < 8) = true := by simp; omega
        go_wp2_with fail
        refine (H8.out _).mono ?_
        rintro e w5 ⟨rfl, hBn⟩
        have hB' := hB.trans (hBn.mono hB.size)
        clear hB hBn
        have hB := hB'
        clear hB'
        go_wp2
        go_ret
        exact ⟨rfl, hB⟩
      · rw [decide_eq_false hn8] at H8
        have hn8' : decide ((n : Int) < 8) = false := by simp; omega
        go_wp2_with fail
        refine (H8.out _).mono ?_
        rintro e w5 ⟨rfl, hBn⟩
        have hB' := hB.trans (hBn.mono hB.size)
        clear hB hBn
        have hB := hB'
        clear hB'
        go_wp2
        go_ret
        exact ⟨rfl, hB⟩
  by_cases hq4 : c < 97
  · have hf0 : decide ((97 : Int) ≤ (c : Int)) = false := by simp; omega
    have hf1 : decide ((48 : Int) ≤ (c : Int)) = true := by simp; omega
    have hf2 : decide ((c : Int) ≤ 57) = false := by simp; omega
    have hf3 : decide ((128 : Int) ≤ (c : Int)) = false := by simp; omega
    have hok : okS c = false := by
      cases h : okS c
      · rfl
      · simp [okS, letS, digS] at h; omega
    have HY := Lib.hid (HX.out (by omega) hok)
    clear HX hok
    go_enter Try.func7, Try.ntmps7
    go_wp2_with fail
    refine (awake_any _).mono ?_
    rintro e w1 ⟨rfl, hB⟩
    go_wp2
    refine sch_start [(0, true), (1, true), (2, true), (3, true), (7, true), (8, true), (9, true), (4, false), (5, true), (6, true), (10, true), (11, true)]
      (fun _ => True) (by kernel_rfl) rfl (by kernel_rfl) (fun _ _ _ _ _ h => h) trivial (fun hH => ?_)
    repeat (first | (refine sch_yes (v := ?_) rfl rfl ?_ hH ?_; rotate_left; (focus ((intro W hW; go_simp) <;> with_reducible rfl)); simp only [Act.put, List.setIfInBounds_toArray, List.set_cons_zero, List.set_cons_succ]) | (refine sch_no rfl rfl hH ?_; simp only [Act.put, List.setIfInBounds_toArray, List.set_cons_zero, List.set_cons_succ]))
    refine sch_call rfl rfl (fun K hK => ?_)
    go_wp2
    have hcv := Hcv.out w1
    have hB2 := (hB.alloc (o := .cells #[.int .u8 (c : Int)] 5) hB.size).drew
    generalize (w1.alloc (.cells #[.int .u8 (c : Int)] 5)).drew = w2 at *
    refine hK.out _ _ trivial ?_
    clear hK
    refine sch_more (S' := fun W => W = w2) (fun _ _ => trivial) ?_
    clear hH
    have hH : w2 = w2 := rfl
    repeat (first | (refine sch_yes (v := ?_) rfl rfl ?_ hH ?_; rotate_left; (focus ((rintro W rfl; go_simp) <;> with_reducible rfl)); simp only [Act.put, List.setIfInBounds_toArray, List.set_cons_zero, List.set_cons_succ]) | (refine sch_no rfl rfl hH ?_; simp only [Act.put, List.setIfInBounds_toArray, List.set_cons_zero, List.set_cons_succ]))
    refine sch_done ?_
    clear hB
    have hB := hB2
    clear hB2
    go_wp2_with fail
    refine (HY.out _).mono ?_
    rintro e w3 ⟨rfl, hBn⟩
    have hB' := hB.trans (hBn.mono hB.size)
    clear hB hBn
    have hB := hB'
    clear hB'
    go_wp2_with fail
    refine (HL.out _).mono ?_
    rintro e w4 ⟨rfl, hBn⟩
    have hB' := hB.trans (hBn.mono hB.size)
    clear hB hBn
    have hB := hB'
    clear hB'
    by_cases hn0 : n = 0
    · subst hn0
      go_wp2
      go_ret
      exact ⟨rfl, hB⟩
    · have hn0' : ((n : Int) == 0) = false := by simp; omega
      have H8 := Lib.hid (H7.out hn0)
      by_cases hn8 : n < 8
      · rw [decide_eq_true hn8] at H8
        have hn8' : decide ((n : Int) < 8) = true := by simp; omega
        go_wp2_with fail
        refine (H8.out _).mono ?_
        rintro e w5 ⟨rfl, hBn⟩
        have hB' := hB.trans (hBn.mono hB.size)
        clear hB hBn
        have hB := hB'
        clear hB'
        go_wp2
        go_ret
        exact ⟨rfl, hB⟩
      · rw [decide_eq_false hn8] at H8
        have hn8' : decide ((n : Int) < 8) = false := by simp; omega
        go_wp2_with fail
        refine (H8.out _).mono ?_
        rintro e w5 ⟨rfl, hBn⟩
        have hB' := hB.trans (hBn.mono hB.size)
        clear hB hBn
        have hB := hB'
        clear hB'
        go_wp2
        go_ret
        exact ⟨rfl, hB⟩
  have hf0 : decide ((97 : Int) ≤ (c : Int)) = true := by simp; omega
  have hf1 : decide ((c : Int) ≤ 122) = false := by simp; omega
  have hf2 : decide ((48 : Int) ≤ (c : Int)) = true := by simp; omega
  have hf3 : decide ((c : Int) ≤ 57) = false := by simp; omega
  have hf4 : decide ((128 : Int) ≤ (c : Int)) = false := by simp; omega
  have hok : okS c = false := by
    cases h : okS c
    · rfl
    · simp [okS, letS, digS] at h; omega
  have HY := Lib.hid (HX.out (by omega) hok)
  clear HX hok
  go_enter Try.func7, Try.ntmps7
  go_wp2_with fail
  refine (awake_any _).mono ?_
  rintro e w1 ⟨rfl, hB⟩
  go_wp2
  refine sch_start [(0, true), (1, true), (2, true), (3, true), (7, true), (8, true), (9, true), (4, false), (5, true), (6, true), (10, true), (11, true)]
    (fun _ => True) (by kernel_rfl) rfl (by kernel_rfl) (fun _ _ _ _ _ h => h) trivial (fun hH => ?_)
  repeat (first | (refine sch_yes (v := ?_) rfl rfl ?_ hH ?_; rotate_left; (focus ((intro W hW; go_simp) <;> with_reducible rfl)); simp only [Act.put, List.setIfInBounds_toArray, List.set_cons_zero, List.set_cons_succ]) | (refine sch_no rfl rfl hH ?_; simp only [Act.put, List.setIfInBounds_toArray, List.set_cons_zero, List.set_cons_succ]))
  refine sch_call rfl rfl (fun K hK => ?_)
  go_wp2
  have hcv := Hcv.out w1
  have hB2 := (hB.alloc (o := .cells #[.int .u8 (c : Int)] 5) hB.size).drew
  generalize (w1.alloc (.cells #[.int .u8 (c : Int)] 5)).drew = w2 at *
  refine hK.out _ _ trivial ?_
  clear hK
  refine sch_more (S' := fun W => W = w2) (fun _ _ => trivial) ?_
  clear hH
  have hH : w2 = w2 := rfl
  repeat (first | (refine sch_yes (v := ?_) rfl rfl ?_ hH ?_; rotate_left; (focus ((rintro W rfl; go_simp) <;> with_reducible rfl)); simp only [Act.put, List.setIfInBounds_toArray, List.set_cons_zero, List.set_cons_succ]) | (refine sch_no rfl rfl hH ?_; simp only [Act.put, List.setIfInBounds_toArray, List.set_cons_zero, List.set_cons_succ]))
  refine sch_done ?_
  clear hB
  have hB := hB2
  clear hB2
  go_wp2_with fail
  refine (HY.out _).mono ?_
  rintro e w3 ⟨rfl, hBn⟩
  have hB' := hB.trans (hBn.mono hB.size)
  clear hB hBn
  have hB := hB'
  clear hB'
  go_wp2_with fail
  refine (HL.out _).mono ?_
  rintro e w4 ⟨rfl, hBn⟩
  have hB' := hB.trans (hBn.mono hB.size)
  clear hB hBn
  have hB := hB'
  clear hB'
  by_cases hn0 : n = 0
  · subst hn0
    go_wp2
    go_ret
    exact ⟨rfl, hB⟩
  · have hn0' : ((n : Int) == 0) = false := by simp; omega
    have H8 := Lib.hid (H7.out hn0)
    by_cases hn8 : n < 8
    · rw [decide_eq_true hn8] at H8
      have hn8' : decide ((n : Int) < 8) = true := by simp; omega
      go_wp2_with fail
      refine (H8.out _).mono ?_
      rintro e w5 ⟨rfl, hBn⟩
      have hB' := hB.trans (hBn.mono hB.size)
      clear hB hBn
      have hB := hB'
      clear hB'
      go_wp2
      go_ret
      exact ⟨rfl, hB⟩
    · rw [decide_eq_false hn8] at H8
      have hn8' : decide ((n : Int) < 8) = false := by simp; omega
      go_wp2_with fail
      refine (H8.out _).mono ?_
      rintro e w5 ⟨rfl, hBn⟩
      have hB' := hB.trans (hBn.mono hB.size)
      clear hB hBn
      have hB := hB'
      clear hB'
      go_wp2
      go_ret
      exact ⟨rfl, hB⟩
end Go.Proofs.Yteejinngkjgifaa
