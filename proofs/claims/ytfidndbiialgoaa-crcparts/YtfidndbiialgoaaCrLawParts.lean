/- CrcParts' walk. -/
import Derived.Test.YtfidndbiialgoaaCrAwake
namespace Go.Proofs.Ytfidndbiialgoaa
open Go.RowKit

set_option maxRecDepth 100000 in
set_option maxHeartbeats 1000000 in
theorem crcParts_walk (w : World) (A : Option Addr) (c : Nat) (xs : List Nat) (_hl : xs.length ≤ c) (_hm : c ≤ maxLen) (hb : ∀ x ∈ xs, x < 256) (hr : Rd w A (u8s xs))
    (A' : Option Addr) (c' : Nat) (ys : List Nat) (_hl' : ys.length ≤ c') (_hm' : c' ≤ maxLen) (hb' : ∀ x ∈ ys, x < 256) (hr' : Rd w A' (u8s ys)) (s : Nat) (hs : s < 4294967296) :
    Calls Try.prog 5 #[.slice A xs.length c, .slice A' ys.length c', .int .u32 (s : Int)] w fun e w' => e = .returned (.bool true) ∧ Below w.heap.size w w' := by
  obtain ⟨i0, hi, hz0, hz1, hz2⟩ := info_parts info_u8
  by_cases hx : xs.length ≤ 300
  · by_cases hy : ys.length ≤ 300
    · have W1 := fun (W : World) (t : Nat) (ht : t < 4294967296) (h : Rd W A (u8s xs)) => with_any t A c xs W ht hb h (by omega)
      have W2 := fun (W : World) (t : Nat) (ht : t < 4294967296) (h : Rd W A' (u8s ys)) => with_any t A' c' ys W ht hb' h (by omega)
      have S1 := fun (W : World) (h : Rd W A (u8s xs)) => sum_any A c xs.length xs W rfl hb h (by omega)
      have hxy : ∀ x ∈ xs ++ ys, x < 256 := fun x hx => by rcases List.mem_append.1 hx with h | h; exact hb x h; exact hb' x h
      have W3 := fun (W : World) (B : Option Addr) (d : Nat) (h : Rd W B (u8s (xs ++ ys))) => with_len s B d (xs.length + ys.length) (xs ++ ys) W (by simp) hs hxy h (by omega)
      have S3 := fun (W : World) (B : Option Addr) (d : Nat) (h : Rd W B (u8s (xs ++ ys))) => sum_any B d (xs.length + ys.length) (xs ++ ys) W (by simp) hxy h (by omega)
      have W4 := fun (W : World) => with_any s none 0 [] W hs (by simp) (.inl rfl) (by simp)
      have hw1 := withL_lt hs hb
      have hs1 := sumL_lt hb
      have e1 := withL_append s xs ys
      have e2 : sumL (xs ++ ys) = withL (sumL xs) ys := withL_append 0 xs ys
      rw [e1] at W3
      rw [e2] at S3
      rw [withL_nil] at W4
      replace W2 := Lib.hid W2
      replace W1 := Lib.hid (fun W h => W1 W s hs h)
      generalize withL s xs = u1 at *
      generalize sumL xs = u2 at *
      have V1 := Lib.hid (fun W h => W2.out W u1 hw1 h)
      have V2 := Lib.hid (fun W h => W2.out W u2 hs1 h)
      generalize withL u1 ys = v1 at *
      generalize withL u2 ys = v2 at *
      replace S1 := Lib.hid S1
      replace W3 := Lib.hid W3
      replace S3 := Lib.hid S3
      replace W4 := Lib.hid W4
      clear W2 e1 e2 hxy
      have hx' : decide ((300 : Int) < (xs.length : Int)) = false := by simp; omega
      have hy' : decide ((300 : Int) < (ys.length : Int)) = false := by simp; omega
      go_enter Try.func5, Try.ntmps5
      go_wp2_with fail
      refine (awake_any _).mono ?_
      rintro e w1 ⟨rfl, hB1⟩
      have hr1 := hr.below hB1
      have hr1' := hr'.below hB1
      go_wp2_with (first
        | (at_builtin; refine wpList_app rfl (.const (.slice none 0 0)) (.tmp 23) 22 rfl w1.heap.size 5 i0 (.int .u8 0) 1 Try.underlying22 hi hz0 hz1 hz2 rfl (.slice none 0 0) 0 [] rfl (World.ownsRow_nil _ _ _ _) A xs.length c (u8s xs) rfl (u8s_length _) hr1 (u8s_one _) (by simp only [maxLen]; omega) (by omega) (Nat.le_refl _) ?_; intro v3 w3 hown3 hg3 hat3; simp only [Nat.zero_add, List.nil_append] at hown3; have hsz3 := hg3.size; have hr3 := hr1'.below ((Below.refl _ _).grown hg3 (Nat.le_refl _) (fun k hk => by cases hk)))
        | (at_builtin; refine wpList_app rfl (.tmp 24) (.tmp 25) 22 rfl w1.heap.size 5 i0 (.int .u8 0) 1 Try.underlying22 hi hz0 hz1 hz2 rfl v3 xs.length (u8s xs) rfl hown3 A' ys.length c' (u8s ys) rfl (u8s_length _) hr3 (u8s_one _) (by simp only [maxLen]; omega) (by omega) hsz3 ?_; intro v4 w4 hown4 hg4 hat4; rw [← u8s_append] at hown4; obtain ⟨A4, c4, hv4, hc4, hrd4, _⟩ := own_slice hown4; subst hv4)
        | fail)
      have hB4 : Below w1.heap.size w1 w4 := ((Below.refl _ _).grown hg3 (Nat.le_refl _) (fun k hk => by cases hk)).grown hg4 hsz3 (fun k hk => (hown3.lt k hk).1)
      have hr4 := hr1.below hB4
      have hr4' := hr1'.below hB4
      have hB4' : Below w.heap.size w w4 := hB1.trans (hB4.mono hB1.size)
      clear hr hr' hr1 hr1' hr3 hown3 hown4 hg3 hg4 hat3 hat4 hsz3 hB4 hB1
      refine (W1.out _ hr4).mono ?_
      rintro e w5 ⟨rfl, hB5⟩
      go_wp2_with fail
      refine (V1.out _ (hr4'.below hB5)).mono ?_
      rintro e w6 ⟨rfl, hB6⟩
      have hB6 := hB5.trans (hB6.mono hB5.size)
      go_wp2_with fail
      refine (W3.out _ _ _ (hrd4.below hB6)).mono ?_
      rintro e w7 ⟨rfl, hB7⟩
      have hB7 := hB6.trans (hB7.mono hB6.size)
      go_wp2_with fail
      refine (S1.out _ (hr4.below hB7)).mono ?_
      rintro e w8 ⟨rfl, hB8⟩
      have hB8 := hB7.trans (hB8.mono hB7.size)
      go_wp2_with fail
      refine (V2.out _ (hr4'.below hB8)).mono ?_
      rintro e w9 ⟨rfl, hB9⟩
      have hB9 := hB8.trans (hB9.mono hB8.size)
      go_wp2_with fail
      refine (S3.out _ _ _ (hrd4.below hB9)).mono ?_
      rintro e wa ⟨rfl, hBa⟩
      have hBa := hB9.trans (hBa.mono hB9.size)
      go_wp2_with fail
      refine (W4.out _).mono ?_
      rintro e wb ⟨rfl, hBb⟩
      have hBb := hBa.trans (hBb.mono hBa.size)
      go_wp2
      go_ret
      exact ⟨rfl, hB4'.trans (hBb.mono hB4'.size)⟩
    · go_enter Try.func5, Try.ntmps5
      go_wp2_with fail
      refine (awake_any _).mono ?_
      rintro e w1 ⟨rfl, hb1⟩
      go_wp2
      go_ret
      exact ⟨rfl, hb1⟩
  · go_enter Try.func5, Try.ntmps5
    go_wp2_with fail
    refine (awake_any _).mono ?_
    rintro e w1 ⟨rfl, hb1⟩
    go_wp2
    go_ret
    exact ⟨rfl, hb1⟩
end Go.Proofs.Ytfidndbiialgoaa
