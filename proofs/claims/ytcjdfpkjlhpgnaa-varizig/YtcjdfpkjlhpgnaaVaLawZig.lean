/- VariZig's walk. -/
import Derived.Test.YtcjdfpkjlhpgnaaVaAwake
namespace Go.Proofs.Ytcjdfpkjlhpgnaa
open Go.RowKit

theorem zig_neg {n : Int} (h : n < 0) : zigV n % 2 = 1 := by unfold zigV; split <;> omega
theorem zig_pos {n : Int} (h : 0 ≤ n) : zigV n % 2 = 0 ∧ zigV n / 2 = n := by unfold zigV; split <;> omega

set_option maxRecDepth 100000 in
set_option maxHeartbeats 1000000 in
theorem variZig_walk (w : World) (n : Int) (n0 : -9223372036854775808 ≤ n) (n1 : n ≤ 9223372036854775807) (u : Nat) (hu : u < 18446744073709551616) :
    Calls Try.prog 6 #[.int .i64 n, .int .u64 (u : Int)] w fun e w' => e = .returned (.bool true) ∧ Below w.heap.size w w' := by
  have zr := zig_range n n0 n1
  have zz := zag_zig n
  have ur := zag_range (u : Int) (by omega) (by omega)
  have uu := zig_zag (u : Int) (by omega)
  have c1 := zig_any n
  have c2 := zag_any (zigV n)
  have c3 := zag_any (u : Int)
  have c4 := zig_any (zagV u)
  by_cases hn : n < 0
  · have hp := zig_neg hn
    generalize zigV n = z at *
    generalize zagV (u : Int) = y at *
    rw [zz] at c2
    rw [uu] at c4
    have hq : (z % 2 == 1) = true := by rw [hp]; rfl
    have C1 := Lib.hid c1
    have C2 := Lib.hid c2
    have C3 := Lib.hid c3
    have C4 := Lib.hid c4
    clear c1 c2 c3 c4 hp zz uu
    go_enter Try.func6, Try.ntmps6
    go_wp2_with fail
    refine (awake_any _).mono ?_
    rintro e w1 ⟨rfl, hb⟩
    go_wp2_with fail
    refine (C1.out _ (by omega) (by omega)).mono ?_
    rintro e w2 ⟨rfl, rfl⟩
    go_wp2_with fail
    refine (C2.out _ (by omega) (by omega)).mono ?_
    rintro e w2 ⟨rfl, rfl⟩
    go_wp2_with fail
    refine (C3.out _ (by omega) (by omega)).mono ?_
    rintro e w2 ⟨rfl, rfl⟩
    go_wp2_with fail
    refine (C4.out _ (by omega) (by omega)).mono ?_
    rintro e w2 ⟨rfl, rfl⟩
    go_wp2
    go_ret
    exact ⟨by simp, hb⟩
  · have hp := zig_pos (n := n) (by omega)
    generalize zigV n = z at *
    generalize zagV (u : Int) = y at *
    rw [zz] at c2
    rw [uu] at c4
    have hq : (z % 2 == 1) = false := by rw [hp.1]; rfl
    have hq2 : (z / 2 == n) = true := by rw [hp.2]; simp
    have C1 := Lib.hid c1
    have C2 := Lib.hid c2
    have C3 := Lib.hid c3
    have C4 := Lib.hid c4
    clear c1 c2 c3 c4 hp zz uu
    go_enter Try.func6, Try.ntmps6
    go_wp2_with fail
    refine (awake_any _).mono ?_
    rintro e w1 ⟨rfl, hb⟩
    go_wp2_with fail
    refine (C1.out _ (by omega) (by omega)).mono ?_
    rintro e w2 ⟨rfl, rfl⟩
    go_wp2_with fail
    refine (C2.out _ (by omega) (by omega)).mono ?_
    rintro e w2 ⟨rfl, rfl⟩
    go_wp2_with fail
    refine (C3.out _ (by omega) (by omega)).mono ?_
    rintro e w2 ⟨rfl, rfl⟩
    go_wp2_with fail
    refine (C4.out _ (by omega) (by omega)).mono ?_
    rintro e w2 ⟨rfl, rfl⟩
    go_wp2
    go_ret
    exact ⟨by simp; omega, hb⟩
end Go.Proofs.Ytcjdfpkjlhpgnaa
