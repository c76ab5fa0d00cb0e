/- The contracts of vari.Zig and vari.Zag, and of the document's own two: for every number of their kinds. No condition. -/
import Derived.Test.YtpllbjkjlaacjaaWords
import Derived.WalkKit
import Derived.WalkSpells
import Derived.WalkLawsBesides
import Derived.IntWalk
namespace Go.Proofs.Ytpllbjkjlaacjaa
open Go.RowKit

def zigV (n : Int) : Int := if 0 ≤ n then 2 * n else 2 * -(n + 1) + 1
def zagV (u : Int) : Int := if u % 2 = 0 then u / 2 else -(u / 2) - 1

theorem zig_range (n : Int) (h0 : -9223372036854775808 ≤ n) (h1 : n ≤ 9223372036854775807) : 0 ≤ zigV n ∧ zigV n ≤ 18446744073709551615 := by
  unfold zigV; split <;> omega
theorem zag_range (u : Int) (h0 : 0 ≤ u) (h1 : u ≤ 18446744073709551615) : -9223372036854775808 ≤ zagV u ∧ zagV u ≤ 9223372036854775807 := by
  unfold zagV; split <;> omega
theorem zag_zig (n : Int) : zagV (zigV n) = n := by
  unfold zagV zigV; split <;> split <;> omega
theorem zig_zag (u : Int) (h0 : 0 ≤ u) : zigV (zagV u) = u := by
  unfold zagV zigV; split <;> split <;> omega

set_option maxHeartbeats 400000 in
theorem zig_any (n : Int) (w : World) (h0 : -9223372036854775808 ≤ n) (h1 : n ≤ 9223372036854775807) :
    Calls Try.prog 21 #[.int .i64 n] w fun e w' => e = .returned (.int .u64 (zigV n)) ∧ w = w' := by
  by_cases h : 0 ≤ n
  · go_enter Try.func21, Try.ntmps21
    go_wp2
    go_ret
    exact ⟨ret_int (by rw [zigV, if_pos h]), rfl⟩
  · go_enter Try.func21, Try.ntmps21
    go_wp2
    go_ret
    exact ⟨ret_int (by rw [zigV, if_neg (by omega)]), rfl⟩
set_option maxHeartbeats 400000 in
theorem zag_any (n : Int) (w : World) (h0 : 0 ≤ n) (h1 : n ≤ 18446744073709551615) :
    Calls Try.prog 30 #[.int .u64 n] w fun e w' => e = .returned (.int .i64 (zagV n)) ∧ w = w' := by
  by_cases h : n % 2 = 0
  · go_enter Try.func30, Try.ntmps30
    go_wp2
    go_ret
    exact ⟨ret_int (by rw [zagV, if_pos h]), rfl⟩
  · go_enter Try.func30, Try.ntmps30
    go_wp2
    go_ret
    exact ⟨ret_int (by rw [zagV, if_neg h]), rfl⟩
set_option maxHeartbeats 400000 in
theorem rzig_any (n : Int) (w : World) (h0 : -9223372036854775808 ≤ n) (h1 : n ≤ 9223372036854775807) :
    Calls Try.prog 23 #[.int .i64 n] w fun e w' => e = .returned (.int .u64 (zigV n)) ∧ w = w' := by
  by_cases h : 0 ≤ n
  · go_enter Try.func23, Try.ntmps23
    go_wp2
    go_ret
    exact ⟨ret_int (by rw [zigV, if_pos h]), rfl⟩
  · go_enter Try.func23, Try.ntmps23
    go_wp2
    go_ret
    exact ⟨ret_int (by rw [zigV, if_neg (by omega)]), rfl⟩
set_option maxHeartbeats 400000 in
theorem rzag_any (n : Int) (w : World) (h0 : 0 ≤ n) (h1 : n ≤ 18446744073709551615) :
    Calls Try.prog 26 #[.int .u64 n] w fun e w' => e = .returned (.int .i64 (zagV n)) ∧ w = w' := by
  by_cases h : n % 2 = 0
  · go_enter Try.func26, Try.ntmps26
    go_wp2
    go_ret
    exact ⟨ret_int (by rw [zagV, if_pos h]), rfl⟩
  · go_enter Try.func26, Try.ntmps26
    go_wp2
    go_ret
    exact ⟨ret_int (by rw [zagV, if_neg h]), rfl⟩
end Go.Proofs.Ytpllbjkjlaacjaa
