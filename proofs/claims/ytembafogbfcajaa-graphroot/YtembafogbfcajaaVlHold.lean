/- The contracts of value.hold and value.show: what a field of a kind has room for, and the value that this shows. No condition. -/
import Derived.Test.YtembafogbfcajaaVlKind
import Derived.Test.YtembafogbfcajaaBlk
import Derived.Test.YtembafogbfcajaaRets
import Derived.WalkKit
import Derived.WalkSpells
import Derived.WalkLawsBesides
import Derived.IntWalk
namespace Go.Proofs.Ytembafogbfcajaa
open Go.RowKit

/-- What is held: nothing, if there is no such kind. -/
def holdV (k n : Int) (s : ByteArray) (r : Int) : Value :=
  if k = 0 then .iface 103 (.int .i8 (IntKind.i8.wrap n))
  else if k = 1 then .iface 104 (.int .i16 (IntKind.i16.wrap n))
  else if k = 2 then .iface 21 (.int .i32 (wrap32 n))
  else if k = 3 then .iface 2 (.int .i64 n)
  else if k = 4 then .iface 9 (.string s)
  else if k = 5 then .iface 81 (.int .i64 r)
  else .nilIface
theorem vl_hold_x {k n : Int} {s : ByteArray} {r : Int} (h : ¬ (0 ≤ k ∧ k ≤ 5)) : holdV k n s r = .nilIface := by
  rw [holdV, if_neg (by omega), if_neg (by omega), if_neg (by omega), if_neg (by omega), if_neg (by omega), if_neg (by omega)]

theorem wrap_i8 (n : Int) : IntKind.i8.wrap n = (n + 128) % 256 - 128 := by
  show (if (true && decide (n % 256 ≥ 128)) = true then n % 256 - 256 else n % 256) = _
  rw [Bool.true_and]
  by_cases h : n % 256 ≥ 128
  · rw [if_pos (decide_eq_true h)]; omega
  · rw [if_neg (by rw [decide_eq_false h]; decide)]; omega
theorem wrap_i16 (n : Int) : IntKind.i16.wrap n = (n + 32768) % 65536 - 32768 := by
  show (if (true && decide (n % 65536 ≥ 32768)) = true then n % 65536 - 65536 else n % 65536) = _
  rw [Bool.true_and]
  by_cases h : n % 65536 ≥ 32768
  · rw [if_pos (decide_eq_true h)]; omega
  · rw [if_neg (by rw [decide_eq_false h]; decide)]; omega
set_option maxRecDepth 100000 in
set_option maxHeartbeats 1000000 in
theorem vlhold_any (a b s : ByteArray) (k n r : Int) (w : World) :
    Calls Try.prog 59 #[.agg #[.string a, .int .i64 k, .string b], .agg #[.int .i64 n, .string s, .int .i64 r]] w fun e w' => e = .returned (holdV k n s r) ∧ Below w.heap.size w w' := by
  have hB : ∀ u v, Below w.heap.size w ((w.alloc (.cells u 51)).alloc (.cells v 30)) := fun u v => ((Below.refl _ w).alloc (Nat.le_refl _) _).alloc (by simp) _
  have HB := Lib.hid hB
  clear hB
  rcases vl_kinds k with rfl | rfl | rfl | rfl | rfl | rfl | hk
  · go_enter Try.func59, Try.ntmps59
    go_wp2
    go_ret
    exact ⟨rfl, HB.out _ _⟩
  · go_enter Try.func59, Try.ntmps59
    go_wp2
    go_ret
    exact ⟨rfl, HB.out _ _⟩
  · go_enter Try.func59, Try.ntmps59
    go_wp2
    go_ret
    exact ⟨rfl, HB.out _ _⟩
  · go_enter Try.func59, Try.ntmps59
    go_wp2
    go_ret
    exact ⟨rfl, HB.out _ _⟩
  · go_enter Try.func59, Try.ntmps59
    go_wp2
    go_ret
    exact ⟨rfl, HB.out _ _⟩
  · go_enter Try.func59, Try.ntmps59
    go_wp2
    go_ret
    exact ⟨rfl, HB.out _ _⟩
  · rw [vl_hold_x hk]
    have e0 : (k == 0) = false := beq_false_of_ne (by omega)
    have e1 : (k == 1) = false := beq_false_of_ne (by omega)
    have e2 : (k == 2) = false := beq_false_of_ne (by omega)
    have e3 : (k == 3) = false := beq_false_of_ne (by omega)
    have e4 : (k == 4) = false := beq_false_of_ne (by omega)
    have e5 : (k == 5) = false := beq_false_of_ne (by omega)
    clear hk
    go_enter Try.func59, Try.ntmps59
    go_wp2
    go_ret
    exact ⟨rfl, HB.out _ _⟩
end Go.Proofs.Ytembafogbfcajaa
