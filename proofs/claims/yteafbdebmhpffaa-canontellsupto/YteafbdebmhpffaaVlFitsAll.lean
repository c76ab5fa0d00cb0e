/- The texts VlHold, VlShow, VlFits in one; what each proves, and its conditions, stands before it. -/
import Derived.Test.YteafbdebmhpffaaGrActsAll
import Derived.Test.YteafbdebmhpffaaScMemAll
import Derived.Test.YteafbdebmhpffaaRetsAll
import Derived.WalkKit
import Derived.WalkSpells
import Derived.WalkLawsBesides
import Derived.IntWalk
import Derived.BigQuiet
import Derived.Laws.StructEq
/- The contracts of value.hold and value.show: what a field of a kind has room for, and the value that this shows. No condition. -/
namespace Go.Proofs.Yteafbdebmhpffaa
open Go.RowKit

/-- What is held: nothing, if there is no such kind. -/
def holdV (k n : Int) (s : ByteArray) (r : Int) : Value :=
  if k = 0 then .iface 121 (.int .i8 (IntKind.i8.wrap n))
  else if k = 1 then .iface 122 (.int .i16 (IntKind.i16.wrap n))
  else if k = 2 then .iface 21 (.int .i32 (wrap32 n))
  else if k = 3 then .iface 2 (.int .i64 n)
  else if k = 4 then .iface 9 (.string s)
  else if k = 5 then .iface 123 (.int .i64 r)
  else .nilIface
theorem vl_hold_x {k n : Int} {s : ByteArray} {r : Int} (h : ¬ (0 ≤ k ∧ k ≤ 5)) : holdV k n s r = .nilIface := by
  rw [holdV, if_neg (by omega), if_neg (by omega), if_neg (by omega), if_neg (by omega), if_neg (by omega), if_neg (by omega)]

theorem wrap_i8 (n : Int) : IntKind.i8.wrap n = (n + 128) % 256 - 128 := by
  show (if (true && decide (n % 256 ≥ 128)) = true then n % 256 - 256 else n % 256) = _
  rw [Bool.true_and]
  by_cases h : n % 256 ≥ 128
  · rw [if_pos (decide_eq_true h)]; omega
  · rw [if_neg (by rw [decide_eq_false h]; decide)]; omega
theorem wrap_i16 (n : Int) : IntKind.i16.wrap n = (n + 32768) % 65536 - 32768 := by
  show (if (true && decide (n % 65536 ≥ 32768)) = true then n % 65536 - 65536 else n % 65536) = _
  rw [Bool.true_and]
  by_cases h : n % 65536 ≥ 32768
  · rw [if_pos (decide_eq_true h)]; omega
  · rw [if_neg (by rw [decide_eq_false h]; decide)]; omega
set_option maxRecDepth 100000 in
set_option maxHeartbeats 1000000 in
theorem vlhold_any (a b s : ByteArray) (k n r : Int) (w : World) :
    Calls Try.prog 103 #[.agg #[.string a, .int .i64 k, .string b], .agg #[.int .i64 n, .string s, .int .i64 r]] w fun e w' => e = .returned (holdV k n s r) ∧ Below w.heap.size w w' := by
  have hB : ∀ u v, Below w.heap.size w ((w.alloc (.cells u 48)).alloc (.cells v 42)) := fun u v => ((Below.refl _ w).alloc (Nat.le_refl _) _).alloc (by simp) _
  have HB := Lib.hid hB
  clear hB
  rcases vl_kinds k with rfl | rfl | rfl | rfl | rfl | rfl | hk
  · go_enter Try.func103, Try.ntmps103
    go_wp2
    go_ret
    exact ⟨rfl, HB.out _ _⟩
  · go_enter Try.func103, Try.ntmps103
    go_wp2
    go_ret
    exact ⟨rfl, HB.out _ _⟩
  · go_enter Try.func103, Try.ntmps103
    go_wp2
    go_ret
    exact ⟨rfl, HB.out _ _⟩
  · go_enter Try.func103, Try.ntmps103
    go_wp2
    go_ret
    exact ⟨rfl, HB.out _ _⟩
  · go_enter Try.func103, Try.ntmps103
    go_wp2
    go_ret
    exact ⟨rfl, HB.out _ _⟩
  · go_enter Try.func103, Try.ntmps103
    go_wp2
    go_ret
    exact ⟨rfl, HB.out _ _⟩
  · rw [vl_hold_x hk]
    have e0 : (k == 0) = false := beq_false_of_ne (by omega)
    have e1 : (k == 1) = false := beq_false_of_ne (by omega)
    have e2 : (k == 2) = false := beq_false_of_ne (by omega)
    have e3 : (k == 3) = false := beq_false_of_ne (by omega)
    have e4 : (k == 4) = false := beq_false_of_ne (by omega)
    have e5 : (k == 5) = false := beq_false_of_ne (by omega)
    clear hk
    go_enter Try.func103, Try.ntmps103
    go_wp2
    go_ret
    exact ⟨rfl, HB.out _ _⟩
end Go.Proofs.Yteafbdebmhpffaa

/- The contract of value.show, form by form: the value that is held, and whether it is within the limits. No condition. -/
namespace Go.Proofs.Yteafbdebmhpffaa
open Go.RowKit

set_option maxRecDepth 100000 in
set_option maxHeartbeats 1000000 in
theorem vlshow_8 (x : Int) (w : World) (h0 : -128 ≤ x) (h1 : x ≤ 127) :
    Calls Try.prog 102 #[.iface 121 (.int .i8 x)] w fun e w' => e = .returned (.tuple #[.agg #[.int .i64 x, .string ⟨#[]⟩, .int .i64 0], .bool true]) ∧ Below w.heap.size w w' := by
  have t0 : ∀ W : World, (Instr.typeAssert (.iface 121 (.int .i8 x)) 20 121 true).run Try.prog W = .ok (.tuple #[.int .i8 x, .bool true]) W := fun _ => by kernel_rfl
  go_enter Try.func102, Try.ntmps102
  go_wp2
  refine ret_cell1 (d := .struct _) (cs := [.int .i64 x, .string ⟨#[]⟩, .int .i64 0]) rfl (Blk.new _ _ _) rfl rfl rfl rfl rfl ?_
  exact ⟨rfl, (Below.refl _ w).alloc (Nat.le_refl _) _⟩
set_option maxRecDepth 100000 in
set_option maxHeartbeats 1000000 in
theorem vlshow_16 (x : Int) (w : World) (h0 : -32768 ≤ x) (h1 : x ≤ 32767) :
    Calls Try.prog 102 #[.iface 122 (.int .i16 x)] w fun e w' => e = .returned (.tuple #[.agg #[.int .i64 x, .string ⟨#[]⟩, .int .i64 0], .bool true]) ∧ Below w.heap.size w w' := by
  have t0 : ∀ W : World, (Instr.typeAssert (.iface 122 (.int .i16 x)) 20 121 true).run Try.prog W = .ok (.tuple #[.int .i8 0, .bool false]) W := fun _ => by kernel_rfl
  have t1 : ∀ W : World, (Instr.typeAssert (.iface 122 (.int .i16 x)) 20 122 true).run Try.prog W = .ok (.tuple #[.int .i16 x, .bool true]) W := fun _ => by kernel_rfl
  go_enter Try.func102, Try.ntmps102
  go_wp2
  refine ret_cell1 (d := .struct _) (cs := [.int .i64 x, .string ⟨#[]⟩, .int .i64 0]) rfl (Blk.new _ _ _) rfl rfl rfl rfl rfl ?_
  exact ⟨rfl, (Below.refl _ w).alloc (Nat.le_refl _) _⟩
set_option maxRecDepth 100000 in
set_option maxHeartbeats 1000000 in
theorem vlshow_32 (x : Int) (w : World) (h0 : -2147483648 ≤ x) (h1 : x ≤ 2147483647) :
    Calls Try.prog 102 #[.iface 21 (.int .i32 x)] w fun e w' => e = .returned (.tuple #[.agg #[.int .i64 x, .string ⟨#[]⟩, .int .i64 0], .bool true]) ∧ Below w.heap.size w w' := by
  have t0 : ∀ W : World, (Instr.typeAssert (.iface 21 (.int .i32 x)) 20 121 true).run Try.prog W = .ok (.tuple #[.int .i8 0, .bool false]) W := fun _ => by kernel_rfl
  have t1 : ∀ W : World, (Instr.typeAssert (.iface 21 (.int .i32 x)) 20 122 true).run Try.prog W = .ok (.tuple #[.int .i16 0, .bool false]) W := fun _ => by kernel_rfl
  have t2 : ∀ W : World, (Instr.typeAssert (.iface 21 (.int .i32 x)) 20 21 true).run Try.prog W = .ok (.tuple #[.int .i32 x, .bool true]) W := fun _ => by kernel_rfl
  go_enter Try.func102, Try.ntmps102
  go_wp2
  refine ret_cell1 (d := .struct _) (cs := [.int .i64 x, .string ⟨#[]⟩, .int .i64 0]) rfl (Blk.new _ _ _) rfl rfl rfl rfl rfl ?_
  exact ⟨rfl, (Below.refl _ w).alloc (Nat.le_refl _) _⟩
set_option maxRecDepth 100000 in
set_option maxHeartbeats 1000000 in
theorem vlshow_64 (x : Int) (w : World) :
    Calls Try.prog 102 #[.iface 2 (.int .i64 x)] w fun e w' => e = .returned (.tuple #[.agg #[.int .i64 x, .string ⟨#[]⟩, .int .i64 0], .bool true]) ∧ Below w.heap.size w w' := by
  have t0 : ∀ W : World, (Instr.typeAssert (.iface 2 (.int .i64 x)) 20 121 true).run Try.prog W = .ok (.tuple #[.int .i8 0, .bool false]) W := fun _ => by kernel_rfl
  have t1 : ∀ W : World, (Instr.typeAssert (.iface 2 (.int .i64 x)) 20 122 true).run Try.prog W = .ok (.tuple #[.int .i16 0, .bool false]) W := fun _ => by kernel_rfl
  have t2 : ∀ W : World, (Instr.typeAssert (.iface 2 (.int .i64 x)) 20 21 true).run Try.prog W = .ok (.tuple #[.int .i32 0, .bool false]) W := fun _ => by kernel_rfl
  have t3 : ∀ W : World, (Instr.typeAssert (.iface 2 (.int .i64 x)) 20 2 true).run Try.prog W = .ok (.tuple #[.int .i64 x, .bool true]) W := fun _ => by kernel_rfl
  go_enter Try.func102, Try.ntmps102
  go_wp2
  refine ret_cell1 (d := .struct _) (cs := [.int .i64 x, .string ⟨#[]⟩, .int .i64 0]) rfl (Blk.new _ _ _) rfl rfl rfl rfl rfl ?_
  exact ⟨rfl, (Below.refl _ w).alloc (Nat.le_refl _) _⟩
set_option maxRecDepth 100000 in
set_option maxHeartbeats 1000000 in
theorem vlshow_s (s : ByteArray) (w : World) :
    Calls Try.prog 102 #[.iface 9 (.string s)] w fun e w' => e = .returned (.tuple #[.agg #[.int .i64 0, .string s, .int .i64 0], .bool (decide (s.size ≤ 12))]) ∧ Below w.heap.size w w' := by
  have t0 : ∀ W : World, (Instr.typeAssert (.iface 9 (.string s)) 20 121 true).run Try.prog W = .ok (.tuple #[.int .i8 0, .bool false]) W := fun _ => by kernel_rfl
  have t1 : ∀ W : World, (Instr.typeAssert (.iface 9 (.string s)) 20 122 true).run Try.prog W = .ok (.tuple #[.int .i16 0, .bool false]) W := fun _ => by kernel_rfl
  have t2 : ∀ W : World, (Instr.typeAssert (.iface 9 (.string s)) 20 21 true).run Try.prog W = .ok (.tuple #[.int .i32 0, .bool false]) W := fun _ => by kernel_rfl
  have t3 : ∀ W : World, (Instr.typeAssert (.iface 9 (.string s)) 20 2 true).run Try.prog W = .ok (.tuple #[.int .i64 0, .bool false]) W := fun _ => by kernel_rfl
  have t4 : ∀ W : World, (Instr.typeAssert (.iface 9 (.string s)) 20 9 true).run Try.prog W = .ok (.tuple #[.string s, .bool true]) W := fun _ => by kernel_rfl
  have hle : decide ((s.size : Int) ≤ 12) = decide (s.size ≤ 12) := decide_eq_decide.2 (by omega)
  go_enter Try.func102, Try.ntmps102
  go_wp2
  refine ret_cell1 (d := .struct _) (cs := [.int .i64 0, .string s, .int .i64 0]) rfl (Blk.new _ _ _) rfl rfl rfl rfl rfl ?_
  exact ⟨rfl, (Below.refl _ w).alloc (Nat.le_refl _) _⟩
set_option maxRecDepth 100000 in
set_option maxHeartbeats 1000000 in
theorem vlshow_r (x : Int) (w : World) :
    Calls Try.prog 102 #[.iface 123 (.int .i64 x)] w fun e w' => e = .returned (.tuple #[.agg #[.int .i64 0, .string ⟨#[]⟩, .int .i64 x], .bool (decide (-1 ≤ x) && decide (x ≤ 1073741824))]) ∧ Below w.heap.size w w' := by
  have t0 : ∀ W : World, (Instr.typeAssert (.iface 123 (.int .i64 x)) 20 121 true).run Try.prog W = .ok (.tuple #[.int .i8 0, .bool false]) W := fun _ => by kernel_rfl
  have t1 : ∀ W : World, (Instr.typeAssert (.iface 123 (.int .i64 x)) 20 122 true).run Try.prog W = .ok (.tuple #[.int .i16 0, .bool false]) W := fun _ => by kernel_rfl
  have t2 : ∀ W : World, (Instr.typeAssert (.iface 123 (.int .i64 x)) 20 21 true).run Try.prog W = .ok (.tuple #[.int .i32 0, .bool false]) W := fun _ => by kernel_rfl
  have t3 : ∀ W : World, (Instr.typeAssert (.iface 123 (.int .i64 x)) 20 2 true).run Try.prog W = .ok (.tuple #[.int .i64 0, .bool false]) W := fun _ => by kernel_rfl
  have t4 : ∀ W : World, (Instr.typeAssert (.iface 123 (.int .i64 x)) 20 9 true).run Try.prog W = .ok (.tuple #[.string ⟨#[]⟩, .bool false]) W := fun _ => by kernel_rfl
  have t5 : ∀ W : World, (Instr.typeAssert (.iface 123 (.int .i64 x)) 20 123 true).run Try.prog W = .ok (.tuple #[.int .i64 x, .bool true]) W := fun _ => by kernel_rfl
  by_cases h : -1 ≤ x
  · have hd : decide (-1 ≤ x) = true := decide_eq_true h
    rw [hd, Bool.true_and]
    go_enter Try.func102, Try.ntmps102
    go_wp2
    refine ret_cell1 (d := .struct _) (cs := [.int .i64 0, .string ⟨#[]⟩, .int .i64 x]) rfl (Blk.new _ _ _) rfl rfl rfl rfl rfl ?_
    exact ⟨rfl, (Below.refl _ w).alloc (Nat.le_refl _) _⟩
  · have hd : decide (-1 ≤ x) = false := decide_eq_false h
    rw [hd, Bool.false_and]
    go_enter Try.func102, Try.ntmps102
    go_wp2
    refine ret_cell1 (d := .struct _) (cs := [.int .i64 0, .string ⟨#[]⟩, .int .i64 x]) rfl (Blk.new _ _ _) rfl rfl rfl rfl rfl ?_
    exact ⟨rfl, (Below.refl _ w).alloc (Nat.le_refl _) _⟩
set_option maxRecDepth 100000 in
set_option maxHeartbeats 1000000 in
theorem vlshow_x (w : World) :
    Calls Try.prog 102 #[.nilIface] w fun e w' => e = .returned (.tuple #[.agg #[.int .i64 0, .string ⟨#[]⟩, .int .i64 0], .bool false]) ∧ Below w.heap.size w w' := by
  have t0 : ∀ W : World, (Instr.typeAssert (.nilIface) 20 121 true).run Try.prog W = .ok (.tuple #[.int .i8 0, .bool false]) W := fun _ => by kernel_rfl
  have t1 : ∀ W : World, (Instr.typeAssert (.nilIface) 20 122 true).run Try.prog W = .ok (.tuple #[.int .i16 0, .bool false]) W := fun _ => by kernel_rfl
  have t2 : ∀ W : World, (Instr.typeAssert (.nilIface) 20 21 true).run Try.prog W = .ok (.tuple #[.int .i32 0, .bool false]) W := fun _ => by kernel_rfl
  have t3 : ∀ W : World, (Instr.typeAssert (.nilIface) 20 2 true).run Try.prog W = .ok (.tuple #[.int .i64 0, .bool false]) W := fun _ => by kernel_rfl
  have t4 : ∀ W : World, (Instr.typeAssert (.nilIface) 20 9 true).run Try.prog W = .ok (.tuple #[.string ⟨#[]⟩, .bool false]) W := fun _ => by kernel_rfl
  have t5 : ∀ W : World, (Instr.typeAssert (.nilIface) 20 123 true).run Try.prog W = .ok (.tuple #[.int .i64 0, .bool false]) W := fun _ => by kernel_rfl
  go_enter Try.func102, Try.ntmps102
  go_wp2
  refine ret_cell1 (d := .struct _) (cs := [.int .i64 0, .string ⟨#[]⟩, .int .i64 0]) rfl (Blk.new _ _ _) rfl rfl rfl rfl rfl ?_
  exact ⟨rfl, (Below.refl _ w).alloc (Nat.le_refl _) _⟩
end Go.Proofs.Yteafbdebmhpffaa

/- The contracts of value.Fits and value.Zero, and of the document's own. No condition. -/
namespace Go.Proofs.Yteafbdebmhpffaa
open Go.RowKit

theorem sval_stood : Try.prog.stoodInHeld 42 = false := by kernel_rfl
theorem sval_guard : Try.prog.eqGuardType Try.prog.depth 42 = false := by kernel_rfl
set_option maxRecDepth 100000 in
theorem vl_eql (n1 n2 r1 r2 : Int) (s1 s2 : ByteArray) (w : World) : (binOp .eql 42 (.agg #[.int .i64 n1, .string s1, .int .i64 r1]) (.agg #[.int .i64 n2, .string s2, .int .i64 r2])).run Try.prog w
    = .ok (.bool ((n1 == n2) && (s1.toList == s2.toList) && (r1 == r2))) w := by
  have h1 := sval_stood
  cases e1 : (s1.toList == s2.toList) <;> cases e2 : (n1 == n2) <;> cases e3 : (r1 == r2)
  all_goals go_simp
set_option maxRecDepth 100000 in
theorem vl_neq (n1 n2 r1 r2 : Int) (s1 s2 : ByteArray) (w : World) : (binOp .neq 42 (.agg #[.int .i64 n1, .string s1, .int .i64 r1]) (.agg #[.int .i64 n2, .string s2, .int .i64 r2])).run Try.prog w
    = .ok (.bool (!((n1 == n2) && (s1.toList == s2.toList) && (r1 == r2)))) w := by
  have h1 := sval_stood
  cases e1 : (s1.toList == s2.toList) <;> cases e2 : (n1 == n2) <;> cases e3 : (r1 == r2)
  all_goals go_simp
theorem vl_is (n1 n2 r1 r2 : Int) (s1 s2 : ByteArray) : ((n1 == n2) && (s1.toList == s2.toList) && (r1 == r2)) = decide ((n1, byt s1, r1) = (n2, byt s2, r2)) := by
  rw [str_beq]
  simp only [Prod.mk.injEq]
  by_cases e1 : n1 = n2 <;> by_cases e2 : byt s1 = byt s2 <;> by_cases e3 : r1 = r2 <;> simp [e1, e2, e3]
theorem byt_nil : byt ⟨#[]⟩ = [] := rfl
/-- What shows of what is held, and that it is the same just if it fits. -/
theorem vlshow_hold (k n r : Int) (s : ByteArray) : ∃ (n1 : Int) (s1 : ByteArray) (r1 : Int) (b : Bool), (b && decide ((n1, byt s1, r1) = (n, byt s, r))) = fitsV k (n, byt s, r) ∧
    ∀ w, Calls Try.prog 102 #[holdV k n s r] w fun e w' => e = .returned (.tuple #[.agg #[.int .i64 n1, .string s1, .int .i64 r1], .bool b]) ∧ Below w.heap.size w w' := by
  rcases vl_kinds k with rfl | rfl | rfl | rfl | rfl | rfl | hk
  · have hw := wrap_i8 n
    refine ⟨_, _, _, _, ?_, fun w => vlshow_8 (IntKind.i8.wrap n) w (by omega) (by omega)⟩
    rw [vl_fits_0, Bool.true_and]
    refine decide_eq_decide.2 ?_
    simp only [Prod.mk.injEq, byt_nil]
    refine ⟨fun h => ⟨by omega, by omega, h.2.1.symm, h.2.2.symm⟩, fun h => ⟨by omega, h.2.2.1.symm, h.2.2.2.symm⟩⟩
  · have hw := wrap_i16 n
    refine ⟨_, _, _, _, ?_, fun w => vlshow_16 (IntKind.i16.wrap n) w (by omega) (by omega)⟩
    rw [vl_fits_1, Bool.true_and]
    refine decide_eq_decide.2 ?_
    simp only [Prod.mk.injEq, byt_nil]
    refine ⟨fun h => ⟨by omega, by omega, h.2.1.symm, h.2.2.symm⟩, fun h => ⟨by omega, h.2.2.1.symm, h.2.2.2.symm⟩⟩
  · have hw : wrap32 n = (n + 2147483648) % 4294967296 - 2147483648 := by unfold wrap32; rfl
    refine ⟨_, _, _, _, ?_, fun w => vlshow_32 (wrap32 n) w (by omega) (by omega)⟩
    rw [vl_fits_2, Bool.true_and]
    refine decide_eq_decide.2 ?_
    simp only [Prod.mk.injEq, byt_nil]
    refine ⟨fun h => ⟨by omega, by omega, h.2.1.symm, h.2.2.symm⟩, fun h => ⟨by omega, h.2.2.1.symm, h.2.2.2.symm⟩⟩
  · refine ⟨_, _, _, _, ?_, fun w => vlshow_64 n w⟩
    rw [vl_fits_3, Bool.true_and]
    refine decide_eq_decide.2 ?_
    simp only [Prod.mk.injEq, byt_nil]
    exact ⟨fun h => ⟨h.2.1.symm, h.2.2.symm⟩, fun h => ⟨trivial, h.1.symm, h.2.symm⟩⟩
  · refine ⟨_, _, _, _, ?_, fun w => vlshow_s s w⟩
    rw [vl_fits_4, ← Bool.decide_and]
    refine decide_eq_decide.2 ?_
    simp only [Prod.mk.injEq, byt_length]
    exact ⟨fun h => ⟨h.1, h.2.1.symm, h.2.2.2.symm⟩, fun h => ⟨h.1, h.2.1.symm, trivial, h.2.2.symm⟩⟩
  · refine ⟨_, _, _, _, ?_, fun w => vlshow_r r w⟩
    rw [vl_fits_5, ← Bool.decide_and, ← Bool.decide_and]
    refine decide_eq_decide.2 ?_
    simp only [Prod.mk.injEq, byt_nil]
    exact ⟨fun h => ⟨h.1.1, h.1.2, h.2.1.symm, h.2.2.1.symm⟩, fun h => ⟨⟨h.1, h.2.1⟩, h.2.2.1.symm, h.2.2.2.symm, trivial⟩⟩
  · refine ⟨_, _, _, _, ?_, fun w => by rw [vl_hold_x hk]; exact vlshow_x w⟩
    rw [vl_fits_x hk, Bool.false_and]

set_option maxRecDepth 100000 in
set_option maxHeartbeats 1000000 in
theorem vlfits_any (a b s : ByteArray) (k n r : Int) (w : World) :
    Calls Try.prog 94 #[.agg #[.string a, .int .i64 k, .string b], .agg #[.int .i64 n, .string s, .int .i64 r]] w fun e w' => e = .returned (.bool (fitsV k (n, byt s, r))) ∧ Below w.heap.size w w' := by
  have hB : ∀ u v, Below w.heap.size w ((w.alloc (.cells u 48)).alloc (.cells v 42)) := fun u v => ((Below.refl _ w).alloc (Nat.le_refl _) _).alloc (by simp) _
  obtain ⟨n1, s1, r1, bb, hfit, hshow⟩ := vlshow_hold k n r s
  have T1 := Lib.hid (fun W => vlhold_any a b s k n r W)
  have T2 := Lib.hid hshow
  have Hf := Lib.hid hfit
  have hq : ∀ W, (binOp .eql 42 (.agg #[.int .i64 n1, .string s1, .int .i64 r1]) (.agg #[.int .i64 n, .string s, .int .i64 r])).run Try.prog W = .ok (.bool (decide ((n1, byt s1, r1) = (n, byt s, r)))) W := fun W => by rw [vl_eql, vl_is]
  have hg := sval_guard
  clear hshow hfit
  generalize fitsV k (n, byt s, r) = F at *
  generalize decide ((n1, byt s1, r1) = (n, byt s, r)) = q at *
  go_enter Try.func94, Try.ntmps94
  go_wp2_with fail
  refine (T1.out _).mono ?_
  generalize holdV k n s r = hv at *
  rintro e w1 ⟨rfl, hC1⟩
  go_wp2_with fail
  refine (T2.out _).mono ?_
  rintro e w2 ⟨rfl, hC2⟩
  have hB1 := (hB _ _).trans (hC1.mono (hB _ _).size)
  have hB2 := hB1.trans (hC2.mono hB1.size)
  have v2 := (((Blk.new (w.alloc (.cells #[.string a, .int .i64 k, .string b] 48)) 42 [.int .i64 n, .string s, .int .i64 r]).below (Nat.lt_succ_self _) (hC1.mono (by simp)))).below (Nat.lt_of_lt_of_le (Nat.lt_succ_self _) (by simpa using hC1.size)) hC2
  rw [World.size_alloc] at v2
  have hB3 := hB2.alloc hB2.size (.cells #[.int .i64 n1, .string s1, .int .i64 r1] 42)
  have v3 := v2.alloc (.cells #[.int .i64 n1, .string s1, .int .i64 r1] 42)
  have y0 := v3.cell (j := 0) rfl
  have y1 := v3.cell (j := 1) rfl
  have y2 := v3.cell (j := 2) rfl
  have HB3 := Lib.hid hB3
  clear hC1 hC2 hB1 hB2 hB v2 v3 hB3
  cases bb
  · go_wp2
    go_ret
    exact ⟨by rw [← Hf.out]; rfl, HB3.out⟩
  · go_wp2
    go_ret
    exact ⟨by rw [← Hf.out]; rfl, HB3.out⟩

theorem assert_id (k : Int) (W : World) : (Instr.typeAssert (holdV k 0 ⟨#[]⟩ 0) 20 123 true).run Try.prog W = .ok (.tuple #[.int .i64 0, .bool (decide (k = 5))]) W := by
  rcases vl_kinds k with rfl | rfl | rfl | rfl | rfl | rfl | hk
  · kernel_rfl
  · kernel_rfl
  · kernel_rfl
  · kernel_rfl
  · kernel_rfl
  · kernel_rfl
  · rw [vl_hold_x hk, decide_eq_false (by omega)]; kernel_rfl

end Go.Proofs.Yteafbdebmhpffaa
