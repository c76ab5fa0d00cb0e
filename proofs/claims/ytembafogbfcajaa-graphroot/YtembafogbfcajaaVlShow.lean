/- The contract of value.show, form by form: the value that is held, and whether it is within the limits. No condition. -/
import Derived.Test.YtembafogbfcajaaVlHold
namespace Go.Proofs.Ytembafogbfcajaa
open Go.RowKit

set_option maxRecDepth 100000 in
set_option maxHeartbeats 1000000 in
theorem vlshow_8 (x : Int) (w : World) (h0 : -128 ≤ x) (h1 : x ≤ 127) :
    Calls Try.prog 99 #[.iface 103 (.int .i8 x)] w fun e w' => e = .returned (.tuple #[.agg #[.int .i64 x, .string ⟨#[]⟩, .int .i64 0], .bool true]) ∧ Below w.heap.size w w' := by
  have t0 : ∀ W : World, (Instr.typeAssert (.iface 103 (.int .i8 x)) 20 103 true).run Try.prog W = .ok (.tuple #[.int .i8 x, .bool true]) W := fun _ => by kernel_rfl
  go_enter Try.func99, Try.ntmps99
  go_wp2
  refine ret_cell1 (d := .struct _) (cs := [.int .i64 x, .string ⟨#[]⟩, .int .i64 0]) rfl (Blk.new _ _ _) rfl rfl rfl rfl rfl ?_
  exact ⟨rfl, (Below.refl _ w).alloc (Nat.le_refl _) _⟩
set_option maxRecDepth 100000 in
set_option maxHeartbeats 1000000 in
theorem vlshow_16 (x : Int) (w : World) (h0 : -32768 ≤ x) (h1 : x ≤ 32767) :
    Calls Try.prog 99 #[.iface 104 (.int .i16 x)] w fun e w' => e = .returned (.tuple #[.agg #[.int .i64 x, .string ⟨#[]⟩, .int .i64 0], .bool true]) ∧ Below w.heap.size w w' := by
  have t0 : ∀ W : World, (Instr.typeAssert (.iface 104 (.int .i16 x)) 20 103 true).run Try.prog W = .ok (.tuple #[.int .i8 0, .bool false]) W := fun _ => by kernel_rfl
  have t1 : ∀ W : World, (Instr.typeAssert (.iface 104 (.int .i16 x)) 20 104 true).run Try.prog W = .ok (.tuple #[.int .i16 x, .bool true]) W := fun _ => by kernel_rfl
  go_enter Try.func99, Try.ntmps99
  go_wp2
  refine ret_cell1 (d := .struct _) (cs := [.int .i64 x, .string ⟨#[]⟩, .int .i64 0]) rfl (Blk.new _ _ _) rfl rfl rfl rfl rfl ?_
  exact ⟨rfl, (Below.refl _ w).alloc (Nat.le_refl _) _⟩
set_option maxRecDepth 100000 in
set_option maxHeartbeats 1000000 in
theorem vlshow_32 (x : Int) (w : World) (h0 : -2147483648 ≤ x) (h1 : x ≤ 2147483647) :
    Calls Try.prog 99 #[.iface 21 (.int .i32 x)] w fun e w' => e = .returned (.tuple #[.agg #[.int .i64 x, .string ⟨#[]⟩, .int .i64 0], .bool true]) ∧ Below w.heap.size w w' := by
  have t0 : ∀ W : World, (Instr.typeAssert (.iface 21 (.int .i32 x)) 20 103 true).run Try.prog W = .ok (.tuple #[.int .i8 0, .bool false]) W := fun _ => by kernel_rfl
  have t1 : ∀ W : World, (Instr.typeAssert (.iface 21 (.int .i32 x)) 20 104 true).run Try.prog W = .ok (.tuple #[.int .i16 0, .bool false]) W := fun _ => by kernel_rfl
  have t2 : ∀ W : World, (Instr.typeAssert (.iface 21 (.int .i32 x)) 20 21 true).run Try.prog W = .ok (.tuple #[.int .i32 x, .bool true]) W := fun _ => by kernel_rfl
  go_enter Try.func99, Try.ntmps99
  go_wp2
  refine ret_cell1 (d := .struct _) (cs := [.int .i64 x, .string ⟨#[]⟩, .int .i64 0]) rfl (Blk.new _ _ _) rfl rfl rfl rfl rfl ?_
  exact ⟨rfl, (Below.refl _ w).alloc (Nat.le_refl _) _⟩
set_option maxRecDepth 100000 in
set_option maxHeartbeats 1000000 in
theorem vlshow_64 (x : Int) (w : World) :
    Calls Try.prog 99 #[.iface 2 (.int .i64 x)] w fun e w' => e = .returned (.tuple #[.agg #[.int .i64 x, .string ⟨#[]⟩, .int .i64 0], .bool true]) ∧ Below w.heap.size w w' := by
  have t0 : ∀ W : World, (Instr.typeAssert (.iface 2 (.int .i64 x)) 20 103 true).run Try.prog W = .ok (.tuple #[.int .i8 0, .bool false]) W := fun _ => by kernel_rfl
  have t1 : ∀ W : World, (Instr.typeAssert (.iface 2 (.int .i64 x)) 20 104 true).run Try.prog W = .ok (.tuple #[.int .i16 0, .bool false]) W := fun _ => by kernel_rfl
  have t2 : ∀ W : World, (Instr.typeAssert (.iface 2 (.int .i64 x)) 20 21 true).run Try.prog W = .ok (.tuple #[.int .i32 0, .bool false]) W := fun _ => by kernel_rfl
  have t3 : ∀ W : World, (Instr.typeAssert (.iface 2 (.int .i64 x)) 20 2 true).run Try.prog W = .ok (.tuple #[.int .i64 x, .bool true]) W := fun _ => by kernel_rfl
  go_enter Try.func99, Try.ntmps99
  go_wp2
  refine ret_cell1 (d := .struct _) (cs := [.int .i64 x, .string ⟨#[]⟩, .int .i64 0]) rfl (Blk.new _ _ _) rfl rfl rfl rfl rfl ?_
  exact ⟨rfl, (Below.refl _ w).alloc (Nat.le_refl _) _⟩
set_option maxRecDepth 100000 in
set_option maxHeartbeats 1000000 in
theorem vlshow_s (s : ByteArray) (w : World) :
    Calls Try.prog 99 #[.iface 9 (.string s)] w fun e w' => e = .returned (.tuple #[.agg #[.int .i64 0, .string s, .int .i64 0], .bool (decide (s.size ≤ 12))]) ∧ Below w.heap.size w w' := by
  have t0 : ∀ W : World, (Instr.typeAssert (.iface 9 (.string s)) 20 103 true).run Try.prog W = .ok (.tuple #[.int .i8 0, .bool false]) W := fun _ => by kernel_rfl
  have t1 : ∀ W : World, (Instr.typeAssert (.iface 9 (.string s)) 20 104 true).run Try.prog W = .ok (.tuple #[.int .i16 0, .bool false]) W := fun _ => by kernel_rfl
  have t2 : ∀ W : World, (Instr.typeAssert (.iface 9 (.string s)) 20 21 true).run Try.prog W = .ok (.tuple #[.int .i32 0, .bool false]) W := fun _ => by kernel_rfl
  have t3 : ∀ W : World, (Instr.typeAssert (.iface 9 (.string s)) 20 2 true).run Try.prog W = .ok (.tuple #[.int .i64 0, .bool false]) W := fun _ => by kernel_rfl
  have t4 : ∀ W : World, (Instr.typeAssert (.iface 9 (.string s)) 20 9 true).run Try.prog W = .ok (.tuple #[.string s, .bool true]) W := fun _ => by kernel_rfl
  have hle : decide ((s.size : Int) ≤ 12) = decide (s.size ≤ 12) := decide_eq_decide.2 (by omega)
  go_enter Try.func99, Try.ntmps99
  go_wp2
  refine ret_cell1 (d := .struct _) (cs := [.int .i64 0, .string s, .int .i64 0]) rfl (Blk.new _ _ _) rfl rfl rfl rfl rfl ?_
  exact ⟨rfl, (Below.refl _ w).alloc (Nat.le_refl _) _⟩
set_option maxRecDepth 100000 in
set_option maxHeartbeats 1000000 in
theorem vlshow_r (x : Int) (w : World) :
    Calls Try.prog 99 #[.iface 81 (.int .i64 x)] w fun e w' => e = .returned (.tuple #[.agg #[.int .i64 0, .string ⟨#[]⟩, .int .i64 x], .bool (decide (-1 ≤ x) && decide (x ≤ 1073741824))]) ∧ Below w.heap.size w w' := by
  have t0 : ∀ W : World, (Instr.typeAssert (.iface 81 (.int .i64 x)) 20 103 true).run Try.prog W = .ok (.tuple #[.int .i8 0, .bool false]) W := fun _ => by kernel_rfl
  have t1 : ∀ W : World, (Instr.typeAssert (.iface 81 (.int .i64 x)) 20 104 true).run Try.prog W = .ok (.tuple #[.int .i16 0, .bool false]) W := fun _ => by kernel_rfl
  have t2 : ∀ W : World, (Instr.typeAssert (.iface 81 (.int .i64 x)) 20 21 true).run Try.prog W = .ok (.tuple #[.int .i32 0, .bool false]) W := fun _ => by kernel_rfl
  have t3 : ∀ W : World, (Instr.typeAssert (.iface 81 (.int .i64 x)) 20 2 true).run Try.prog W = .ok (.tuple #[.int .i64 0, .bool false]) W := fun _ => by kernel_rfl
  have t4 : ∀ W : World, (Instr.typeAssert (.iface 81 (.int .i64 x)) 20 9 true).run Try.prog W = .ok (.tuple #[.string ⟨#[]⟩, .bool false]) W := fun _ => by kernel_rfl
  have t5 : ∀ W : World, (Instr.typeAssert (.iface 81 (.int .i64 x)) 20 81 true).run Try.prog W = .ok (.tuple #[.int .i64 x, .bool true]) W := fun _ => by kernel_rfl
  by_cases h : -1 ≤ x
  · have hd : decide (-1 ≤ x) = true := decide_eq_true h
    rw [hd, Bool.true_and]
    go_enter Try.func99, Try.ntmps99
    go_wp2
    refine ret_cell1 (d := .struct _) (cs := [.int .i64 0, .string ⟨#[]⟩, .int .i64 x]) rfl (Blk.new _ _ _) rfl rfl rfl rfl rfl ?_
    exact ⟨rfl, (Below.refl _ w).alloc (Nat.le_refl _) _⟩
  · have hd : decide (-1 ≤ x) = false := decide_eq_false h
    rw [hd, Bool.false_and]
    go_enter Try.func99, Try.ntmps99
    go_wp2
    refine ret_cell1 (d := .struct _) (cs := [.int .i64 0, .string ⟨#[]⟩, .int .i64 x]) rfl (Blk.new _ _ _) rfl rfl rfl rfl rfl ?_
    exact ⟨rfl, (Below.refl _ w).alloc (Nat.le_refl _) _⟩
set_option maxRecDepth 100000 in
set_option maxHeartbeats 1000000 in
theorem vlshow_x (w : World) :
    Calls Try.prog 99 #[.nilIface] w fun e w' => e = .returned (.tuple #[.agg #[.int .i64 0, .string ⟨#[]⟩, .int .i64 0], .bool false]) ∧ Below w.heap.size w w' := by
  have t0 : ∀ W : World, (Instr.typeAssert (.nilIface) 20 103 true).run Try.prog W = .ok (.tuple #[.int .i8 0, .bool false]) W := fun _ => by kernel_rfl
  have t1 : ∀ W : World, (Instr.typeAssert (.nilIface) 20 104 true).run Try.prog W = .ok (.tuple #[.int .i16 0, .bool false]) W := fun _ => by kernel_rfl
  have t2 : ∀ W : World, (Instr.typeAssert (.nilIface) 20 21 true).run Try.prog W = .ok (.tuple #[.int .i32 0, .bool false]) W := fun _ => by kernel_rfl
  have t3 : ∀ W : World, (Instr.typeAssert (.nilIface) 20 2 true).run Try.prog W = .ok (.tuple #[.int .i64 0, .bool false]) W := fun _ => by kernel_rfl
  have t4 : ∀ W : World, (Instr.typeAssert (.nilIface) 20 9 true).run Try.prog W = .ok (.tuple #[.string ⟨#[]⟩, .bool false]) W := fun _ => by kernel_rfl
  have t5 : ∀ W : World, (Instr.typeAssert (.nilIface) 20 81 true).run Try.prog W = .ok (.tuple #[.int .i64 0, .bool false]) W := fun _ => by kernel_rfl
  go_enter Try.func99, Try.ntmps99
  go_wp2
  refine ret_cell1 (d := .struct _) (cs := [.int .i64 0, .string ⟨#[]⟩, .int .i64 0]) rfl (Blk.new _ _ _) rfl rfl rfl rfl rfl ?_
  exact ⟨rfl, (Below.refl _ w).alloc (Nat.le_refl _) _⟩
end Go.Proofs.Ytembafogbfcajaa
