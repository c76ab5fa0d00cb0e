/- The texts VaGet, VaNum, VaAll, VaPut, VaZig in one (as far as the seat has what they speak of); what each proves, and its conditions, stands before it. -/
import Derived.Test.YtclbjbhpncpmbaaGreatDoorGGen
import Derived.Test.YtclbjbhpncpmbaaGreatDoorGBytes
import Derived.RangeFuncBox
import Derived.RangeFuncLeaves
import Derived.Shelf.Abstract
import Derived.OwnWalkIn
import Derived.TacticsInMore
import Derived.LoopNIn
import Derived.LoopIn
import Derived.Maps.AppendAt
import Derived.Deep.QuietTactic
import Derived.BigQuiet
import Derived.Scope
import Derived.RangeFuncNested
import Derived.WalkKit
import Derived.WalkSpells
import Derived.WalkLawsBesides
import Derived.IntWalk
/- The contract of vari.Get: at every slice of bytes it tells what 'getL' tells, and changes nothing. -/
namespace Go.Proofs.YtclbjbhpncpmbaaGreatDoor
open Go.RowKit


theorem pow27 (k : Nat) : (2 : Int) ^ (7 * k) = ((128 ^ k : Nat) : Int) := by
  rw [Int.natCast_pow, Int.pow_mul]; rfl
theorem shl_step (acc d k : Nat) (h : acc + d % 128 * 128 ^ k < 18446744073709551616) :
    IntKind.u64.wrap ((acc : Int) + IntKind.u64.wrap ((d : Int) % 128 * 2 ^ (7 * k))) = ((acc + d % 128 * 128 ^ k : Nat) : Int) := by
  have e : (d : Int) % 128 * 2 ^ (7 * k) = ((d % 128 * 128 ^ k : Nat) : Int) := by
    rw [pow27, Int.natCast_mul]; rfl
  rw [e, IntKind.wrap_u64, IntKind.wrap_u64]
  generalize d % 128 * 128 ^ k = x at *
  omega
theorem acc_lt (acc d k : Nat) (h : acc < 128 ^ k) (hk : k ≤ 8) : acc + d % 128 * 128 ^ k < 128 ^ (k + 1) ∧ 128 ^ (k + 1) ≤ 9223372036854775808 := by
  constructor
  · have h2 : d % 128 * 128 ^ k ≤ 127 * 128 ^ k := Nat.mul_le_mul_right _ (by omega)
    rw [Nat.pow_succ]; omega
  · have e9 : (128 : Nat) ^ 9 = 9223372036854775808 := by decide
    rw [← e9]
    exact Nat.pow_le_pow_right (by omega) (by omega)
theorem ret_two {k l : IntKind} {a b c d : Int} (h : a = b) (h2 : c = d) : Ending.returned (.tuple #[.int k a, .int l c]) = .returned (.tuple #[.int k b, .int l d]) := by rw [h, h2]

end Go.Proofs.YtclbjbhpncpmbaaGreatDoor

/- The contract of vari.All: at every slice of bytes it tells what 'allL' tells, in memory of the call's own, and changes nothing that was there. -/
namespace Go.Proofs.YtclbjbhpncpmbaaGreatDoor
open Go.RowKit Go.Shelf
attribute [local go_sem] Oper.semAt_some


/-- What a round of All keeps: what lay below n₀, and the box Bs. -/
def KpN (n₀ Bs : Nat) (W W' : World) : Prop := Below n₀ W W' ∧ W'.heap[Bs]? = W.heap[Bs]?
theorem KpN.refl (n₀ Bs : Nat) (W : World) : KpN n₀ Bs W W := ⟨Below.refl _ _, rfl⟩
theorem KpN.trans {n₀ Bs : Nat} {A B C : World} (h : KpN n₀ Bs A B) (k : KpN n₀ Bs B C) : KpN n₀ Bs A C := ⟨h.1.trans k.1, k.2.trans h.2⟩
theorem KpN.cell {n₀ Bs : Nat} {A B : World} (h : KpN n₀ Bs A B) (i : Nat) : B.cell? ⟨Bs, i, none⟩ = A.cell? ⟨Bs, i, none⟩ := World.cell?_of_block h.2

abbrev encN (x : Nat × Nat) : Array Value := #[.int .u64 (x.1 : Int), .int .i64 (x.2 : Int)]

end Go.Proofs.YtclbjbhpncpmbaaGreatDoor

/- The contract of vari.All: at every slice of bytes it tells what 'allL' tells, in memory of the call's own, and changes nothing that was there. -/
namespace Go.Proofs.YtclbjbhpncpmbaaGreatDoor
open Go.RowKit Go.Shelf
attribute [local go_sem] Oper.semAt_some

theorem info_u64 : (Tryz.prog.info? 110).map (fun i => (i.zero, i.size, i.bytes)) = some (some (.int .u64 0), 1, 8) := by kernel_rfl






end Go.Proofs.YtclbjbhpncpmbaaGreatDoor

/- The contracts of vari.Put, and of the document's own: for every number of 64 bits, the bytes 'putL', in memory of the call's own. -/
namespace Go.Proofs.YtclbjbhpncpmbaaGreatDoor
open Go.RowKit


/-- One append of one byte onto a row of the call's own: what it leaves. -/
theorem own_step {B : Nat} {w wr w1 : World} {v v' : Value} {pre : List Nat} {x : Nat} {o : Obj} (hnx : Below B w wr) (hown : wr.ownsRow B 5 1 v pre.length (u8s pre)) (hle : B ≤ wr.heap.size)
    (hown' : w1.ownsRow B 5 1 v' (pre.length + 1) (u8s pre ++ [.int .u8 (x : Int)])) (hg : (wr.alloc o).grownBy w1 v.ownBlock) :
    w1.ownsRow B 5 1 v' (pre ++ [x]).length (u8s (pre ++ [x])) ∧ Below B w w1 := by
  constructor
  · rw [u8s_append]; simpa [u8s] using hown'
  · exact (hnx.alloc hle o).grown hg (by simp; omega) (fun k hk => (hown.lt k hk).1)

set_option maxRecDepth 100000 in
set_option maxHeartbeats 400000 in
theorem vput_any (N : Nat) (w : World) (hN : N < 18446744073709551616) :
    Calls Tryz.prog 98 #[.int .u64 (N : Int)] w fun e w' => ∃ v, e = .returned v ∧ w'.ownsRow w.heap.size 5 1 v (vputL N).length (u8s (vputL N)) ∧ Below w.heap.size w w' := by
  obtain ⟨i0, hi, hz0, hz1, hz2⟩ := info_parts info_u8
  have hmk : ∀ w, (Instr.makeSlice 104 (.int .i64 0) (.int .i64 10)).run Tryz.prog w = .ok (.slice (some ⟨w.heap.size, 0, none⟩) 0 10) (w.alloc (.cells #[.int .u8 0, .int .u8 0, .int .u8 0, .int .u8 0, .int .u8 0, .int .u8 0, .int .u8 0, .int .u8 0, .int .u8 0, .int .u8 0] 5)) := fun _ => by kernel_rfl
  have hl10 := putL_len10 N hN
  go_enter Tryz.func98, Tryz.ntmps98
  go_wp2
  go_loopw [0, 3] (fun n v wr => ∃ (m : Nat) (pre : List Nat), n = .int .u64 (m : Int) ∧ m < 18446744073709551616 ∧ vputL N = pre ++ vputL m ∧ wr.ownsRow w.heap.size 5 1 v pre.length (u8s pre) ∧ Below w.heap.size w wr)
    (fun n _ _ => (intOf n).toNat)
  case atStart => exact ⟨N, [], rfl, hN, rfl, World.ownsRow_made _ _ 10 (Nat.le_refl _) (by simp [maxLen]) rfl, (Below.refl _ _).alloc (Nat.le_refl _) _⟩
  case round =>
    obtain ⟨m, pre, rfl, hm, hp, hown, hnx⟩ := hrel
    have hsz := hnx.size
    have hpl : pre.length + (vputL m).length ≤ 10 := by rw [← List.length_append, ← hp]; exact hl10
    by_cases h : m < 128
    · rw [putL_small h] at hp hpl
      have Hp := Lib.hid hp
      simp at hpl
      clear hp
      go_wp2_with (at_builtin; refine wpList_append_own _ rfl _ _ 104 rfl w.heap.size 5 i0 (.int .u8 0) 1 1 Tryz.underlying104 hi hz0 hz1 hz2 rfl (by decide) _ _ _ rfl (hown.alloc _) ⟨wr.heap.size, 0, none⟩ 1 1 [.int .u8 (m : Int)] rfl rfl (cell_one_new _ _ _) (by simp [Value.oneCell']) (by simp only [maxLen]; omega) (by omega) (by simp; omega) ?_; intro v' w1 hown' hgrow _)
      have R := own_step hnx hown hsz hown' hgrow
      go_ret
      exact ⟨_, rfl, by rw [Hp.out]; exact R.1, R.2⟩
    · rw [putL_big h] at hp hpl
      have Hp := Lib.hid hp
      simp at hpl
      clear hp
      go_wp2_with (at_builtin; refine wpList_append_own _ rfl _ _ 104 rfl w.heap.size 5 i0 (.int .u8 0) 1 1 Tryz.underlying104 hi hz0 hz1 hz2 rfl (by decide) _ _ _ rfl (hown.alloc _) ⟨wr.heap.size, 0, none⟩ 1 1 [.int .u8 ((m % 128 + 128 : Nat) : Int)] rfl rfl (cell_one_new _ _ _) (by simp [Value.oneCell']) (by simp only [maxLen]; omega) (by omega) (by simp; omega) ?_; intro v' w1 hown' hgrow _)
      have R := own_step hnx hown hsz hown' hgrow
      refine ⟨⟨m / 128, pre ++ [m % 128 + 128], by go_num, by omega, by rw [Hp.out]; simp, R.1, R.2⟩, ?_⟩
      simp [intOf]; omega
set_option maxRecDepth 100000 in
set_option maxHeartbeats 400000 in
theorem vrput_any (N : Nat) (w : World) (hN : N < 18446744073709551616) :
    Calls Tryz.prog 77 #[.int .u64 (N : Int)] w fun e w' => ∃ v, e = .returned v ∧ w'.ownsRow w.heap.size 5 1 v (vputL N).length (u8s (vputL N)) ∧ Below w.heap.size w w' := by
  obtain ⟨i0, hi, hz0, hz1, hz2⟩ := info_parts info_u8
  have hl10 := putL_len10 N hN
  go_enter Tryz.func77, Tryz.ntmps77
  go_wp2
  go_loopw [0, 3] (fun n v wr => ∃ (m : Nat) (pre : List Nat), n = .int .u64 (m : Int) ∧ m < 18446744073709551616 ∧ vputL N = pre ++ vputL m ∧ wr.ownsRow w.heap.size 5 1 v pre.length (u8s pre) ∧ Below w.heap.size w wr)
    (fun n _ _ => (intOf n).toNat)
  case atStart => exact ⟨N, [], rfl, hN, rfl, World.ownsRow_nil _ _ _ _, Below.refl _ _⟩
  case round =>
    obtain ⟨m, pre, rfl, hm, hp, hown, hnx⟩ := hrel
    have hsz := hnx.size
    have hpl : pre.length + (vputL m).length ≤ 10 := by rw [← List.length_append, ← hp]; exact hl10
    by_cases h : m < 128
    · rw [putL_small h] at hp hpl
      have Hp := Lib.hid hp
      simp at hpl
      clear hp
      go_wp2_with (at_builtin; refine wpList_append_own _ rfl _ _ 104 rfl w.heap.size 5 i0 (.int .u8 0) 1 1 Tryz.underlying104 hi hz0 hz1 hz2 rfl (by decide) _ _ _ rfl (hown.alloc _) ⟨wr.heap.size, 0, none⟩ 1 1 [.int .u8 (m : Int)] rfl rfl (cell_one_new _ _ _) (by simp [Value.oneCell']) (by simp only [maxLen]; omega) (by omega) (by simp; omega) ?_; intro v' w1 hown' hgrow _)
      have R := own_step hnx hown hsz hown' hgrow
      go_ret
      exact ⟨_, rfl, by rw [Hp.out]; exact R.1, R.2⟩
    · rw [putL_big h] at hp hpl
      have Hp := Lib.hid hp
      simp at hpl
      clear hp
      go_wp2_with (at_builtin; refine wpList_append_own _ rfl _ _ 104 rfl w.heap.size 5 i0 (.int .u8 0) 1 1 Tryz.underlying104 hi hz0 hz1 hz2 rfl (by decide) _ _ _ rfl (hown.alloc _) ⟨wr.heap.size, 0, none⟩ 1 1 [.int .u8 ((m % 128 + 128 : Nat) : Int)] rfl rfl (cell_one_new _ _ _) (by simp [Value.oneCell']) (by simp only [maxLen]; omega) (by omega) (by simp; omega) ?_; intro v' w1 hown' hgrow _)
      have R := own_step hnx hown hsz hown' hgrow
      refine ⟨⟨m / 128, pre ++ [m % 128 + 128], by go_num, by omega, by rw [Hp.out]; simp, R.1, R.2⟩, ?_⟩
      simp [intOf]; omega

end Go.Proofs.YtclbjbhpncpmbaaGreatDoor

/- The contracts of vari.Zig and vari.Zag, and of the document's own two: for every number of their kinds. No condition. -/
namespace Go.Proofs.YtclbjbhpncpmbaaGreatDoor
open Go.RowKit

set_option maxHeartbeats 400000 in
theorem zig_any (n : Int) (w : World) (h0 : -9223372036854775808 ≤ n) (h1 : n ≤ 9223372036854775807) :
    Calls Tryz.prog 166 #[.int .i64 n] w fun e w' => e = .returned (.int .u64 (zigV n)) ∧ w = w' := by
  by_cases h : 0 ≤ n
  · go_enter Tryz.func166, Tryz.ntmps166
    go_wp2
    go_ret
    exact ⟨ret_int (by rw [zigV, if_pos h]), rfl⟩
  · go_enter Tryz.func166, Tryz.ntmps166
    go_wp2
    go_ret
    exact ⟨ret_int (by rw [zigV, if_neg (by omega)]), rfl⟩
set_option maxHeartbeats 400000 in
theorem rzig_any (n : Int) (w : World) (h0 : -9223372036854775808 ≤ n) (h1 : n ≤ 9223372036854775807) :
    Calls Tryz.prog 151 #[.int .i64 n] w fun e w' => e = .returned (.int .u64 (zigV n)) ∧ w = w' := by
  by_cases h : 0 ≤ n
  · go_enter Tryz.func151, Tryz.ntmps151
    go_wp2
    go_ret
    exact ⟨ret_int (by rw [zigV, if_pos h]), rfl⟩
  · go_enter Tryz.func151, Tryz.ntmps151
    go_wp2
    go_ret
    exact ⟨ret_int (by rw [zigV, if_neg (by omega)]), rfl⟩
end Go.Proofs.YtclbjbhpncpmbaaGreatDoor
