/- The contracts of vari.Put, and of the document's own: for every number of 64 bits, the bytes 'putL', in memory of the call's own. -/
import Derived.Test.YtpllbjkjlaacjaaWords
import Derived.Test.YtpllbjkjlaacjaaVaPlain
namespace Go.Proofs.Ytpllbjkjlaacjaa
open Go.RowKit


/-- One append of one byte onto a row of the call's own: what it leaves. -/
theorem own_step {B : Nat} {w wr w1 : World} {v v' : Value} {pre : List Nat} {x : Nat} {o : Obj} (hnx : Below B w wr) (hown : wr.ownsRow B 5 1 v pre.length (u8s pre)) (hle : B ≤ wr.heap.size)
    (hown' : w1.ownsRow B 5 1 v' (pre.length + 1) (u8s pre ++ [.int .u8 (x : Int)])) (hg : (wr.alloc o).grownBy w1 v.ownBlock) :
    w1.ownsRow B 5 1 v' (pre ++ [x]).length (u8s (pre ++ [x])) ∧ Below B w w1 := by
  constructor
  · rw [u8s_append]; simpa [u8s] using hown'
  · exact (hnx.alloc hle o).grown hg (by simp; omega) (fun k hk => (hown.lt k hk).1)

set_option maxRecDepth 100000 in
set_option maxHeartbeats 400000 in
theorem vput_any (N : Nat) (w : World) (hN : N < 18446744073709551616) :
    Calls Try.prog 20 #[.int .u64 (N : Int)] w fun e w' => ∃ v, e = .returned v ∧ w'.ownsRow w.heap.size 5 1 v (vputL N).length (u8s (vputL N)) ∧ Below w.heap.size w w' := by
  obtain ⟨i0, hi, hz0, hz1, hz2⟩ := info_parts info_u8
  have hmk : ∀ w, (Instr.makeSlice 26 (.int .i64 0) (.int .i64 10)).run Try.prog w = .ok (.slice (some ⟨w.heap.size, 0, none⟩) 0 10) (w.alloc (.cells #[.int .u8 0, .int .u8 0, .int .u8 0, .int .u8 0, .int .u8 0, .int .u8 0, .int .u8 0, .int .u8 0, .int .u8 0, .int .u8 0] 5)) := fun _ => by kernel_rfl
  have hl10 := putL_len10 N hN
  go_enter Try.func20, Try.ntmps20
  go_wp2
  go_loopw [0, 3] (fun n v wr => ∃ (m : Nat) (pre : List Nat), n = .int .u64 (m : Int) ∧ m < 18446744073709551616 ∧ vputL N = pre ++ vputL m ∧ wr.ownsRow w.heap.size 5 1 v pre.length (u8s pre) ∧ Below w.heap.size w wr)
    (fun n _ _ => (intOf n).toNat)
  case atStart => exact ⟨N, [], rfl, hN, rfl, World.ownsRow_made _ _ 10 (Nat.le_refl _) (by simp [maxLen]) rfl, (Below.refl _ _).alloc (Nat.le_refl _) _⟩
  case round =>
    obtain ⟨m, pre, rfl, hm, hp, hown, hnx⟩ := hrel
    have hsz := hnx.size
    have hpl : pre.length + (vputL m).length ≤ 10 := by rw [← List.length_append, ← hp]; exact hl10
    by_cases h : m < 128
    · rw [putL_small h] at hp hpl
      have Hp := Lib.hid hp
      simp at hpl
      clear hp
      go_wp2_with (at_builtin; refine wpList_append_own _ rfl _ _ 26 rfl w.heap.size 5 i0 (.int .u8 0) 1 1 Try.underlying26 hi hz0 hz1 hz2 rfl (by decide) _ _ _ rfl (hown.alloc _) ⟨wr.heap.size, 0, none⟩ 1 1 [.int .u8 (m : Int)] rfl rfl (cell_one_new _ _ _) (by simp [Value.oneCell']) (by simp only [maxLen]; omega) (by omega) (by simp; omega) ?_; intro v' w1 hown' hgrow _)
      have R := own_step hnx hown hsz hown' hgrow
      go_ret
      exact ⟨_, rfl, by rw [Hp.out]; exact R.1, R.2⟩
    · rw [putL_big h] at hp hpl
      have Hp := Lib.hid hp
      simp at hpl
      clear hp
      go_wp2_with (at_builtin; refine wpList_append_own _ rfl _ _ 26 rfl w.heap.size 5 i0 (.int .u8 0) 1 1 Try.underlying26 hi hz0 hz1 hz2 rfl (by decide) _ _ _ rfl (hown.alloc _) ⟨wr.heap.size, 0, none⟩ 1 1 [.int .u8 ((m % 128 + 128 : Nat) : Int)] rfl rfl (cell_one_new _ _ _) (by simp [Value.oneCell']) (by simp only [maxLen]; omega) (by omega) (by simp; omega) ?_; intro v' w1 hown' hgrow _)
      have R := own_step hnx hown hsz hown' hgrow
      refine ⟨⟨m / 128, pre ++ [m % 128 + 128], by go_num, by omega, by rw [Hp.out]; simp, R.1, R.2⟩, ?_⟩
      simp [intOf]; omega
set_option maxRecDepth 100000 in
set_option maxHeartbeats 400000 in
theorem vrput_any (N : Nat) (w : World) (hN : N < 18446744073709551616) :
    Calls Try.prog 22 #[.int .u64 (N : Int)] w fun e w' => ∃ v, e = .returned v ∧ w'.ownsRow w.heap.size 5 1 v (vputL N).length (u8s (vputL N)) ∧ Below w.heap.size w w' := by
  obtain ⟨i0, hi, hz0, hz1, hz2⟩ := info_parts info_u8
  have hl10 := putL_len10 N hN
  go_enter Try.func22, Try.ntmps22
  go_wp2
  go_loopw [0, 3] (fun n v wr => ∃ (m : Nat) (pre : List Nat), n = .int .u64 (m : Int) ∧ m < 18446744073709551616 ∧ vputL N = pre ++ vputL m ∧ wr.ownsRow w.heap.size 5 1 v pre.length (u8s pre) ∧ Below w.heap.size w wr)
    (fun n _ _ => (intOf n).toNat)
  case atStart => exact ⟨N, [], rfl, hN, rfl, World.ownsRow_nil _ _ _ _, Below.refl _ _⟩
  case round =>
    obtain ⟨m, pre, rfl, hm, hp, hown, hnx⟩ := hrel
    have hsz := hnx.size
    have hpl : pre.length + (vputL m).length ≤ 10 := by rw [← List.length_append, ← hp]; exact hl10
    by_cases h : m < 128
    · rw [putL_small h] at hp hpl
      have Hp := Lib.hid hp
      simp at hpl
      clear hp
      go_wp2_with (at_builtin; refine wpList_append_own _ rfl _ _ 26 rfl w.heap.size 5 i0 (.int .u8 0) 1 1 Try.underlying26 hi hz0 hz1 hz2 rfl (by decide) _ _ _ rfl (hown.alloc _) ⟨wr.heap.size, 0, none⟩ 1 1 [.int .u8 (m : Int)] rfl rfl (cell_one_new _ _ _) (by simp [Value.oneCell']) (by simp only [maxLen]; omega) (by omega) (by simp; omega) ?_; intro v' w1 hown' hgrow _)
      have R := own_step hnx hown hsz hown' hgrow
      go_ret
      exact ⟨_, rfl, by rw [Hp.out]; exact R.1, R.2⟩
    · rw [putL_big h] at hp hpl
      have Hp := Lib.hid hp
      simp at hpl
      clear hp
      go_wp2_with (at_builtin; refine wpList_append_own _ rfl _ _ 26 rfl w.heap.size 5 i0 (.int .u8 0) 1 1 Try.underlying26 hi hz0 hz1 hz2 rfl (by decide) _ _ _ rfl (hown.alloc _) ⟨wr.heap.size, 0, none⟩ 1 1 [.int .u8 ((m % 128 + 128 : Nat) : Int)] rfl rfl (cell_one_new _ _ _) (by simp [Value.oneCell']) (by simp only [maxLen]; omega) (by omega) (by simp; omega) ?_; intro v' w1 hown' hgrow _)
      have R := own_step hnx hown hsz hown' hgrow
      refine ⟨⟨m / 128, pre ++ [m % 128 + 128], by go_num, by omega, by rw [Hp.out]; simp, R.1, R.2⟩, ?_⟩
      simp [intOf]; omega

end Go.Proofs.Ytpllbjkjlaacjaa
