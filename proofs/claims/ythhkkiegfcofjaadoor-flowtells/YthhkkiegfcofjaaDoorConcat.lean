/- The contracts of slices.Grow of nothing, and of slices.Concat of two slices of bytes: what stands behind each other, in memory of the call's own. Condition: together they have at least one byte and at most 2^47. -/
import Derived.Test.YthhkkiegfcofjaaDoorAppend
import Derived.Test.YthhkkiegfcofjaaDoorBlk
import Derived.Lib.AppendZeros
namespace Go.Proofs.YthhkkiegfcofjaaDoor
open Go.RowKit


set_option maxRecDepth 100000 in
set_option maxHeartbeats 1000000 in
theorem grow_nil (n : Nat) (w : World) (h0 : 0 < n) (hlen : n ≤ 140737488355328) :
    Calls Tryd.prog 53 #[.slice none 0 0, .int .i64 (n : Int)] w fun e w' => ∃ v, e = .returned v ∧ w'.ownsRow w.heap.size 5 1 v 0 [] ∧ Below w.heap.size w w' := by
  obtain ⟨i0, hi, hz0, hz1, hz2⟩ := info_parts info_u8
  have happ := Lib.run_append_nil_zeros (P := Tryd.prog) w 26 3 26 5 i0 (.int .u8 0) .i64 .i64 Tryd.underlying26 Tryd.underlying3 hi hz0 n h0 (by omega) (by omega) (by rw [hz2]; omega)
  have hown : ∀ cells, cells.size = grownCap w n 0 5 → (w.drew.alloc (.cells cells 5)).ownsRow w.heap.size 5 1 (.slice (some ⟨w.heap.size, 0, none⟩) 0 (grownCap w n 0 5)) 0 [] := fun cells hc =>
    World.ownsRow_made w.drew cells (grownCap w n 0 5) (Nat.le_refl _) (grownCap_le_maxLen w n 0 5 (by simp only [maxLen]; omega)) (by omega)
  have hown' := hown (Builtin.zeroCells (Value.int .u8 0).cells n ++ Builtin.zeroCells (Value.int .u8 0).cells (grownCap w n 0 5 - n)) (by have := grownCap_ge w n 0 5; simp [size_zeroCells, Value.cells]; omega)
  generalize hcap : grownCap w n 0 5 = cap at *
  have hcapge : n ≤ cap := by rw [← hcap]; exact grownCap_ge w _ 0 5
  generalize hZ : (Builtin.zeroCells (Value.int .u8 0).cells n ++ Builtin.zeroCells (Value.int .u8 0).cells (cap - n)) = Z at *
  clear hcap hZ hown
  have hn0 : decide ((n : Int) < 0) = false := by rw [decide_eq_false_iff_not]; omega
  have hn1 : decide ((0 : Int) < (n : Int)) = true := by rw [decide_eq_true_eq]; omega
  have Hown := Lib.hid hown'
  have Happ := Lib.hid happ
  clear hown' happ
  go_enter Tryd.func53, Tryd.ntmps53
  go_wp2_with (at_builtin; refine Lib.wpList_append_run _ rfl _ _ _ _ rfl _ _ rfl rfl _ _ Happ.out ?_)
  go_ret
  exact ⟨_, rfl, Hown.out, (Below.refl _ w).drew.alloc (Nat.le_refl _) _⟩

set_option maxRecDepth 100000 in
set_option maxHeartbeats 1000000 in
theorem concat2_any (g : Nat) (A B : Option Addr) (n c m d : Nat) (xs ys : List Nat) (w : World) (hn : xs.length = n) (hm : ys.length = m) (h0 : 0 < n + m) (hlen : n + m ≤ 140737488355328)
    (hx : Rd w A (u8s xs)) (hy : Rd w B (u8s ys)) (hg : g < w.heap.size) (hgx : w.cell? ⟨g, 0, none⟩ = some (.slice A n c)) (hgy : w.cell? ⟨g, 1, none⟩ = some (.slice B m d)) :
    Calls Tryd.prog 39 #[.slice (some ⟨g, 0, none⟩) 2 2] w fun e w' => ∃ v, e = .returned v ∧ w'.ownsRow w.heap.size 5 1 v (xs ++ ys).length (u8s (xs ++ ys)) ∧ Below w.heap.size w w' := by
  obtain ⟨i0, hi, hz0, hz1, hz2⟩ := info_parts info_u8
  go_enter Tryd.func39, Tryd.ntmps39
  go_wp2
  go_loop [3, 11] (fun s i => ∃ k sz : Nat, k ≤ 2 ∧ i = .int .i64 k ∧ s = .int .i64 sz ∧ sz = (if k = 0 then 0 else if k = 1 then n else n + m)) (fun _ i => 2 - (intOf i).toNat)
  case atStart => exact ⟨0, 0, by omega, rfl, rfl, rfl⟩
  case round =>
    obtain ⟨k, sz, hk, rfl, rfl, hsz⟩ := hrel
    have hk3 : k = 0 ∨ k = 1 ∨ k = 2 := by omega
    rcases hk3 with rfl | rfl | rfl
    · simp only [if_pos] at hsz
      subst hsz
      go_wp2
      refine ⟨⟨1, n, by omega, by go_num, by go_num, rfl⟩, ?_⟩
      simp [intOf]
    · simp only [Nat.one_ne_zero, if_false, if_true] at hsz
      subst hsz
      go_wp2
      refine ⟨⟨2, sz + m, by omega, by go_num, by go_num, rfl⟩, ?_⟩
      simp [intOf]
    · obtain rfl : sz = n + m := hsz
      have Hgr := Lib.hid (grow_nil (n + m) w h0 hlen)
      go_wp2_with fail
      refine Hgr.out.mono ?_
      rintro e w1 ⟨v, rfl, hown, hB⟩
      clear Hgr
      go_wp2
      go_loopw [6, 27] (fun v i wr => ∃ (k : Nat) (pre : List Nat), k ≤ 2 ∧ i = .int .i64 k ∧ pre = (if k = 0 then [] else if k = 1 then xs else xs ++ ys) ∧ wr.ownsRow w.heap.size 5 1 v pre.length (u8s pre) ∧ Below w.heap.size w wr) (fun _ i _ => 2 - (intOf i).toNat)
      case atStart => exact ⟨0, [], by omega, rfl, rfl, hown, hB⟩
      case round =>
        obtain ⟨k, pre, hk, rfl, hpre, hownr, hBr⟩ := hrel
        have hsz := hBr.size
        have hk3 : k = 0 ∨ k = 1 ∨ k = 2 := by omega
        rcases hk3 with rfl | rfl | rfl
        · obtain rfl : pre = [] := hpre
          have hxr := hx.below hBr
          have hgx' := (hBr.cell (p := ⟨g, 0, none⟩) hg).trans hgx
          go_wp2_with (at_builtin; refine wpList_app rfl (.tmp 31) (.tmp 32) 26 rfl w.heap.size 5 i0 (.int .u8 0) 1 Tryd.underlying26 hi hz0 hz1 hz2 rfl _ 0 [] rfl hownr A n c (u8s xs) rfl (by rw [u8s_length, hn]) hxr (u8s_one _) (by simp only [maxLen]; omega) (by omega) hsz ?_; intro v4 w4 hown4 hg4 _)
          refine ⟨⟨1, xs, by omega, by go_num, rfl, ?_, hBr.grown hg4 hsz (fun k hk => (hownr.lt k hk).1)⟩, ?_⟩
          · rw [hn]; simpa using hown4
          · simp [intOf]
        · obtain rfl : pre = xs := hpre
          have hyr := hy.below hBr
          have hgy' := (hBr.cell (p := ⟨g, 1, none⟩) hg).trans hgy
          rw [hn] at hownr
          go_wp2_with (at_builtin; refine wpList_app rfl (.tmp 31) (.tmp 32) 26 rfl w.heap.size 5 i0 (.int .u8 0) 1 Tryd.underlying26 hi hz0 hz1 hz2 rfl _ n (u8s pre) rfl hownr B m d (u8s ys) rfl (by rw [u8s_length, hm]) hyr (u8s_one _) (by simp only [maxLen]; omega) (by omega) hsz ?_; intro v4 w4 hown4 hg4 _)
          refine ⟨⟨2, pre ++ ys, by omega, by go_num, rfl, ?_, hBr.grown hg4 hsz (fun k hk => (hownr.lt k hk).1)⟩, ?_⟩
          · rw [List.length_append, hn, hm, u8s_append]; exact hown4
          · simp [intOf]
        · obtain rfl : pre = xs ++ ys := hpre
          go_wp2
          go_ret
          exact ⟨_, rfl, hownr, hBr⟩
end Go.Proofs.YthhkkiegfcofjaaDoor
