/- The contract of graph's Reach. No condition. -/
import Derived.Test.YteafbdebmhpffaaGrSweepAll
namespace Go.Proofs.Yteafbdebmhpffaa
open Go.RowKit

theorem sweepG_few (g : Gr) : (sweepG g).2.1.length ≤ 8 := by
  by_cases h : mayG g = true
  · rw [sweepG_yes h]
    exact Nat.le_trans (List.length_filter_le _ _) (mayG_parts h).2.1
  · rw [sweepG_no (by simpa using h)]; simp

theorem graph_obs (x y z : Value) (hx : (match x with | .slice _ _ _ => true | _ => false) = true) (hy : (match y with | .slice _ _ _ => true | _ => false) = true) (W : World) : (Instr.field 28 (.agg #[x, y, z]) 1).run Try.prog W = .ok y W := by
  cases x <;> cases y <;> first | (cases hx; done) | (cases hy; done) | kernel_rfl

set_option maxRecDepth 100000 in
set_option maxHeartbeats 2000000 in
theorem greach_any (A B C : Option Addr) (N c M d K e : Nat) (g : Gr) (w : World) (h : rGr (All w) w [.slice A N c, .slice B M d, .slice C K e] g) :
    Calls Try.prog 21 #[.agg #[.slice A N c, .slice B M d, .slice C K e]] w fun e w' => ∃ A1 c1, e = .returned (.slice A1 (reachG g).length c1) ∧ w'.ownsRow w.heap.size 3 1 (.slice A1 (reachG g).length c1) (reachG g).length (ints (reachG g)) ∧ (∀ n ∈ reachG g, (Lit.int .i64 n).wf = true) ∧ Below w.heap.size w w' := by
  obtain ⟨i0, hi, hz0, hz1, hz2⟩ := info_parts info_int
  have hB0 : Below w.heap.size w (w.alloc (.cells #[.slice A N c, .slice B M d, .slice C K e] 28)) := (Below.refl _ w).alloc (Nat.le_refl _) _
  have T1 := Lib.hid (gsweep_any A B C N c M d K e g _ (gr_below hB0 h))
  have HB0 := Lib.hid hB0
  have h8 := sweepG_few g
  have Hre : Hid (reachG g = (sweepG g).2.1.map (·.1)) := Lib.hid rfl
  clear h hB0
  generalize reachG g = R at *
  go_enter Try.func21, Try.ntmps21
  go_wp2_with fail
  refine T1.out.mono ?_
  rintro e w1 ⟨A1, c1, B1, d1, C1, e1, rfl, hrd, hB1⟩
  have H1 := Lib.hid (HB0.out.trans (hB1.mono HB0.out.size))
  have ho := (rGr_open hrd).2.1
  have hw1 := H1.out.size
  have Hwf : Hid (∀ n ∈ R, (Lit.int .i64 n).wf = true) := Lib.hid fun n hn => by
    rw [Hre.out, List.mem_map] at hn
    obtain ⟨o, ho1, rfl⟩ := hn
    obtain ⟨j, hj⟩ := List.getElem?_of_mem ho1
    obtain ⟨_, _, _, _, -, -, -, -, -, -, hb, -⟩ := ob_at ho hj
    exact WalkArith.wf_i64 hb
  clear hB1 HB0 T1 hrd
  generalize (sweepG g).1.length = l1 at *
  generalize (sweepG g).2.2.length = l3 at *
  generalize (sweepG g).2.1 = os at *
  obtain ⟨hn, hnc, hcm⟩ := slice_len ho
  generalize hos : os.length = n at *
  simp only [maxLen] at hcm
  have hfd := fun W => graph_obs (.slice A1 l1 c1) (.slice B1 n d1) (.slice C1 l3 e1) rfl rfl W
  go_wp2
  go_loopw [3, 10] (fun v iv W => ∃ i : Nat, i ≤ n ∧ iv = .int .i64 (i : Int) ∧ Hid (W.ownsRow w1.heap.size 3 1 v i (ints ((os.take i).map (·.1)))) ∧ Below w1.heap.size w1 W ∧ Below w.heap.size w W) (fun _ iv _ => n - (intOf iv).toNat)
  case atStart => exact ⟨0, by omega, rfl, Lib.hid (World.ownsRow_nil _ _ _ _), Below.refl _ _, H1.out⟩
  case round =>
    rename_i v iv wr
    obtain ⟨i, hi', rfl, hown, hB, hBw⟩ := hrel
    by_cases hin : i < n
    · obtain ⟨o, hoi⟩ : ∃ o, os[i]? = some o := ⟨_, List.getElem?_eq_getElem (by omega)⟩
      obtain ⟨b, off, A2, c2, rfl, hb, x0, x1, x2, -, -, -⟩ := ob_at (obs_below hB ho) hoi
      have hil : (i : Int) < (n : Int) := by omega
      have hi0 : (0 : Int) ≤ (i : Int) := by omega
      have htk : (os.take (i + 1)).map (·.1) = (os.take i).map (·.1) ++ [o.1] := by rw [take_at hoi]; simp
      have Htk := Lib.hid htk
      have Hrd := Lib.hid (lit_ints (wr.alloc (.cells #[.int .i64 o.1, .int .i64 o.2.1, .slice A2 o.2.2.length c2] 38)) [o.1])
      have hBs := hBw.size
      have hBs1 := hB.size
      have hlen : ((os.take i).map (·.1)).length = i := by rw [List.length_map, List.length_take]; omega
      have Hlen := Lib.hid hlen
      have HB := Lib.hid hB
      have HBw := Lib.hid hBw
      clear htk hoi hlen hB hBw
      generalize (os.take i).map (·.1) = xs at *
      generalize o.1 = ov at *
      generalize o.2.1 = o1 at *
      generalize o.2.2.length = o2 at *
      go_wp2_with (first
        | (at_builtin; refine wpList_app rfl (.tmp 14) (.tmp 17) 26 rfl w1.heap.size 3 i0 (.int .i64 0) 8 Try.underlying26 hi hz0 hz1 hz2 rfl _ i (ints xs) rfl ((hown.out.alloc _).alloc _) (some ⟨wr.heap.size + 1, 0, none⟩) 1 1 (ints [ov]) rfl rfl (by have := Hrd.out; rwa [World.size_alloc] at this) (ints_one _) (by simp only [maxLen]; omega) (by omega) (by simp; omega) ?_; intro v4 w4 hown4 hg4 _)
        | fail)
      go_roundw
      case rel =>
        refine ⟨i + 1, by omega, by go_num, Lib.hid (by rw [Htk.out, ints_append]; exact hown4), ?_, ?_⟩
        · exact ((HB.out.alloc HB.out.size _).alloc (by have := HB.out.size; simp; omega) _).grown hg4 (by have := HB.out.size; simp; omega) (fun k hk => (hown.out.lt k hk).1)
        · exact ((HBw.out.alloc hBs _).alloc (by simp; omega) _).grown hg4 (by simp; omega) (fun k hk => Nat.le_trans hw1 (hown.out.lt k hk).1)
      case measure => simp [intOf]; omega
    · obtain rfl : i = n := by omega
      rw [List.take_of_length_le (by omega)] at hown
      obtain ⟨A9, c9, rfl, _⟩ := own_slice hown.out
      have hRl : R.length = i := by rw [Hre.out, List.length_map]; omega
      go_wp2
      go_ret
      refine ⟨A9, c9, by rw [hRl]; rfl, ?_, Hwf.out, hBw⟩
      rw [hRl, Hre.out]
      exact own_mono hown.out hw1
end Go.Proofs.Yteafbdebmhpffaa
