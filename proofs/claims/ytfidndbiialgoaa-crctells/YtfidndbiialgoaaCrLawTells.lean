/- CrcTells' walk. -/
import Derived.Test.YtfidndbiialgoaaCrAwake
namespace Go.Proofs.Ytfidndbiialgoaa
open Go.RowKit

set_option maxRecDepth 100000 in
set_option maxHeartbeats 2000000 in
theorem crcTells_walk (w : World) (A : Option Addr) (c : Nat) (xs : List Nat) (hl : xs.length ≤ c) (_hm : c ≤ maxLen) (hb : ∀ x ∈ xs, x < 256) (hr : Rd w A (u8s xs)) (s : Nat) (hs : s < 4294967296) :
    Calls Try.prog 3 #[.slice A xs.length c, .int .u32 (s : Int)] w fun e w' => e = .returned (.bool true) ∧ Below w.heap.size w w' := by
  by_cases hx : xs.length ≤ 300
  · have R1 := Lib.hid (fun (W : World) (h : Rd W A (u8s xs)) => rgood_any A c xs.length xs W rfl hl hb h (by omega))
    have P1 := Lib.hid (fun (W : World) (h : Rd W A (u8s xs)) => sum_any A c xs.length xs W rfl hb h (by omega))
    have R2 := Lib.hid (fun (W : World) (h : Rd W A (u8s xs)) => rsum_any A c xs.length xs W rfl hb h (by omega))
    have P2 := Lib.hid (fun (W : World) (h : Rd W A (u8s xs)) => with_any s A c xs W hs hb h (by omega))
    have R3 := Lib.hid (fun (W : World) (h : Rd W A (u8s xs)) => rwith_any s A c xs W hs hb h (by omega))
    have P3 := Lib.hid (fun (W : World) (h : Rd W A (u8s xs)) => seal_form A c xs.length xs W rfl hb h (by omega))
    have R4 := Lib.hid (fun (W : World) (h : Rd W A (u8s xs)) => rseal_form A c xs.length xs W rfl hb h (by omega))
    have P4 := Lib.hid (fun (W : World) (h : Rd W A (u8s xs)) => good_any A c xs.length xs W rfl hl hb h (by omega))
    have hcv : ∀ W g cap, Rd W (some ⟨g, 0, none⟩) (u8s (sealL xs)) → (convert 22 9 (.slice (some ⟨g, 0, none⟩) (xs.length + 4) cap)).run Try.prog W = .ok (.string (strB (sealL xs))) W := fun W g cap h =>
      conv_str W _ _ _ Try.underlying22 Try.underlying5 Try.underlying9 _ (sealL xs) (xs.length + 4) cap (sealL_length _) h
    have Hcv := Lib.hid hcv
    clear hcv
    generalize sumL xs = m1 at *
    generalize withL s xs = m2 at *
    generalize sealL xs = sl at *
    generalize goodL xs = ok at *
    have hx' : decide ((300 : Int) < (xs.length : Int)) = false := by simp; omega
    have hoo : (ok == ok) = true := by simp
    go_enter Try.func3, Try.ntmps3
    go_wp2_with fail
    refine (awake_any _).mono ?_
    rintro e w1 ⟨rfl, hB1⟩
    have hr1 := hr.below hB1
    go_wp2_with fail
    refine (R1.out _ hr1).mono ?_
    rintro e w2 ⟨rfl, hB2⟩
    have hr2 := hr1.below hB2
    have hB2' : Below w.heap.size w w2 := hB1.trans (hB2.mono hB1.size)
    clear hr hr1 hB1 hB2
    go_wp2_with fail
    refine sch_start [(0, true), (2, true), (1, false), (3, false), (4, true), (5, true), (6, true), (7, true), (9, true), (10, true), (8, false), (11, false), (12, true), (13, true), (14, true), (15, true), (18, true), (16, false), (17, true), (19, false), (20, true), (21, true), (22, true), (23, true), (24, true), (26, true), (25, false), (27, true), (28, true), (29, true)]
      (fun _ => True) (by kernel_rfl) rfl (by kernel_rfl) (fun _ _ _ _ _ h => h) trivial (fun hH => ?_)
    repeat (first | (refine sch_yes (v := ?_) rfl rfl ?_ hH ?_; rotate_left; (focus ((intro W hW; go_simp) <;> with_reducible rfl)); simp only [Act.put, List.setIfInBounds_toArray, List.set_cons_zero, List.set_cons_succ]) | (refine sch_no rfl rfl hH ?_; simp only [Act.put, List.setIfInBounds_toArray, List.set_cons_zero, List.set_cons_succ]))
    refine sch_call rfl rfl (fun K hK => ?_)
    go_wp2_with (go_at_call 12; refine (P1.out _ ?_).mono ?_; exact hr2; rintro e w3 ⟨rfl, hB3⟩)
    refine hK.out _ _ trivial ?_
    have hr3 : Rd w3 A (u8s xs) := Rd.below (w := w2.drew) hr2 hB3
    have hB3' : Below w.heap.size w w3 := hB2'.drew.trans (hB3.mono hB2'.size)
    clear hK hr2 hB2' hB3
    repeat (first | (refine sch_yes (v := ?_) rfl rfl ?_ hH ?_; rotate_left; (focus ((intro W hW; go_simp) <;> with_reducible rfl)); simp only [Act.put, List.setIfInBounds_toArray, List.set_cons_zero, List.set_cons_succ]) | (refine sch_no rfl rfl hH ?_; simp only [Act.put, List.setIfInBounds_toArray, List.set_cons_zero, List.set_cons_succ]))
    refine sch_call rfl rfl (fun K hK => ?_)
    go_wp2_with (go_at_call 13; refine (R2.out _ hr3).mono ?_; rintro e w' ⟨rfl, rfl⟩)
    refine hK.out _ _ trivial ?_
    clear hK
    repeat (first | (refine sch_yes (v := ?_) rfl rfl ?_ hH ?_; rotate_left; (focus ((intro W hW; go_simp) <;> with_reducible rfl)); simp only [Act.put, List.setIfInBounds_toArray, List.set_cons_zero, List.set_cons_succ]) | (refine sch_no rfl rfl hH ?_; simp only [Act.put, List.setIfInBounds_toArray, List.set_cons_zero, List.set_cons_succ]))
    refine sch_call rfl rfl (fun K hK => ?_)
    go_wp2_with (go_at_call 14; refine (P2.out _ hr3).mono ?_; rintro e w4 ⟨rfl, hB4⟩)
    refine hK.out _ _ trivial ?_
    have hr4 := hr3.below hB4
    have hB4' : Below w.heap.size w w4 := hB3'.trans (hB4.mono hB3'.size)
    clear hK hr3 hB3' hB4
    repeat (first | (refine sch_yes (v := ?_) rfl rfl ?_ hH ?_; rotate_left; (focus ((intro W hW; go_simp) <;> with_reducible rfl)); simp only [Act.put, List.setIfInBounds_toArray, List.set_cons_zero, List.set_cons_succ]) | (refine sch_no rfl rfl hH ?_; simp only [Act.put, List.setIfInBounds_toArray, List.set_cons_zero, List.set_cons_succ]))
    refine sch_call rfl rfl (fun K hK => ?_)
    go_wp2_with (go_at_call 15; refine (R3.out _ hr4).mono ?_; rintro e w' ⟨rfl, rfl⟩)
    refine hK.out _ _ trivial ?_
    clear hK
    repeat (first | (refine sch_yes (v := ?_) rfl rfl ?_ hH ?_; rotate_left; (focus ((intro W hW; go_simp) <;> with_reducible rfl)); simp only [Act.put, List.setIfInBounds_toArray, List.set_cons_zero, List.set_cons_succ]) | (refine sch_no rfl rfl hH ?_; simp only [Act.put, List.setIfInBounds_toArray, List.set_cons_zero, List.set_cons_succ]))
    refine sch_call rfl rfl (fun K hK => ?_)
    go_wp2_with (go_at_call 16; refine (P3.out _ hr4).mono ?_; rintro e w5 ⟨g5, cap5, rfl, _, _, _, hrs5, hB5⟩)
    refine hK.out _ _ trivial ?_
    have hr5 := hr4.below hB5
    have hB5' : Below w.heap.size w w5 := hB4'.trans (hB5.mono hB4'.size)
    clear hK hr4 hB4' hB5
    refine sch_more (S' := fun W => (convert 22 9 (.slice (some ⟨g5, 0, none⟩) (xs.length + 4) cap5)).run Try.prog W = .ok (.string (strB sl)) W) (fun _ _ => trivial) ?_
    clear hH
    have hH := Hcv.out w5 g5 cap5 hrs5
    repeat (first | (refine sch_yes (v := ?_) rfl rfl ?_ hH ?_; rotate_left; (focus ((intro W hW; go_simp) <;> with_reducible rfl)); simp only [Act.put, List.setIfInBounds_toArray, List.set_cons_zero, List.set_cons_succ]) | (refine sch_no rfl rfl hH ?_; simp only [Act.put, List.setIfInBounds_toArray, List.set_cons_zero, List.set_cons_succ]))
    refine sch_call rfl rfl (fun K hK => ?_)
    go_wp2_with (go_at_call 17; refine (R4.out _ hr5).mono ?_; rintro e w6 ⟨g6, cap6, rfl, hrs6, hB6⟩)
    have hr6 := hr5.below hB6
    have hrs56 := hrs5.below hB6
    have hB6' : Below w.heap.size w w6 := hB5'.trans (hB6.mono hB5'.size)
    clear hH
    have h61 := Hcv.out w6 g5 cap5 hrs56
    have h62 := Hcv.out w6 g6 cap6 hrs6
    refine hK.out _ _ h61 ?_
    clear hK hr5 hB5' hB6 hrs5
    refine sch_more (S' := fun W => (convert 22 9 (.slice (some ⟨g5, 0, none⟩) (xs.length + 4) cap5)).run Try.prog W = .ok (.string (strB sl)) W ∧ (convert 22 9 (.slice (some ⟨g6, 0, none⟩) (xs.length + 4) cap6)).run Try.prog W = .ok (.string (strB sl)) W) (fun _ h => h.1) ?_
    have hH := And.intro h61 h62
    clear h61 h62
    repeat (first | (refine sch_yes (v := ?_) rfl rfl ?_ hH ?_; rotate_left; (focus ((rintro W ⟨hW1, hW2⟩; go_simp) <;> with_reducible rfl)); simp only [Act.put, List.setIfInBounds_toArray, List.set_cons_zero, List.set_cons_succ]) | (refine sch_no rfl rfl hH ?_; simp only [Act.put, List.setIfInBounds_toArray, List.set_cons_zero, List.set_cons_succ]))
    refine sch_call rfl rfl (fun K hK => ?_)
    go_wp2_with (go_at_call 18; refine (P4.out _ hr6).mono ?_; rintro e w7 ⟨rfl, hB7⟩)
    have hH7 := And.intro (Hcv.out w7 g5 cap5 (hrs56.below hB7)) (Hcv.out w7 g6 cap6 (hrs6.below hB7))
    refine hK.out _ _ hH7 ?_
    have hB7' : Below w.heap.size w w7 := hB6'.trans (hB7.mono hB6'.size)
    clear hK hH hB6' hB7 hr6
    have hH := hH7
    clear hH7
    repeat (first | (refine sch_yes (v := ?_) rfl rfl ?_ hH ?_; rotate_left; (focus ((rintro W ⟨hW1, hW2⟩; go_simp) <;> with_reducible rfl)); simp only [Act.put, List.setIfInBounds_toArray, List.set_cons_zero, List.set_cons_succ]) | (refine sch_no rfl rfl hH ?_; simp only [Act.put, List.setIfInBounds_toArray, List.set_cons_zero, List.set_cons_succ]))
    refine sch_done ?_
    go_wp2
    go_ret
    exact ⟨rfl, hB7'⟩
  · go_enter Try.func3, Try.ntmps3
    go_wp2_with fail
    refine (awake_any _).mono ?_
    rintro e w1 ⟨rfl, hb1⟩
    go_wp2
    go_ret
    exact ⟨rfl, hb1⟩
end Go.Proofs.Ytfidndbiialgoaa
