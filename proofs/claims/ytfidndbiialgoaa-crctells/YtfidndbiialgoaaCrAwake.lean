/- The contract of the laws' own 'awake' (the chapter's example): it returns true, and changes nothing that was there. -/
import Derived.Test.YtfidndbiialgoaaCrRef
namespace Go.Proofs.Ytfidndbiialgoaa
open Go.RowKit

theorem sum_19 : sumL [49, 50, 51, 52, 53, 54, 55, 56, 57] = 3421780262 := by decide +kernel
theorem with_19 : withL (sumL [49, 50, 51, 52]) [53, 54, 55, 56, 57] = 3421780262 := by decide +kernel
theorem good_19 : goodL [49, 50, 51, 52, 53, 54, 55, 56, 57] = false := by decide +kernel

set_option maxRecDepth 100000 in
set_option maxHeartbeats 1000000 in
theorem awake_any (w : World) : Calls Try.prog 10 #[] w fun e w' => e = .returned (.bool true) ∧ Below w.heap.size w w' := by
  have hr0 := lit_rd w [49, 50, 51, 52, 53, 54, 55, 56, 57]
  have hB0 : Below w.heap.size w (w.alloc (.cells (u8s [49, 50, 51, 52, 53, 54, 55, 56, 57]).toArray 5)) := (Below.refl _ w).alloc (Nat.le_refl _) _
  have hby : ∀ x ∈ [49, 50, 51, 52, 53, 54, 55, 56, 57], x < 256 := by decide
  have H0 := fun W h => seal_form (some ⟨w.heap.size, 0, none⟩) 9 9 [49, 50, 51, 52, 53, 54, 55, 56, 57] W rfl hby h (by omega)
  have H1 := fun W h => sum_any (some ⟨w.heap.size, 0, none⟩) 9 9 [49, 50, 51, 52, 53, 54, 55, 56, 57] W rfl hby h (by omega)
  have H2 := fun W h => good_any (some ⟨w.heap.size, 0, none⟩) 9 9 [49, 50, 51, 52, 53, 54, 55, 56, 57] W rfl (by omega) hby h (by omega)
  have H3 := fun W g c hc h => good_any (some ⟨g, 0, none⟩) c 13 (sealL [49, 50, 51, 52, 53, 54, 55, 56, 57]) W (by rw [sealL_length]; rfl) hc (sealL_byte hby) h (by omega)
  have H4 := fun W (h : Rd W (some ⟨w.heap.size, 0, none⟩) (u8s [49, 50, 51, 52, 53, 54, 55, 56, 57])) => sum_any (some ⟨w.heap.size, 0, none⟩) 9 4 [49, 50, 51, 52] W rfl (by decide) (h.take 4) (by omega)
  have H5 := fun W (h : Rd W (some ⟨w.heap.size, 0, none⟩) (u8s [49, 50, 51, 52, 53, 54, 55, 56, 57])) => with_len (sumL [49, 50, 51, 52]) (some ⟨w.heap.size, 4, none⟩) 5 5 [53, 54, 55, 56, 57] W rfl (sumL_lt (by decide)) (by decide) (by have := h.drop 4; rw [Nat.zero_add] at this; exact this) (by omega)
  rw [sum_19] at H1
  rw [good_19] at H2
  rw [good_seal] at H3
  rw [with_19] at H5
  generalize sumL [49, 50, 51, 52] = s4 at *
  generalize sealL [49, 50, 51, 52, 53, 54, 55, 56, 57] = sl at *
  generalize hx : u8s [49, 50, 51, 52, 53, 54, 55, 56, 57] = bx at *
  have he : bx.toArray = #[Value.int .u8 49, .int .u8 50, .int .u8 51, .int .u8 52, .int .u8 53, .int .u8 54, .int .u8 55, .int .u8 56, .int .u8 57] := by rw [← hx]; rfl
  rw [he] at hr0 hB0
  have K0 := Lib.hid H0
  have K1 := Lib.hid H1
  have K2 := Lib.hid H2
  have K3 := Lib.hid H3
  have K4 := Lib.hid H4
  have K5 := Lib.hid H5
  clear H0 H1 H2 H3 H4 H5 he hx hby
  go_enter Try.func10, Try.ntmps10
  go_wp2_with fail
  refine (K0.out _ hr0).mono ?_
  rintro e w1 ⟨g, cap, rfl, hcap, hg, hgl, hrs, hB1⟩
  have hr1 := hr0.below hB1
  have hB1' : Below w.heap.size w w1 := hB0.trans (hB1.mono hB0.size)
  clear hr0 hB0 hB1 hg hgl
  go_wp2_with fail
  refine sch_start [(0, true), (1, false), (2, true), (3, true), (4, true), (5, false), (6, true), (7, true), (8, true), (9, false), (10, true), (11, true), (12, true), (13, true), (14, true), (15, true), (16, true), (17, true), (18, true), (19, true), (21, true), (22, true), (20, false), (23, false), (24, true), (25, true), (26, true)]
    (fun _ => True) (by kernel_rfl) rfl (by kernel_rfl) (fun _ _ _ _ _ h => h) trivial (fun hH => ?_)
  repeat (first | (refine sch_yes (v := ?_) rfl rfl ?_ hH ?_; rotate_left; (focus ((intro W hW; go_simp) <;> with_reducible rfl)); simp only [Act.put, List.setIfInBounds_toArray, List.set_cons_zero, List.set_cons_succ]) | (refine sch_no rfl rfl hH ?_; simp only [Act.put, List.setIfInBounds_toArray, List.set_cons_zero, List.set_cons_succ]))
  refine sch_call rfl rfl (fun K hK => ?_)
  go_wp2_with (go_at_call 12; refine (K1.out _ ?_).mono ?_; exact hr1; rintro e w2 ⟨rfl, hB2⟩)
  refine hK.out _ _ trivial ?_
  clear hK
  have hr2 : Rd w2 (some ⟨w.heap.size, 0, none⟩) bx := Rd.below (w := w1.drew) hr1 hB2
  have hrs2 : Rd w2 (some ⟨g, 0, none⟩) (u8s sl) := Rd.below (w := w1.drew) hrs hB2
  have hB2' : Below w.heap.size w w2 := hB1'.drew.trans (hB2.mono hB1'.size)
  clear hr1 hrs hB1' hB2
  repeat (first | (refine sch_yes (v := ?_) rfl rfl ?_ hH ?_; rotate_left; (focus ((intro W hW; go_simp) <;> with_reducible rfl)); simp only [Act.put, List.setIfInBounds_toArray, List.set_cons_zero, List.set_cons_succ]) | (refine sch_no rfl rfl hH ?_; simp only [Act.put, List.setIfInBounds_toArray, List.set_cons_zero, List.set_cons_succ]))
  refine sch_call rfl rfl (fun K hK => ?_)
  go_wp2_with (go_at_call 18; refine (K3.out _ g cap hcap hrs2).mono ?_; rintro e w3 ⟨rfl, hB3⟩)
  refine hK.out _ _ trivial ?_
  clear hK
  have hr3 := hr2.below hB3
  have hB3' : Below w.heap.size w w3 := hB2'.trans (hB3.mono hB2'.size)
  clear hr2 hrs2 hB2' hB3
  repeat (first | (refine sch_yes (v := ?_) rfl rfl ?_ hH ?_; rotate_left; (focus ((intro W hW; go_simp) <;> with_reducible rfl)); simp only [Act.put, List.setIfInBounds_toArray, List.set_cons_zero, List.set_cons_succ]) | (refine sch_no rfl rfl hH ?_; simp only [Act.put, List.setIfInBounds_toArray, List.set_cons_zero, List.set_cons_succ]))
  refine sch_call rfl rfl (fun K hK => ?_)
  go_wp2_with (go_at_call 18; refine (K2.out _ hr3).mono ?_; rintro e w4 ⟨rfl, hB4⟩)
  refine hK.out _ _ trivial ?_
  clear hK
  have hr4 := hr3.below hB4
  have hB4' : Below w.heap.size w w4 := hB3'.trans (hB4.mono hB3'.size)
  clear hr3 hB3' hB4
  repeat (first | (refine sch_yes (v := ?_) rfl rfl ?_ hH ?_; rotate_left; (focus ((intro W hW; go_simp) <;> with_reducible rfl)); simp only [Act.put, List.setIfInBounds_toArray, List.set_cons_zero, List.set_cons_succ]) | (refine sch_no rfl rfl hH ?_; simp only [Act.put, List.setIfInBounds_toArray, List.set_cons_zero, List.set_cons_succ]))
  refine sch_call rfl rfl (fun K hK => ?_)
  go_wp2_with (go_at_call 12; refine (K4.out _ hr4).mono ?_; rintro e w5 ⟨rfl, hB5⟩)
  refine hK.out _ _ trivial ?_
  clear hK
  have hr5 := hr4.below hB5
  have hB5' : Below w.heap.size w w5 := hB4'.trans (hB5.mono hB4'.size)
  clear hr4 hB4' hB5
  repeat (first | (refine sch_yes (v := ?_) rfl rfl ?_ hH ?_; rotate_left; (focus ((intro W hW; go_simp) <;> with_reducible rfl)); simp only [Act.put, List.setIfInBounds_toArray, List.set_cons_zero, List.set_cons_succ]) | (refine sch_no rfl rfl hH ?_; simp only [Act.put, List.setIfInBounds_toArray, List.set_cons_zero, List.set_cons_succ]))
  refine sch_call rfl rfl (fun K hK => ?_)
  go_wp2_with (go_at_call 14; refine (K5.out _ hr5).mono ?_; rintro e w6 ⟨rfl, hB6⟩)
  refine hK.out _ _ trivial ?_
  clear hK
  have hB6' : Below w.heap.size w w6 := hB5'.trans (hB6.mono hB5'.size)
  clear hr5 hB5' hB6
  repeat (first | (refine sch_yes (v := ?_) rfl rfl ?_ hH ?_; rotate_left; (focus ((intro W hW; go_simp) <;> with_reducible rfl)); simp only [Act.put, List.setIfInBounds_toArray, List.set_cons_zero, List.set_cons_succ]) | (refine sch_no rfl rfl hH ?_; simp only [Act.put, List.setIfInBounds_toArray, List.set_cons_zero, List.set_cons_succ]))
  refine sch_done ?_
  go_wp2
  go_ret
  exact ⟨rfl, hB6'⟩
end Go.Proofs.Ytfidndbiialgoaa
