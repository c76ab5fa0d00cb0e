/- CrcSeals' walk. -/
import Derived.Test.YtfidndbiialgoaaCrAwake
namespace Go.Proofs.Ytfidndbiialgoaa
open Go.RowKit

set_option maxRecDepth 100000 in
set_option maxHeartbeats 2000000 in
theorem crcSeals_walk (w : World) (A : Option Addr) (c : Nat) (xs : List Nat) (hl : xs.length ≤ c) (_hm : c ≤ maxLen) (hb : ∀ x ∈ xs, x < 256) (hr : Rd w A (u8s xs)) :
    Calls Try.prog 7 #[.slice A xs.length c] w fun e w' => e = .returned (.bool true) ∧ Below w.heap.size w w' := by
  by_cases hx : xs.length ≤ 300
  · have F1 := Lib.hid (fun (W : World) (h : Rd W A (u8s xs)) => seal_form A c xs.length xs W rfl hb h (by omega))
    have G1 := fun (W : World) (g cap : Nat) (hc : xs.length + 4 ≤ cap) (h : Rd W (some ⟨g, 0, none⟩) (u8s (sealL xs))) => good_any (some ⟨g, 0, none⟩) cap (xs.length + 4) (sealL xs) W (sealL_length _) hc (sealL_byte hb) h (by omega)
    rw [good_seal] at G1
    have G0 := Lib.hid (fun (W : World) (h : Rd W A (u8s xs)) => good_any A c xs.length xs W rfl hl hb h (by omega))
    have hcs : ∀ W g cap, Rd W (some ⟨g, 0, none⟩) (u8s (sealL xs)) → (convert 22 9 (.slice (some ⟨g, 0, none⟩) xs.length cap)).run Try.prog W = .ok (.string (strB xs)) W := fun W g cap h =>
      conv_str W _ _ _ Try.underlying22 Try.underlying5 Try.underlying9 _ xs xs.length cap rfl (by have := h.take xs.length; rw [u8s_take, sealL_take] at this; exact this)
    have hcb : ∀ W, Rd W A (u8s xs) → (convert 22 9 (.slice A xs.length c)).run Try.prog W = .ok (.string (strB xs)) W := fun W h =>
      conv_str W _ _ _ Try.underlying22 Try.underlying5 Try.underlying9 _ xs xs.length c rfl h
    have hback : goodL xs = true → 4 ≤ xs.length ∧ sealL (xs.take (xs.length - 4)) = xs := good_is_seal
    replace G1 := Lib.hid G1
    have Hcs := Lib.hid hcs
    have Hcb := Lib.hid hcb
    have Hback := Lib.hid hback
    clear hcs hcb hback
    generalize u8s (sealL xs) = sl at *
    generalize goodL xs = ok at *
    have hx' : decide ((300 : Int) < (xs.length : Int)) = false := by simp; omega
    have hw4 : IntKind.i64.wrap ((xs.length : Int) + 4) = (xs.length : Int) + 4 := IntWalk.i64_in _ (by omega)
    have hne : ((strB xs).toList != (strB xs).toList) = false := by simp
    have hnn : (((xs.length : Int) + 4) != ((xs.length : Int) + 4)) = false := by simp
    go_enter Try.func7, Try.ntmps7
    go_wp2_with fail
    refine (awake_any _).mono ?_
    rintro e w1 ⟨rfl, hB1⟩
    have hr1 := hr.below hB1
    go_wp2_with fail
    refine (F1.out _ hr1).mono ?_
    rintro e w2 ⟨g, cap, rfl, hcap, _, _, hrs, hB2⟩
    have hr2 := hr1.below hB2
    have hB2' : Below w.heap.size w w2 := hB1.trans (hB2.mono hB1.size)
    clear hr hr1 hB1 hB2
    have hcap2 : xs.length ≤ cap := by omega
    have hcap3 : (xs.length : Int) ≤ (cap : Int) := by omega
    go_wp2_with fail
    refine sch_start [(0, true), (1, true), (2, true), (3, true), (4, true), (5, true), (6, true), (7, true), (8, true), (9, true), (10, true), (11, true), (12, true), (13, true), (14, true), (15, true), (16, true), (17, true), (18, false), (19, true), (20, true)]
      (fun W => (convert 22 9 (.slice (some ⟨g, 0, none⟩) xs.length cap)).run Try.prog W = .ok (.string (strB xs)) W ∧ (convert 22 9 (.slice A xs.length c)).run Try.prog W = .ok (.string (strB xs)) W) (by kernel_rfl) rfl (by kernel_rfl) (fun _ _ _ _ _ h => h) ⟨Hcs.out w2.drew g cap hrs, Hcb.out w2.drew hr2⟩ (fun hH => ?_)
    repeat (first | (refine sch_yes (v := ?_) rfl rfl ?_ hH ?_; rotate_left; (focus ((rintro W ⟨hW1, hW2⟩; go_simp) <;> with_reducible rfl)); simp only [Act.put, List.setIfInBounds_toArray, List.set_cons_zero, List.set_cons_succ]) | (refine sch_no rfl rfl hH ?_; simp only [Act.put, List.setIfInBounds_toArray, List.set_cons_zero, List.set_cons_succ]))
    refine sch_call rfl rfl (fun K hK => ?_)
    go_wp2_with (go_at_call 18; refine (G1.out _ g cap hcap ?_).mono ?_; exact hrs; rintro e w3 ⟨rfl, hB3⟩)
    have hr3 : Rd w3 A (u8s xs) := Rd.below (w := w2.drew) hr2 hB3
    have hrs3 : Rd w3 (some ⟨g, 0, none⟩) sl := Rd.below (w := w2.drew) hrs hB3
    have hB3' : Below w.heap.size w w3 := hB2'.drew.trans (hB3.mono hB2'.size)
    have hH3 := And.intro (Hcs.out w3 g cap hrs3) (Hcb.out w3 hr3)
    refine hK.out _ _ hH3 ?_
    clear hK hH hB2' hB3 hr2 hrs
    have hH := hH3
    clear hH3
    repeat (first | (refine sch_yes (v := ?_) rfl rfl ?_ hH ?_; rotate_left; (focus ((rintro W ⟨hW1, hW2⟩; go_simp) <;> with_reducible rfl)); simp only [Act.put, List.setIfInBounds_toArray, List.set_cons_zero, List.set_cons_succ]) | (refine sch_no rfl rfl hH ?_; simp only [Act.put, List.setIfInBounds_toArray, List.set_cons_zero, List.set_cons_succ]))
    refine sch_done ?_
    clear hH
    cases ok with
    | false =>
      go_wp2_with fail
      refine sch_start [(0, true), (1, false), (2, true), (3, true), (4, true), (5, true), (6, true), (7, true), (8, true), (9, true), (10, true), (11, true), (12, true), (15, true), (16, true), (13, false), (14, true), (17, true), (18, true), (19, true), (20, true)]
        (fun _ => True) (by kernel_rfl) rfl (by kernel_rfl) (fun _ _ _ _ _ h => h) trivial (fun hH => ?_)
      repeat (first | (refine sch_yes (v := ?_) rfl rfl ?_ hH ?_; rotate_left; (focus ((intro W hW; go_simp) <;> with_reducible rfl)); simp only [Act.put, List.setIfInBounds_toArray, List.set_cons_zero, List.set_cons_succ]) | (refine sch_no rfl rfl hH ?_; simp only [Act.put, List.setIfInBounds_toArray, List.set_cons_zero, List.set_cons_succ]))
      refine sch_call rfl rfl (fun K hK => ?_)
      go_wp2_with (go_at_call 18; refine (G0.out _ ?_).mono ?_; exact hr3; rintro e w4 ⟨rfl, hB4⟩)
      refine hK.out _ _ trivial ?_
      clear hK
      repeat (first | (refine sch_yes (v := ?_) rfl rfl ?_ hH ?_; rotate_left; (focus ((intro W hW; go_simp) <;> with_reducible rfl)); simp only [Act.put, List.setIfInBounds_toArray, List.set_cons_zero, List.set_cons_succ]) | (refine sch_no rfl rfl hH ?_; simp only [Act.put, List.setIfInBounds_toArray, List.set_cons_zero, List.set_cons_succ]))
      refine sch_call_no rfl rfl hH ?_
      repeat (first | (refine sch_yes (v := ?_) rfl rfl ?_ hH ?_; rotate_left; (focus ((intro W hW; go_simp) <;> with_reducible rfl)); simp only [Act.put, List.setIfInBounds_toArray, List.set_cons_zero, List.set_cons_succ]) | (refine sch_no rfl rfl hH ?_; simp only [Act.put, List.setIfInBounds_toArray, List.set_cons_zero, List.set_cons_succ]))
      refine sch_done ?_
      go_wp2
      go_ret
      exact ⟨rfl, hB3'.drew.trans (hB4.mono hB3'.size)⟩
    | true =>
      obtain ⟨h4, hse⟩ := Hback.out rfl
      obtain ⟨k, hk⟩ : ∃ k, xs.length = k + 4 := ⟨xs.length - 4, by omega⟩
      rw [show xs.length - 4 = k by omega] at hse
      obtain ⟨b, off, rfl, hblt, _⟩ := hr3.at (k := 0) (by rw [u8s_length]; omega)
      have F2 := fun (W : World) (h : Rd W (some ⟨b, off, none⟩) (u8s xs)) => seal_form (some ⟨b, off, none⟩) c k (xs.take k) W (by rw [List.length_take]; omega) (fun x hx => hb x (List.mem_of_mem_take hx)) (by rw [← u8s_take]; exact h.take k) (by omega)
      rw [hse] at F2
      replace F2 := Lib.hid F2
      have Hk := Lib.hid hk
      have hd4 : decide ((4 : Int) ≤ (xs.length : Int)) = true := by rw [decide_eq_true_eq]; omega
      have hk1 : IntKind.i64.wrap ((xs.length : Int) - 4) = (k : Int) := by rw [IntWalk.i64_in _ (by omega)]; omega
      have hk2 : (xs.length : Int) - 4 = (k : Int) := by omega
      have hk3 : k ≤ c := by omega
      have hk5 : IntKind.i64.wrap (k : Int) = (k : Int) := IntWalk.i64_in _ (by omega)
      have hk6 : (0 : Int) ≤ (k : Int) := by omega
      have hk4 : (k : Int) ≤ (c : Int) := by omega
      clear hse hk h4
      go_wp2_with fail
      refine sch_start [(0, true), (1, false), (2, true), (3, true), (4, true), (5, true), (6, true), (7, true), (8, true), (9, true), (10, true), (11, true), (12, true), (15, true), (16, true), (13, false), (14, true), (17, true), (18, true), (19, true), (20, true)]
        (fun W => (convert 22 9 (.slice (some ⟨b, off, none⟩) xs.length c)).run Try.prog W = .ok (.string (strB xs)) W) (by kernel_rfl) rfl (by kernel_rfl) (fun _ _ _ _ _ h => h) (Hcb.out w3.drew hr3) (fun hH => ?_)
      repeat (first | (refine sch_yes (v := ?_) rfl rfl ?_ hH ?_; rotate_left; (focus ((intro W hW; go_simp) <;> with_reducible rfl)); simp only [Act.put, List.setIfInBounds_toArray, List.set_cons_zero, List.set_cons_succ]) | (refine sch_no rfl rfl hH ?_; simp only [Act.put, List.setIfInBounds_toArray, List.set_cons_zero, List.set_cons_succ]))
      refine sch_call rfl rfl (fun K hK => ?_)
      go_wp2_with (go_at_call 18; refine (G0.out _ ?_).mono ?_; exact hr3; rintro e w4 ⟨rfl, hB4⟩)
      have hr4 : Rd w4 (some ⟨b, off, none⟩) (u8s xs) := Rd.below (w := w3.drew) hr3 hB4
      have hB4' : Below w.heap.size w w4 := hB3'.drew.trans (hB4.mono hB3'.size)
      have hH4 := Hcb.out w4 hr4
      refine hK.out _ _ hH4 ?_
      clear hK hH hB3' hB4 hr3
      have hH := hH4
      clear hH4
      repeat (first | (refine sch_yes (v := ?_) rfl rfl ?_ hH ?_; rotate_left; (focus ((intro W hW; go_simp) <;> with_reducible rfl)); simp only [Act.put, List.setIfInBounds_toArray, List.set_cons_zero, List.set_cons_succ]) | (refine sch_no rfl rfl hH ?_; simp only [Act.put, List.setIfInBounds_toArray, List.set_cons_zero, List.set_cons_succ]))
      refine sch_call rfl rfl (fun K hK => ?_)
      go_wp2_with (go_at_call 16; refine (F2.out _ hr4).mono ?_; rintro e w5 ⟨g5, cap5, rfl, _, _, _, hrs5, hB5⟩)
      have hH5 := Hcb.out w5 (hr4.below hB5)
      refine hK.out _ _ hH5 ?_
      clear hK hH
      have hcv6 := conv_str (P := Try.prog) w5 _ _ _ Try.underlying22 Try.underlying5 Try.underlying9 _ xs (k + 4) cap5 Hk.out hrs5
      refine sch_more (S' := fun W => W = w5) (fun W hW => by rw [hW]; exact hH5) ?_
      have hH : w5 = w5 := rfl
      repeat (first | (refine sch_yes (v := ?_) rfl rfl ?_ hH ?_; rotate_left; (focus ((intro W hW; go_simp) <;> with_reducible rfl)); simp only [Act.put, List.setIfInBounds_toArray, List.set_cons_zero, List.set_cons_succ]) | (refine sch_no rfl rfl hH ?_; simp only [Act.put, List.setIfInBounds_toArray, List.set_cons_zero, List.set_cons_succ]))
      refine sch_done ?_
      go_wp2
      go_ret
      exact ⟨rfl, hB4'.trans (hB5.mono hB4'.size)⟩
  · go_enter Try.func7, Try.ntmps7
    go_wp2_with fail
    refine (awake_any _).mono ?_
    rintro e w1 ⟨rfl, hb1⟩
    go_wp2
    go_ret
    exact ⟨rfl, hb1⟩
end Go.Proofs.Ytfidndbiialgoaa
