/- VariTells' walk. -/
import Derived.Test.YtcjdfpkjlhpgnaaVaRefAll
namespace Go.Proofs.Ytcjdfpkjlhpgnaa
open Go.RowKit

theorem rall_form (A : Option Addr) (c : Nat) (bs : List Nat) (w : World) (hc : bs.length ≤ c) (hb : ∀ x ∈ bs, x < 256) (hr : Rd w A (u8s bs)) (hlen : bs.length ≤ 1048576) :
    Calls Try.prog 14 #[.slice A bs.length c] w fun e w' => ∃ A' c', e = .returned (.tuple #[.slice A' ((allL bs).getD []).length c', .bool (allL bs).isSome]) ∧ Rd w' A' (u64s ((allL bs).getD [])) ∧ Below w.heap.size w w' := by
  refine (rall_any A c bs w hc hb hr hlen).mono fun e w' ⟨v, he, hown, hbe⟩ => ?_
  obtain ⟨A', c', rfl, _, h, _⟩ := own_slice hown
  exact ⟨A', c', he, h, hbe⟩
theorem allL_len (bs : List Nat) : ((allL bs).getD []).length ≤ bs.length := by
  have h1 := numL_len bs.length bs (Nat.le_refl _)
  have h2 := numL_all bs.length bs (Nat.le_refl _)
  by_cases hbad : ∃ p ∈ numL bs, p.2 = 0
  · rw [h2.2 hbad]; simp
  · rw [h2.1 (fun p hp h => hbad ⟨p, hp, h⟩)]; simpa using h1

set_option maxRecDepth 100000 in
set_option maxHeartbeats 2000000 in
theorem variTells_walk (w : World) (n : Nat) (hn : n < 18446744073709551616) (i : Int) (i0 : -9223372036854775808 ≤ i) (i1 : i ≤ 9223372036854775807) (A : Option Addr) (c : Nat) (bs : List Nat) (hl : bs.length ≤ c) (_hm : c ≤ maxLen) (hb : ∀ x ∈ bs, x < 256) (hr : Rd w A (u8s bs)) :
    Calls Try.prog 3 #[.int .u64 (n : Int), .int .i64 i, .slice A bs.length c] w fun e w' => e = .returned (.bool true) ∧ Below w.heap.size w w' := by
  by_cases h300 : bs.length ≤ 300
  · have h300' : decide ((300 : Int) < (bs.length : Int)) = false := by simp; omega
    have HG := Lib.hid (fun w h => get_len A c bs.length bs w rfl hb h (by omega))
    have HRG := Lib.hid (fun w h => rget_any A c bs w hl hb h (by omega))
    have HA := Lib.hid (fun w h => all_form A c bs.length bs w rfl hl hb (by omega) h)
    have HRA := Lib.hid (fun w h => rall_form A c bs w hl hb h (by omega))
    have hls := allL_len bs
    generalize getL bs = yk at *
    obtain ⟨y, k⟩ := yk
    generalize (allL bs).getD [] = ls at *
    generalize (allL bs).isSome = ok at *
    dsimp only at HG HRG
    have hpn := putL_pos n
    go_enter Try.func3, Try.ntmps3
    go_wp2_with fail
    refine (awake_any _).mono ?_
    rintro e w1 ⟨rfl, hb1⟩
    have hr1 := hr.below hb1
    go_wp2_with fail
    refine (HG.out _ hr1).mono ?_
    rintro e w2 ⟨rfl, rfl⟩
    go_wp2_with fail
    refine (HRG.out _ hr1).mono ?_
    rintro e w2 ⟨rfl, hb2⟩
    have hr2 := hr1.below hb2
    go_wp2_with fail
    refine (HA.out _ hr2).mono ?_
    rintro e w3 ⟨A3, c3, rfl, _, hls3, hb3⟩
    have hr3 := hr2.below hb3
    go_wp2_with fail
    refine (HRA.out _ hr3).mono ?_
    rintro e w4 ⟨A4, c4, rfl, hls4, hb4⟩
    have hls34 := hls3.below hb4
    have hB4 : Below w.heap.size w w4 := ((hb1.trans (hb2.mono hb1.size)).trans (hb3.mono (Nat.le_trans hb1.size hb2.size))).trans (hb4.mono (Nat.le_trans hb1.size (Nat.le_trans hb2.size hb3.size)))
    clear hr hr1 hr2 hr3 hb1 hb2 hb3 hb4 hls3
    go_wp2_with fail
    refine (same_yes A3 A4 c3 c4 ls.length ls w4 rfl (by omega) hls34 hls4).mono ?_
    rintro e w5 ⟨rfl, q, rfl⟩
    clear hls34 hls4
    have hB5 : Below w.heap.size w (w4.drewN q) := below_drewN hB4 q
    generalize w4.drewN q = w5 at *
    have hoo : (ok == ok) = true := by simp
    go_wp2_with fail
    refine sch_start [(0, true), (3, true), (1, false), (2, true), (4, false), (5, true), (6, true), (7, true), (8, true), (9, true), (10, true), (11, true), (12, true), (13, true), (14, true), (15, true), (16, true), (17, true), (18, true), (19, true), (20, true), (21, true), (22, true), (23, true), (24, true), (25, true), (26, true), (28, true), (27, false), (29, false), (30, true), (31, true), (32, true), (33, true), (35, true), (34, false), (36, false), (37, true), (38, true), (39, true)]
      (fun _ => True) (by kernel_rfl) rfl (by kernel_rfl) (fun _ _ _ _ _ h => h) trivial (fun hH => ?_)
    repeat (first
      | (refine sch_yes (v := ?_) rfl rfl ?_ hH ?_; rotate_left; (focus ((intro W hW; go_simp) <;> with_reducible rfl)); simp only [Act.put, List.setIfInBounds_toArray, List.set_cons_zero, List.set_cons_succ])
      | (refine sch_no rfl rfl hH ?_; simp only [Act.put, List.setIfInBounds_toArray, List.set_cons_zero, List.set_cons_succ]))
    refine sch_call rfl rfl (fun K hK => ?_)
    go_wp2_with (go_at_call 16; refine (put_form n _ hn).mono ?_; rintro e w6 ⟨g6, cap6, rfl, _, _, _, hrd6, hB6⟩)
    refine hK.out _ _ trivial ?_
    clear hK
    have hcv : ∀ W, Rd W (some ⟨g6, 0, none⟩) (u8s (putL n)) → (convert 23 9 (.slice (some ⟨g6, 0, none⟩) (putL n).length cap6)).run Try.prog W = .ok (.string (strB (putL n))) W := fun W hW =>
      conv_str W _ _ _ Try.underlying23 Try.underlying5 Try.underlying9 _ (putL n) _ cap6 rfl hW
    refine sch_more (S' := fun W => (convert 23 9 (.slice (some ⟨g6, 0, none⟩) (putL n).length cap6)).run Try.prog W = .ok (.string (strB (putL n))) W) (fun _ _ => trivial) ?_
    have hH := hcv w6 hrd6
    have Hcv := Lib.hid hcv
    clear hcv
    repeat (first
      | (refine sch_yes (v := ?_) rfl rfl ?_ hH ?_; rotate_left; (focus ((intro W hW; go_simp) <;> with_reducible rfl)); simp only [Act.put, List.setIfInBounds_toArray, List.set_cons_zero, List.set_cons_succ])
      | (refine sch_no rfl rfl hH ?_; simp only [Act.put, List.setIfInBounds_toArray, List.set_cons_zero, List.set_cons_succ]))
    refine sch_call rfl rfl (fun K hK => ?_)
    go_wp2_with (go_at_call 17; refine (rput_form n _ hn).mono ?_; rintro e w8 ⟨g8, cap8, rfl, hrd8, hB8⟩)
    have hH8 := Hcv.out w8 (hrd6.below hB8)
    refine hK.out _ _ hH8 ?_
    clear hK
    refine sch_more (S' := fun W => W = w8) (fun W hW => by rw [hW]; exact hH8) ?_
    have hcv8 := conv_str (P := Try.prog) w8 _ _ _ Try.underlying23 Try.underlying5 Try.underlying9 _ (putL n) _ cap8 rfl hrd8
    have hB9 : Below w.heap.size w w8 := (hB5.drew.trans (hB6.mono hB5.size)).trans (hB8.mono (Nat.le_trans hB5.size hB6.size))
    clear hB6 hB8 hrd6 hrd8 hH hH8
    have hH : w8 = w8 := rfl
    repeat (first
      | (refine sch_yes (v := ?_) rfl rfl ?_ hH ?_; rotate_left; (focus ((intro W hW; go_simp) <;> with_reducible rfl)); simp only [Act.put, List.setIfInBounds_toArray, List.set_cons_zero, List.set_cons_succ])
      | (refine sch_no rfl rfl hH ?_; simp only [Act.put, List.setIfInBounds_toArray, List.set_cons_zero, List.set_cons_succ]))
    refine sch_call rfl rfl (fun K hK => ?_)
    go_wp2_with (go_at_call 18; refine (zig_any i _ i0 i1).mono ?_; rintro e w' ⟨rfl, rfl⟩)
    refine hK.out _ _ rfl ?_
    clear hK hH
    have hH : w8 = w8 := rfl
    repeat (first
      | (refine sch_yes (v := ?_) rfl rfl ?_ hH ?_; rotate_left; (focus ((intro W hW; go_simp) <;> with_reducible rfl)); simp only [Act.put, List.setIfInBounds_toArray, List.set_cons_zero, List.set_cons_succ])
      | (refine sch_no rfl rfl hH ?_; simp only [Act.put, List.setIfInBounds_toArray, List.set_cons_zero, List.set_cons_succ]))
    refine sch_call rfl rfl (fun K hK => ?_)
    go_wp2_with (go_at_call 19; refine (rzig_any i _ i0 i1).mono ?_; rintro e w' ⟨rfl, rfl⟩)
    refine hK.out _ _ rfl ?_
    clear hK hH
    have hH : w8 = w8 := rfl
    repeat (first
      | (refine sch_yes (v := ?_) rfl rfl ?_ hH ?_; rotate_left; (focus ((intro W hW; go_simp) <;> with_reducible rfl)); simp only [Act.put, List.setIfInBounds_toArray, List.set_cons_zero, List.set_cons_succ])
      | (refine sch_no rfl rfl hH ?_; simp only [Act.put, List.setIfInBounds_toArray, List.set_cons_zero, List.set_cons_succ]))
    refine sch_call rfl rfl (fun K hK => ?_)
    go_wp2_with (go_at_call 20; refine (zag_any n _ (by omega) (by omega)).mono ?_; rintro e w' ⟨rfl, rfl⟩)
    refine hK.out _ _ rfl ?_
    clear hK hH
    have hH : w8 = w8 := rfl
    repeat (first
      | (refine sch_yes (v := ?_) rfl rfl ?_ hH ?_; rotate_left; (focus ((intro W hW; go_simp) <;> with_reducible rfl)); simp only [Act.put, List.setIfInBounds_toArray, List.set_cons_zero, List.set_cons_succ])
      | (refine sch_no rfl rfl hH ?_; simp only [Act.put, List.setIfInBounds_toArray, List.set_cons_zero, List.set_cons_succ]))
    refine sch_call rfl rfl (fun K hK => ?_)
    go_wp2_with (go_at_call 21; refine (rzag_any n _ (by omega) (by omega)).mono ?_; rintro e w' ⟨rfl, rfl⟩)
    refine hK.out _ _ rfl ?_
    clear hK hH
    have hH : w8 = w8 := rfl
    repeat (first
      | (refine sch_yes (v := ?_) rfl rfl ?_ hH ?_; rotate_left; (focus ((intro W hW; go_simp) <;> with_reducible rfl)); simp only [Act.put, List.setIfInBounds_toArray, List.set_cons_zero, List.set_cons_succ])
      | (refine sch_no rfl rfl hH ?_; simp only [Act.put, List.setIfInBounds_toArray, List.set_cons_zero, List.set_cons_succ]))
    refine sch_done ?_
    go_wp2
    go_ret
    exact ⟨rfl, hB9⟩
  · go_enter Try.func3, Try.ntmps3
    go_wp2_with fail
    refine (awake_any _).mono ?_
    rintro e w1 ⟨rfl, hb1⟩
    go_wp2
    go_ret
    exact ⟨rfl, hb1⟩
end Go.Proofs.Ytcjdfpkjlhpgnaa
