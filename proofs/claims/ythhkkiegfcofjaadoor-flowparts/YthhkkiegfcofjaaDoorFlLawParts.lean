/- The law FlowParts, walked: it returns true at every input. Condition: the variable errors.errorType holds the handle of the type 'error'. -/
import Derived.Test.YthhkkiegfcofjaaDoorFlHeld
namespace Go.Proofs.YthhkkiegfcofjaaDoor
open Go.RowKit

set_option maxRecDepth 100000 in
set_option maxHeartbeats 2000000 in
theorem flowParts_walk (w : World) (hg : Han w) (cs : Array Value) (f : Flo) (h : rFlo (All w) w cs.toList f) (k : Int) (hk0 : -9223372036854775808 ≤ k) (hk1 : k ≤ 9223372036854775807) :
    Calls Tryd.prog 8 #[.agg cs, .int .i64 k] w fun e w' => e = .returned (.bool true) ∧ Below w.heap.size w w' := by
  obtain ⟨Af, cf, rfl, hfl, hfm, hfb, hfby, hfp⟩ := flo_arg h
  clear h
  have H0 := Box.new (Below.refl _ w) hg hfp
  have W1 := Lib.hid (awake_any _ H0.han)
  go_enter Tryd.func8, Tryd.ntmps8
  go_wp2_with fail
  refine W1.out.mono ?_
  rintro e w1 ⟨rfl, hB1⟩
  have H1 := H0.below hB1
  clear W1 H0 hB1
  have W2 := Lib.hid (few_any Af f.2.length cf 40 f w1 H1.pts)
  have x0 := H1.c0
  have x1 := H1.c1
  go_wp2_with fail
  refine W2.out.mono ?_
  rintro e w2 ⟨rfl, hB2⟩
  have H2 := H1.below hB2
  clear W2 H1 hB2 x0 x1
  have x0 := H2.c0
  have x1 := H2.c1
  cases hmay : mayB f with
  | false =>
    have P1 := Lib.hid (fput_bad hfb.1 hfb.2 hfby hmay Af f.2.length cf w2 H2.pts)
    go_wp2_with fail
    refine P1.out.mono ?_
    rintro e w3 ⟨rfl, hB3⟩
    have hbel := (H2.below hB3).bel
    cases hfew : fewB f 40
    all_goals
      go_wp2
      go_ret
      exact ⟨rfl, hbel⟩
  | true =>
    have hok : OkF f := ⟨hfb.1, hfb.2, hmay, hfby⟩
    have P1 := Lib.hid (fput_ok hok Af f.2.length cf w2 H2.pts)
    have hlen := flowB_len hok
    have hpby := flowB_byte hok
    have Hok := Lib.hid hok
    clear hok
    go_wp2_with fail
    refine P1.out.mono ?_
    rintro e w3 ⟨B3, cap3, rfl, hc3, hm3, hr3, hB3⟩
    have H3 := H2.below hB3
    clear P1 H2 hB3 x0 x1
    have x0 := H3.c0
    have x1 := H3.c1
    have hfit := framesF_fit Hok.out
    have hfew40 := Hok.out.few
    have L1 := all_form B3 cap3 (flowB f).length (flowB f) w3 rfl hc3 hpby hr3 (by omega)
    rw [show flowB f = catL (framesF f) from rfl, allL_cat _ hfit] at L1
    simp only [framesF_length] at L1
    have HL1 := Lib.hid L1
    have hget := framesF_get f
    have Hget := Lib.hid hget
    clear L1 hget hfit
    have hcat : (catL (framesF f)).length = (flowB f).length := rfl
    rw [hcat] at HL1
    clear hcat
    generalize flowB f = fb at *
    cases hfew : fewB f 40 with
    | false =>
      have hbel := H3.bel
      go_wp2
      go_ret
      exact ⟨rfl, hbel⟩
    | true =>
      go_wp2_with fail
      refine HL1.out.mono ?_
      rintro e w4 ⟨B4, d4, rfl, hsl, hB4⟩
      have H4 := H3.below hB4
      clear HL1 H3 hB4 x0 x1 hr3
      have x0 := H4.c0
      have x1 := H4.c1
      have hbel := H4.bel
      have g0 : (framesF f)[0]? = some ((1 : Int), headL f.1.toNat f.2.length) := by rw [Hget.out, if_pos rfl]
      have gl : (framesF f)[f.2.length + 1]? = some ((3 : Int), vputL f.2.length) := by rw [Hget.out, if_neg (by omega), if_neg (by omega), if_pos rfl]
      obtain ⟨b1, off1, A1, c1, rfl, hb1, hx1, _⟩ := fra_at hsl g0
      obtain ⟨b2, off2, A2, c2, e2, hb2, hx2, _⟩ := fra_at hsl gl
      obtain ⟨rfl, rfl⟩ : b1 = b2 ∧ off1 = off2 := by simpa using e2
      simp only [Nat.zero_mul, Nat.add_zero] at hx1
      obtain ⟨_, hn4, hm4⟩ := rows_len hsl
      simp only [maxLen] at hm4
      have hw1 : IntKind.i64.wrap ((f.2.length : Int) + 2 - 1) = ((f.2.length + 1 : Nat) : Int) := by rw [IntWalk.i64_in _ (by omega)]; omega
      have hw2 : IntKind.i64.wrap ((f.2.length : Int) + 2) = (f.2.length : Int) + 2 := IntWalk.i64_in _ (by omega)
      have hw3 : (f.2.length : Int) + 2 - 1 = ((f.2.length + 1 : Nat) : Int) := by omega
      by_cases hin : 0 ≤ k ∧ k < (f.2.length : Int)
      · obtain ⟨i, rfl⟩ := Int.eq_ofNat_of_zero_le hin.1
        have hi : i < f.2.length := by omega
        obtain ⟨p, hpi⟩ : ∃ p, f.2[i]? = some p := ⟨f.2[i], List.getElem?_eq_getElem hi⟩
        have gi : (framesF f)[i + 1]? = some ((2 : Int), [i] ++ p) := by
          rw [Hget.out, if_neg (by omega), if_pos (by omega), Nat.add_sub_cancel, hpi, Option.map_some, putL_small (by omega)]
        obtain ⟨b3, off3, A3, c3, e3, hb3, hx3, hy3, hc31, _, hby3, hr3⟩ := fra_at2 hsl gi
        obtain ⟨rfl, rfl⟩ : b1 = b3 ∧ off1 = off3 := by simpa using e3
        obtain ⟨b5, off5, A5, c5, rfl, hb5, hx5, hpc5, hpm5, hpb5, hr5⟩ := pts_at H4.pts hpi
        simp only [List.singleton_append, List.length_cons] at hy3 hby3 hr3 hx3 hc31
        obtain ⟨b6, off6, rfl, hb6, hcx6⟩ := (RdIn.rd hr3).at (k := 0) (by simp)
        have h60 := hcx6 0 (.int .u8 (i : Int)) rfl
        rw [Nat.add_zero] at h60
        have hr6 := (RdIn.rd hr3).drop 1
        rw [u8s_drop, List.drop_succ_cons, List.drop_zero] at hr6
        have hpz : c3 - 1 = 0 → p = [] := fun e => List.eq_nil_of_length_eq_zero (by omega)
        have t5 := fun W hW => conv_B A5 p p.length c5 W rfl hW
        have t6 := fun W hW => conv_B (some ⟨b6, off6 + 1, none⟩) p p.length (c3 - 1) W rfl hW
        have t7 := fun W => conv_B (some ⟨b6, off6, none⟩) [] 0 0 W rfl (.inl rfl)
        have T5 := Lib.hid (t5 w4.drew (RdIn.rd hr5))
        have T6 := Lib.hid (t6 w4.drew hr6)
        have T7 := Lib.hid (t7 w4.drew)
        have Hpz := Lib.hid hpz
        have hBd : Below w4.heap.size w4 w4.drew := (Below.refl _ w4).drew
        have H5 := H4.below hBd
        have hbel5 := H5.bel
        have y0 := H5.c0
        have y1 := H5.c1
        have hx1d : w4.drew.cell? ⟨b1, off1 + (i + 1) * 2, none⟩ = some (.int .i64 2) := hx3
        have hy3d : w4.drew.cell? ⟨b1, off1 + (i + 1) * 2 + 1, none⟩ = some (.slice (some ⟨b6, off6, none⟩) (p.length + 1) c3) := hy3
        have h60d : w4.drew.cell? ⟨b6, off6, none⟩ = some (.int .u8 (i : Int)) := h60
        have hx5d : w4.drew.cell? ⟨b5, off5 + i, none⟩ = some (.slice A5 p.length c5) := hx5
        clear t5 t6 t7 hpz hr6 hcx6 hr3 hr5 gi g0 gl hsl hby3 hpb5
        generalize p = p at *
        have hd1 : decide ((i : Int) < 0) = false := by simp
        have hd2 : decide ((f.2.length : Int) ≤ (i : Int)) = false := by simp; omega
        have hil : (i : Int) < (f.2.length : Int) := by omega
        have hil2 : (i : Int) + 1 < (f.2.length : Int) + 2 := by omega
        have hi0 : (0 : Int) ≤ (i : Int) := by omega
        have hi1 : (0 : Int) ≤ (i : Int) + 1 := by omega
        have hi2 : ((i : Int) + 1).toNat = i + 1 := by omega
        have hi3 : IntKind.i64.wrap ((i : Int) + 1) = (i : Int) + 1 := IntWalk.i64_in _ (by omega)
        have hi4 : IntKind.i64.wrap (i : Int) = (i : Int) := IntWalk.i64_in _ (by omega)
        have hi5 : ((i : Int) == (i : Int)) = true := by simp
        have hn1 : (p.length : Int) + 1 - (p.length : Int) = 1 := by omega
        have hn2 : IntKind.i64.wrap 1 = 1 := IntWalk.i64_in _ (by omega)
        have hn3 : (1 : Int) ≤ (p.length : Int) + 1 := by omega
        have hn4 : (p.length : Int) + 1 ≤ (c3 : Int) := by omega
        have hn5 : IntKind.i64.wrap ((p.length : Int) + 1 - (p.length : Int)) = 1 := by rw [hn1, hn2]
        go_wp2_with fail
        by_cases hcz : c3 = 1
        · have hp0 := Hpz.out (by omega)
          subst hcz
          subst hp0
          have t5 := T5.out
          have t7 := T7.out
          simp only [List.length_nil, Nat.zero_add] at *
          refine sch_start [(0, true), (1, true), (2, true), (3, true), (4, true), (5, true), (6, true), (7, true), (8, true), (9, true), (10, true), (11, true), (12, true), (13, true), (14, true), (15, true), (16, true), (17, true), (18, true), (19, true), (20, true), (21, true), (22, true), (23, true), (24, true), (25, true), (26, true), (27, true), (28, true), (29, true), (30, true), (31, true), (32, true)]
            (fun W => W = w4.drew) (by kernel_rfl) rfl (by kernel_rfl) (fun _ _ _ _ _ h => h) rfl (fun hH => ?_)
          repeat (first | (refine sch_yes (v := ?_) rfl rfl ?_ hH ?_; rotate_left; (focus ((intro W hW; go_simp) <;> with_reducible rfl)); simp only [Act.put, List.setIfInBounds_toArray, List.set_cons_zero, List.set_cons_succ]) | (refine sch_no rfl rfl hH ?_; simp only [Act.put, List.setIfInBounds_toArray, List.set_cons_zero, List.set_cons_succ]))
          refine sch_done ?_
          go_wp2
          go_ret
          exact ⟨by simp, hbel5⟩
        · have t5 := T5.out
          have t6 := T6.out
          refine sch_start [(0, true), (1, true), (2, true), (3, true), (4, true), (5, true), (6, true), (7, true), (8, true), (9, true), (10, true), (11, true), (12, true), (13, true), (14, true), (15, true), (16, true), (17, true), (18, true), (19, true), (20, true), (21, true), (22, true), (23, true), (24, true), (25, true), (26, true), (27, true), (28, true), (29, true), (30, true), (31, true), (32, true)]
            (fun W => W = w4.drew) (by kernel_rfl) rfl (by kernel_rfl) (fun _ _ _ _ _ h => h) rfl (fun hH => ?_)
          repeat (first | (refine sch_yes (v := ?_) rfl rfl ?_ hH ?_; rotate_left; (focus ((intro W hW; go_simp) <;> with_reducible rfl)); simp only [Act.put, List.setIfInBounds_toArray, List.set_cons_zero, List.set_cons_succ]) | (refine sch_no rfl rfl hH ?_; simp only [Act.put, List.setIfInBounds_toArray, List.set_cons_zero, List.set_cons_succ]))
          refine sch_done ?_
          go_wp2
          go_ret
          exact ⟨by simp, hbel5⟩
      · have hor : decide (k < 0) = true ∨ (decide (k < 0) = false ∧ decide ((f.2.length : Int) ≤ k) = true) := by
          simp only [decide_eq_true_eq, decide_eq_false_iff_not]; omega
        generalize f.2.length = np at *
        rcases hor with hd1 | ⟨hd1, hd2⟩
        all_goals
          go_wp2
          go_ret
          exact ⟨rfl, hbel⟩
end Go.Proofs.YthhkkiegfcofjaaDoor
