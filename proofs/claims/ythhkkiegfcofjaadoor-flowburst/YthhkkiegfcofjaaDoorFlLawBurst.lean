/- The law FlowBurst, walked: it returns true at every input. Condition: the variable errors.errorType holds the handle of the type 'error'. -/
import Derived.Test.YthhkkiegfcofjaaDoorFlHeld
import Derived.Test.YthhkkiegfcofjaaDoorFlBurstPlain
import Derived.Test.YthhkkiegfcofjaaDoorFrFlip
namespace Go.Proofs.YthhkkiegfcofjaaDoor
open Go.RowKit

set_option maxRecDepth 100000 in
set_option maxHeartbeats 4000000 in
theorem flowBurst_walk (w : World) (hg : Han w) (cs : Array Value) (f : Flo) (h : rFlo (All w) w cs.toList f) (k : Int) (hk0 : -9223372036854775808 ≤ k) (hk1 : k ≤ 9223372036854775807) (mask : Nat) (hmask : mask < 4294967296) (a : Int) (ha0 : -9223372036854775808 ≤ a) (ha1 : a ≤ 9223372036854775807) :
    Calls Tryd.prog 7 #[.agg cs, .int .i64 k, .int .u32 (mask : Int), .int .i64 a] w fun e w' => e = .returned (.bool true) ∧ Below w.heap.size w w' := by
  obtain ⟨Af, cf, rfl, hfl, hfm, hfb, hfby, hfp⟩ := flo_arg h
  clear h
  have H0 := Box.new (Below.refl _ w) hg hfp
  have W1 := Lib.hid (awake_any _ H0.han)
  go_enter Tryd.func7, Tryd.ntmps7
  go_wp2_with fail
  refine W1.out.mono ?_
  rintro e w1 ⟨rfl, hB1⟩
  have H1 := H0.below hB1
  clear W1 H0 hB1
  have W2 := Lib.hid (few_any Af f.2.length cf 40 f w1 H1.pts)
  have x0 := H1.c0
  have x1 := H1.c1
  go_wp2_with fail
  refine W2.out.mono ?_
  rintro e w2 ⟨rfl, hB2⟩
  have H2 := H1.below hB2
  clear W2 H1 hB2 x0 x1
  have x0 := H2.c0
  have x1 := H2.c1
  cases hmay : mayB f with
  | false =>
    have P1 := Lib.hid (fput_bad hfb.1 hfb.2 hfby hmay Af f.2.length cf w2 H2.pts)
    go_wp2_with fail
    refine P1.out.mono ?_
    rintro e w3 ⟨rfl, hB3⟩
    have hbel := (H2.below hB3).bel
    cases hfew : fewB f 40
    all_goals
      go_wp2
      go_ret
      exact ⟨rfl, hbel⟩
  | true =>
    have hok : OkF f := ⟨hfb.1, hfb.2, hmay, hfby⟩
    have P1 := Lib.hid (fput_ok hok Af f.2.length cf w2 H2.pts)
    have hlen := flowB_len hok
    have hpby := flowB_byte hok
    have Hok := Lib.hid hok
    clear hok
    go_wp2_with fail
    refine P1.out.mono ?_
    rintro e w3 ⟨B3, cap3, rfl, hc3, hm3, hr3, hB3⟩
    have H3 := H2.below hB3
    clear P1 H2 hB3 x0 x1
    have x0 := H3.c0
    have x1 := H3.c1
    by_cases hgo : fewB f 40 = true ∧ mask ≠ 0
    · obtain ⟨hfew, hm0⟩ := hgo
      rw [hfew]
      have hd : ((mask : Int) == 0) = false := by rw [beq_eq_false_iff_ne]; omega
      have C1 := Lib.hid (fcuts_ok Hok.out B3 _ cap3 w3 rfl hc3 hr3)
      have hfit := framesF_fit Hok.out
      have hfl := framesF_length f
      have hfew40 := Hok.out.few
      have hcl := fun i => cutsL_get (fr := framesF f) (i := i)
      have hcs := fun i F => cutAt_succ (fr := framesF f) (i := i) (F := F)
      have hcle := fun i F => flow_at (fr := framesF f) (i := i) (F := F)
      have hburst := fun i F (hi : (framesF f)[i]? = some F) t ys => flow_burst Hok.out hi (t := t) (ys := ys) hmask hm0
      have hcat : catL (framesF f) = flowB f := rfl
      have hcP : ∀ i, (catL ((framesF f).take i)).length = cutAt (framesF f) i := fun _ => rfl
      have Hcl := Lib.hid hcl
      have Hcs := Lib.hid hcs
      have Hcle := Lib.hid hcle
      have Hburst := Lib.hid hburst
      have Hcat := Lib.hid hcat
      have HcP := Lib.hid hcP
      have Hfit := Lib.hid hfit
      clear hcl hcs hcle hburst hcat hcP hfit
      have FL := Lib.hid (fun a' W h1 h2 h3 => flip_any B3 cap3 (flowB f).length (flowB f) mask a' W rfl h1 (by omega) hpby h2 hmask h3)
      generalize flowB f = fb at *
      generalize framesF f = fr at *
      go_wp2_with fail
      refine C1.out.mono ?_
      rintro e w4 ⟨A4, c4, rfl, hc4, hm4, hr4, hB4⟩
      have H4 := H3.below hB4
      have hr34 := hr3.below hB4
      have hbel := H4.bel
      clear C1 H3 hB4 x0 x1 hr3
      simp only [maxLen] at hm4
      generalize f.2.length = np at *
      have hw1 : IntKind.i64.wrap ((np : Int) + 3 - 1) = (np : Int) + 3 - 1 := IntWalk.i64_in _ (by omega)
      by_cases hin : 0 ≤ k ∧ k < (np : Int) + 2
      · obtain ⟨i, rfl⟩ := Int.eq_ofNat_of_zero_le hin.1
        have hi : i < np + 2 := by omega
        obtain ⟨F, hF⟩ : ∃ F, fr[i]? = some F := ⟨fr[i], List.getElem?_eq_getElem (by omega)⟩
        have g0 := Hcl.out i (by omega)
        have g1 := Hcl.out (i + 1) (by omega)
        have hs := Hcs.out i F hF
        have hle := congrArg List.length (Hcle.out i F hF)
        rw [Hcat.out, List.length_append, List.length_append, putL_length, HcP.out] at hle
        have hF2 := (Hfit.out F (List.mem_of_getElem? hF)).2.2.1
        have hbu := Hburst.out i F hF
        rw [hs] at g1
        have Hbu := Lib.hid hbu
        clear hbu Hburst Hcl Hcs Hcle Hcat HcP Hfit hs
        obtain ⟨b4, off4, rfl, hb4, hcx⟩ := hr4.at (k := i) (by rw [i64s_length]; exact (List.getElem?_eq_some_iff.1 g0).1)
        have hc0 := hcx i _ (i64s_get g0)
        have hc1 := hcx (i + 1) _ (i64s_get g1)
        clear hcx hr4 g0 g1 hF
        generalize cutAt fr i = ci at *
        generalize F.2.length = fl at *
        have hle2 : ci + (fl + 10) ≤ fb.length := by omega
        clear hle
        generalize hL1 : ci + (fl + 10) = l1 at *
        have HL1 := Lib.hid hL1
        have hd1 : decide ((i : Int) < 0) = false := by simp
        have hd2 : decide ((np : Int) + 3 - 1 ≤ (i : Int)) = false := by simp; omega
        have hi0 : (0 : Int) ≤ (i : Int) := by omega
        have hi1 : (0 : Int) ≤ (i : Int) + 1 := by omega
        have hi2 : ((i : Int) + 1).toNat = i + 1 := by omega
        have hi3 : IntKind.i64.wrap ((i : Int) + 1) = (i : Int) + 1 := IntWalk.i64_in _ (by omega)
        have hi4 : (i : Int) < (np : Int) + 3 := by omega
        have hi5 : (i : Int) + 1 < (np : Int) + 3 := by omega
        have hd3 : decide ((ci : Int) < 0) = false := by simp
        have hd4 : decide ((fb.length : Int) < (l1 : Int)) = false := by simp; omega
        have hd4' : decide (fb.length < l1) = false := by simp; omega
        have hw2 : IntKind.i64.wrap ((l1 : Int) - (ci : Int)) = (fl : Int) + 10 := by rw [IntWalk.i64_in _ (by omega)]; omega
        have hw3 : IntKind.i64.wrap (8 * ((fl : Int) + 10)) = 8 * ((fl : Int) + 10) := IntWalk.i64_in _ (by omega)
        have hw4 : IntKind.i64.wrap (8 * ((fl : Int) + 10) - 32) = 8 * ((fl : Int) + 10) - 32 := IntWalk.i64_in _ (by omega)
        clear hL1
        by_cases hat : 0 ≤ a ∧ a ≤ 8 * ((fl : Int) + 10) - 32
        · obtain ⟨t, rfl⟩ := Int.eq_ofNat_of_zero_le hat.1
          have hd5 : decide ((t : Int) < 0) = false := by simp
          have hd6 : decide (8 * ((fl : Int) + 10) - 32 < (t : Int)) = false := by simp; omega
          go_wp2_with fail
          refine sch_start [(0, true), (1, true), (2, true), (3, true), (4, true), (5, true), (6, true), (7, true), (8, true), (9, true), (10, true), (11, true), (12, true), (13, true), (14, true), (15, true), (16, true), (17, true), (18, true), (19, true), (20, true), (21, true), (22, true), (23, true), (24, true), (25, true), (26, true), (27, true), (28, true), (29, true), (30, true), (31, true), (32, true), (33, true), (34, true), (35, true), (36, true), (37, true), (38, true), (39, true), (40, true), (41, true), (42, true), (43, true), (44, true), (45, true), (46, true), (47, true), (48, true), (49, true)]
            (fun W => W = w4.drew) (by kernel_rfl) rfl (by kernel_rfl) (fun _ _ _ _ _ h => h) rfl (fun hH => ?_)
          repeat (first | (refine sch_yes (v := ?_) rfl rfl ?_ hH ?_; rotate_left; (focus ((intro W hW; go_simp) <;> with_reducible rfl)); simp only [Act.put, List.setIfInBounds_toArray, List.set_cons_zero, List.set_cons_succ]) | (refine sch_no rfl rfl hH ?_; simp only [Act.put, List.setIfInBounds_toArray, List.set_cons_zero, List.set_cons_succ]))
          refine sch_done ?_
          have hH4 := H4.below (Below.refl _ w4).drew
          have hrd := hr34.below (Below.refl _ w4).drew
          have hl1 := HL1.out
          have hw5 : IntKind.i64.wrap (8 * (ci : Int)) = 8 * (ci : Int) := IntWalk.i64_in _ (by omega)
          have hw6 : IntKind.i64.wrap (8 * (ci : Int) + (t : Int)) = 8 * (ci : Int) + (t : Int) := IntWalk.i64_in _ (by omega)
          have F1 := FL.out (8 * ci + t) w4.drew (by omega) hrd (by omega)
          rw [show ((8 * ci + t : Nat) : Int) = 8 * (ci : Int) + (t : Int) by omega] at F1
          have HF1 := Lib.hid F1
          have hdc0 : w4.drew.cell? ⟨b4, off4 + i, none⟩ = some (.int .i64 (ci : Int)) := hc0
          have ht32 : t + 32 ≤ 8 * (fl + 10) := by omega
          have hgo2 : ∀ ys, ys.length = fb.length → (∀ y ∈ ys, y < 256) → val ys = val fb ^^^ mask * 2 ^ (8 * ci + t) → (getFl ys).2 ≠ 0 := fun ys h1 h2 h3 => Hbu.out t ys ht32 h1 h2 h3
          have Hgo2 := Lib.hid hgo2
          clear F1 FL hl1 hgo2 Hbu hrd hr34 H4
          generalize w4.drew = wd at *
          go_wp2_with fail
          refine HF1.out.mono ?_
          rintro e w5 ⟨g5, cap5, ys, rfl, hcap5, hyl, hyb, hyv, hyr, hB5⟩
          have H5 := hH4.below hB5
          have hne := Hgo2.out ys hyl hyb hyv
          have G5 := fget_any (some ⟨g5, 0, none⟩) cap5 fb.length ys w5 hyl hcap5 hyb hyr (by omega) H5.han
          generalize getFl ys = gf at *
          obtain ⟨f5, E5⟩ := gf
          simp only at G5 hne
          have HG5 := Lib.hid G5
          have hE5 : ((E5 : Int) != 0) = true := by rw [bne_iff_ne]; omega
          clear G5 HF1 Hgo2 hyv
          go_wp2_with fail
          refine HG5.out.mono ?_
          rintro e w6 ⟨A6, c6, rfl, hp6, hB6⟩
          have hbel6 := ((H5.below hB6).alloc (.cells #[.int .u32 f5.1, .slice A6 f5.2.length c6] 25)).bel
          go_wp2
          go_ret
          exact ⟨rfl, hbel6⟩
        · have hor : decide (a < 0) = true ∨ (decide (a < 0) = false ∧ decide (8 * ((fl : Int) + 10) - 32 < a) = true) := by
            simp only [decide_eq_true_eq, decide_eq_false_iff_not]; omega
          rcases hor with hd5 | ⟨hd5, hd6⟩
          all_goals
            go_wp2_with fail
            go_quiet (fail)
            go_wp2
            go_ret
            exact ⟨rfl, below_drewN hbel nq⟩
      · have hor : decide (k < 0) = true ∨ (decide (k < 0) = false ∧ decide ((np : Int) + 3 - 1 ≤ k) = true) := by
          simp only [decide_eq_true_eq, decide_eq_false_iff_not]; omega
        rcases hor with hd1 | ⟨hd1, hd2⟩
        all_goals
          go_wp2_with fail
          go_quiet (fail)
          go_wp2
          go_ret
          exact ⟨rfl, below_drewN hbel nq⟩
    · have hor : fewB f 40 = false ∨ (fewB f 40 = true ∧ ((mask : Int) == 0) = true) := by
        cases hf : fewB f 40 with
        | false => exact .inl rfl
        | true =>
          refine .inr ⟨rfl, ?_⟩
          rw [beq_iff_eq]
          have : ¬ mask ≠ 0 := fun h => hgo ⟨hf, h⟩
          omega
      have hbel := H3.bel
      rcases hor with hf | ⟨hf, hd⟩
      all_goals
        rw [hf]
        go_wp2
        go_ret
        exact ⟨rfl, hbel⟩
end Go.Proofs.YthhkkiegfcofjaaDoor
