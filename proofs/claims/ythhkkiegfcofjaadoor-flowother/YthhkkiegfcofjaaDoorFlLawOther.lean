/- The law FlowOther, walked: it returns true at every input. Condition: the variable errors.errorType holds the handle of the type 'error'. -/
import Derived.Test.YthhkkiegfcofjaaDoorFlHeld
import Derived.Test.YthhkkiegfcofjaaDoorFlBurstPlain
namespace Go.Proofs.YthhkkiegfcofjaaDoor
open Go.RowKit

theorem drop_cut1 (f : Flo) : (flowB f).drop (cutAt (framesF f) 1) = catL (partsF 0 f.2 ++ [(3, vputL f.2.length)]) := by
  have h := flow_at (fr := framesF f) (i := 0) (F := ((1 : Int), headL f.1.toNat f.2.length)) rfl
  have hc : cutAt (framesF f) 1 = (putL ((1 : Int)).toNat (headL f.1.toNat f.2.length)).length := by simp [cutAt, framesF, catL]
  rw [flowB, h, hc]
  simp only [List.take_zero, catL, List.nil_append, List.drop_left]
  rfl
theorem cut1_lt (f : Flo) : cutAt (framesF f) 1 < (flowB f).length := by
  have h := congrArg List.length (drop_cut1 f)
  rw [List.length_drop, catL_append, List.length_append] at h
  simp only [catL, List.append_nil, putL_length] at h
  omega

set_option maxRecDepth 100000 in
set_option maxHeartbeats 4000000 in
theorem flowOther_walk (w : World) (hg : Han w) (cs : Array Value) (f : Flo) (h : rFlo (All w) w cs.toList f) (ds : Array Value) (g : Flo) (h' : rFlo (All w) w ds.toList g) (base : Nat) (hbase : base < 4294967296) :
    Calls Tryd.prog 9 #[.agg cs, .agg ds, .int .u32 (base : Int)] w fun e w' => e = .returned (.bool true) ∧ Below w.heap.size w w' := by
  obtain ⟨Af, cf, rfl, hfl, hfm, hfb, hfby, hfp⟩ := flo_arg h
  obtain ⟨Ag, cg, rfl, hgl, hgm, hgb, hgby, hgp⟩ := flo_arg h'
  clear h h'
  have H00 := Box.new (Below.refl _ w) hg hfp
  have K0 := H00.new' (g := g) (rPts_stays.to (Keeps.below ((Below.refl _ w).alloc (Nat.le_refl _) _)) hgp)
  have H0 := H00.alloc (.cells #[.int .u32 g.1, .slice Ag g.2.length cg] 25)
  rw [World.size_alloc] at K0
  have W1 := Lib.hid (awake_any _ H0.han)
  clear H00
  go_enter Tryd.func9, Tryd.ntmps9
  go_wp2_with fail
  refine W1.out.mono ?_
  rintro e w1 ⟨rfl, hB1⟩
  have H1 := H0.below hB1
  have K1 := K0.below hB1
  clear W1 H0 K0 hB1
  have W2 := Lib.hid (few_any Af f.2.length cf 40 f w1 H1.pts)
  have x0 := H1.c0
  have x1 := H1.c1
  go_wp2_with fail
  refine W2.out.mono ?_
  rintro e w2 ⟨rfl, hB2⟩
  have H2 := H1.below hB2
  have K2 := K1.below hB2
  clear W2 H1 K1 hB2 x0 x1
  have W3 := Lib.hid (few_any Ag g.2.length cg 40 g w2 K2.pts)
  have y0 := K2.c0
  have y1 := K2.c1
  go_wp2_with fail
  refine W3.out.mono ?_
  rintro e w3 ⟨rfl, hB3⟩
  have H3 := H2.below hB3
  have K3 := K2.below hB3
  clear W3 H2 K2 hB3 y0 y1
  have x0 := H3.c0
  have x1 := H3.c1
  have y0 := K3.c0
  have y1 := K3.c1
  by_cases hgo : fewB f 40 = true ∧ fewB g 40 = true
  · obtain ⟨hfew, hfewg⟩ := hgo
    rw [hfew, hfewg]
    have hmh : mayB ((base : Int), f.2) = mayB f := rfl
    cases hmay : mayB f with
    | true =>
      have hok : OkF f := ⟨hfb.1, hfb.2, hmay, hfby⟩
      have hokh : OkF ((base : Int), f.2) := ⟨by simp, by simp only; omega, by rw [hmh]; exact hmay, hfby⟩
      cases hmayg : mayB g with
      | true =>
        have hokg : OkF g := ⟨hgb.1, hgb.2, hmayg, hgby⟩
        have P1 := Lib.hid (fput_ok hok Af f.2.length cf w3 H3.pts)
        have Hok := Lib.hid hok
        go_wp2_with fail
        refine P1.out.mono ?_
        rintro e w3b ⟨B3, cap3, rfl, hc3, hm3, hr3, hB3⟩
        have H3b := H3.below hB3
        have K3b := K3.below hB3
        clear P1 H3 K3 hB3 x0 x1 y0 y1
        have y0 := K3b.c0
        have y1 := K3b.c1
        have P2 := Lib.hid (fput_ok hokg Ag g.2.length cg w3b K3b.pts)
        have Hokg := Lib.hid hokg
        go_wp2_with fail
        refine P2.out.mono ?_
        rintro e w4 ⟨B4, cap4, rfl, hc4, hm4, hr4, hB4⟩
        have H4 := H3b.below hB4
        have K4 := K3b.below hB4
        have hr34 := hr3.below hB4
        clear P2 H3b K3b hB4 y0 y1 hr3
        have P3 := Lib.hid (fun W A c h => fput_ok (f := ((base : Int), f.2)) hokh A f.2.length c W h)
        have z0 := H4.c0
        have z1 := H4.c1
        have J4 := H4.new' (g := ((base : Int), f.2)) H4.pts
        have H5 := H4.alloc (.cells #[.int .u32 (base : Int), .slice Af f.2.length cf] 25)
        have K5 := K4.alloc (.cells #[.int .u32 (base : Int), .slice Af f.2.length cf] 25)
        have hr35 := hr34.below ((Below.refl _ w4).alloc (o := .cells #[.int .u32 (base : Int), .slice Af f.2.length cf] 25) (Nat.le_refl _))
        have hr45 := hr4.below ((Below.refl _ w4).alloc (o := .cells #[.int .u32 (base : Int), .slice Af f.2.length cf] 25) (Nat.le_refl _))
        have HP3 := Lib.hid (P3.out _ _ _ J4.pts)
        clear P3
        go_wp2_with fail
        refine HP3.out.mono ?_
        rintro e w6 ⟨B6, cap6, rfl, hc6, hm6, hr6, hB6⟩
        have H6 := H5.below hB6
        have K6 := K5.below hB6
        have hr36 := hr35.below hB6
        have hr46 := hr45.below hB6
        clear HP3 J4 H4 K4 H5 K5 hr34 hr35 z0 z1 hB6
        have Hokh := Lib.hid hokh
        have hsame : decide (f = g) = decide (flowB f = flowB g) := by
          by_cases he : f = g
          · rw [decide_eq_true he, he, decide_eq_true rfl]
          · rw [decide_eq_false he, decide_eq_false fun h => he (flowB_inj Hok.out Hokg.out h)]
        have hstr := str_eq (flowB_byte Hok.out) (flowB_byte Hokg.out)
        have hsq : ((strB (flowB f)).toList == (strB (flowB g)).toList) = decide (f = g) := by
          rw [hstr, hsame]
          by_cases hh : flowB f = flowB g
          · simp [hh]
          · simp [hh]
        have T1 := Lib.hid (fun W h => conv_B B3 (flowB f) _ cap3 W rfl h)
        have T2 := Lib.hid (fun W h => conv_B B4 (flowB g) _ cap4 W rfl h)
        have S1 := Lib.hid (fsame_any Af Ag f.2.length cf g.2.length cg f g w6.drew (H6.below (Below.refl _ w6).drew).pts (K6.below (Below.refl _ w6).drew).pts)
        have Hsq := Lib.hid hsq
        clear hsame hstr hsq
        have HF := Lib.hid (fun (W : World) (h : Below w6.drew.heap.size w6.drew W) => And.intro (T1.out W ((hr36.below (Below.refl _ w6).drew).below h)) (And.intro (T2.out W ((hr46.below (Below.refl _ w6).drew).below h)) (And.intro (((H6.below (Below.refl _ w6).drew).below h).c0) (And.intro (((H6.below (Below.refl _ w6).drew).below h).c1) (And.intro (((K6.below (Below.refl _ w6).drew).below h).c0) (((K6.below (Below.refl _ w6).drew).below h).c1))))))
        go_wp2_with fail
        refine sch_start [(0, true), (1, true), (2, true), (3, true), (4, true), (5, true), (6, true), (7, true), (8, true), (9, true), (10, true), (11, true), (12, true), (13, true), (14, false), (15, true), (16, true)]
          (fun W => Below w6.drew.heap.size w6.drew W) (by kernel_rfl) rfl (by kernel_rfl) (fun _ _ _ _ _ h => h) (Below.refl _ _) (fun hH => ?_)
        repeat (first | (refine sch_yes (v := ?_) rfl rfl ?_ hH ?_; rotate_left; (focus ((intro W hW; obtain ⟨u1, u2, u3, u4, u5, u6⟩ := HF.out W hW; go_simp) <;> with_reducible rfl)); simp only [Act.put, List.setIfInBounds_toArray, List.set_cons_zero, List.set_cons_succ]) | (refine sch_no rfl rfl hH ?_; simp only [Act.put, List.setIfInBounds_toArray, List.set_cons_zero, List.set_cons_succ]))
        refine sch_call rfl rfl (fun K hK => ?_)
        go_wp2_with (go_at_call 22; refine S1.out.mono ?_; rintro e w7 ⟨rfl, hB7⟩)
        refine hK.out _ _ hB7 ?_
        clear hK hH
        have hH := hB7
        rw [← Hsq.out]
        repeat (first | (refine sch_yes (v := ?_) rfl rfl ?_ hH ?_; rotate_left; (focus ((intro W hW; obtain ⟨u1, u2, u3, u4, u5, u6⟩ := HF.out W hW; go_simp) <;> with_reducible rfl)); simp only [Act.put, List.setIfInBounds_toArray, List.set_cons_zero, List.set_cons_succ]) | (refine sch_no rfl rfl hH ?_; simp only [Act.put, List.setIfInBounds_toArray, List.set_cons_zero, List.set_cons_succ]))
        refine sch_done ?_
        have hd7 := (Below.refl _ w6).drew.trans hB7
        have H7 := H6.below hd7
        have hr37 := hr36.below hd7
        have hr67 := hr6.below hd7
        clear hH T1 T2 S1 HF Hsq H6 K6 hr36 hr46 hr6
        have HC7 := Lib.hid (fcuts_ok Hok.out B3 _ cap3 _ rfl hc3 hr37)
        have HD7 := Lib.hid (fun W h => fcuts_ok Hokh.out B6 _ cap6 W rfl hc6 h)
        have hfd := drop_cut1 f
        have hhd := drop_cut1 ((base : Int), f.2)
        have hfc := cut1_lt f
        have hhc := cut1_lt ((base : Int), f.2)
        have hg1 := cutsL_get (fr := framesF f) (i := 1) (by rw [framesF_length]; omega)
        have hg2 := cutsL_get (fr := framesF ((base : Int), f.2)) (i := 1) (by rw [framesF_length]; omega)
        have hpb := flowB_byte Hok.out
        have hqb := flowB_byte Hokh.out
        rw [← hhd] at hfd
        simp only at HD7
        generalize flowB f = fb at *
        generalize flowB ((base : Int), f.2) = hb at *
        generalize cutsL (framesF f) = cl at *
        generalize cutsL (framesF ((base : Int), f.2)) = ch at *
        generalize cutAt (framesF f) 1 = k1 at *
        generalize cutAt (framesF ((base : Int), f.2)) 1 = k2 at *
        clear hhd
        go_wp2_with fail
        refine HC7.out.mono ?_
        rintro e w8 ⟨A8, c8, rfl, hc8, hm8, hr8, hB8⟩
        have H8 := H7.below hB8
        have hr38 := hr37.below hB8
        have hr68 := hr67.below hB8
        have HD8 := Lib.hid (HD7.out w8 hr68)
        clear HC7 HD7 hB8 hr37 hr67 H7
        go_wp2_with fail
        refine HD8.out.mono ?_
        rintro e w9 ⟨A9, c9, rfl, hc9, hm9, hr9, hB9⟩
        have hbel := (H8.below hB9).bel
        have hr39 := hr38.below hB9
        have hr69 := hr68.below hB9
        have hr89 := hr8.below hB9
        clear HD8 hB9 hr38 hr68 hr8 H8
        simp only [maxLen] at hm8 hm9
        obtain ⟨b8, off8, rfl, hb8, hcx8⟩ := hr89.at (k := 1) (by rw [i64s_length]; exact (List.getElem?_eq_some_iff.1 hg1).1)
        obtain ⟨b9, off9, rfl, hb9, hcx9⟩ := hr9.at (k := 1) (by rw [i64s_length]; exact (List.getElem?_eq_some_iff.1 hg2).1)
        have v8 : w9.drew.cell? ⟨b8, off8 + 1, none⟩ = some (.int .i64 (k1 : Int)) := hcx8 1 _ (i64s_get hg1)
        have v9 : w9.drew.cell? ⟨b9, off9 + 1, none⟩ = some (.int .i64 (k2 : Int)) := hcx9 1 _ (i64s_get hg2)
        obtain ⟨bp, offp, rfl, hbp, _⟩ := hr39.at (k := 0) (by rw [u8s_length]; omega)
        obtain ⟨bq, offq, rfl, hbq, _⟩ := hr69.at (k := 0) (by rw [u8s_length]; omega)
        have e1 := hr39.drop k1
        have e2 := hr69.drop k2
        rw [u8s_drop] at e1 e2
        have t1 := conv_B (some ⟨bp, offp + k1, none⟩) (fb.drop k1) (fb.length - k1) (cap3 - k1) w9.drew (by rw [List.length_drop]) e1
        have t2 := conv_B (some ⟨bq, offq + k2, none⟩) (hb.drop k2) (hb.length - k2) (cap6 - k2) w9.drew (by rw [List.length_drop]) e2
        rw [hfd] at t1
        generalize hb.drop k2 = rest at *
        clear hcx8 hcx9 hr89 hr9 e1 e2 hr39 hr69 hfd hg1 hg2 hpb hqb
        have q1 : (k1 : Int) ≤ (fb.length : Int) := by omega
        have q2 : (k2 : Int) ≤ (hb.length : Int) := by omega
        have q3 : (fb.length : Int) ≤ (cap3 : Int) := by omega
        have q4 : (hb.length : Int) ≤ (cap6 : Int) := by omega
        have q5 : ¬ cap3 = k1 := by omega
        have q6 : ¬ cap6 = k2 := by omega
        have q7 : (0 : Int) ≤ (k1 : Int) := by omega
        have q8 : (0 : Int) ≤ (k2 : Int) := by omega
        have q10 : (1 : Int) < (f.2.length : Int) + 3 := by omega
        have q9 : decide ((1 : Int) < (f.2.length : Int) + 3) = true := by simp; omega
        go_wp2_with fail
        refine sch_start [(0, true), (1, true), (2, true), (3, true), (4, true), (5, true), (6, true), (7, true), (8, true), (9, true), (10, true), (11, true), (12, true), (13, true), (14, true), (15, true), (16, true), (17, true), (18, true), (19, true), (20, true), (21, true), (22, true), (23, true), (24, true), (25, true), (26, true), (27, true), (28, true), (29, true), (30, true), (31, true), (32, true), (33, true), (34, true), (35, true)]
          (fun W => W = w9.drew) (by kernel_rfl) rfl (by kernel_rfl) (fun _ _ _ _ _ h => h) rfl (fun hH => ?_)
        repeat (first | (refine sch_yes (v := ?_) rfl rfl ?_ hH ?_; rotate_left; (focus ((intro W hW; go_simp) <;> with_reducible rfl)); simp only [Act.put, List.setIfInBounds_toArray, List.set_cons_zero, List.set_cons_succ]) | (refine sch_no rfl rfl hH ?_; simp only [Act.put, List.setIfInBounds_toArray, List.set_cons_zero, List.set_cons_succ]))
        refine sch_done ?_
        go_wp2
        go_ret
        exact ⟨by simp, hbel.drew⟩
      | false =>
        have P1 := Lib.hid (fput_ok hok Af f.2.length cf w3 H3.pts)
        have Hok := Lib.hid hok
        go_wp2_with fail
        refine P1.out.mono ?_
        rintro e w3b ⟨B3, cap3, rfl, hc3, hm3, hr3, hB3⟩
        have H3b := H3.below hB3
        have K3b := K3.below hB3
        clear P1 H3 K3 hB3 x0 x1 y0 y1
        have y0 := K3b.c0
        have y1 := K3b.c1
        have P2 := Lib.hid (fput_bad hgb.1 hgb.2 hgby hmayg Ag g.2.length cg w3b K3b.pts)
        go_wp2_with fail
        refine P2.out.mono ?_
        rintro e w4 ⟨rfl, hB4⟩
        have H4 := H3b.below hB4
        have K4 := K3b.below hB4
        have hr34 := hr3.below hB4
        clear P2 H3b K3b hB4 y0 y1 hr3
        have P3 := Lib.hid (fun W A c h => fput_ok (f := ((base : Int), f.2)) hokh A f.2.length c W h)
        have z0 := H4.c0
        have z1 := H4.c1
        have J4 := H4.new' (g := ((base : Int), f.2)) H4.pts
        have H5 := H4.alloc (.cells #[.int .u32 (base : Int), .slice Af f.2.length cf] 25)
        have K5 := K4.alloc (.cells #[.int .u32 (base : Int), .slice Af f.2.length cf] 25)
        have hr35 := hr34.below ((Below.refl _ w4).alloc (o := .cells #[.int .u32 (base : Int), .slice Af f.2.length cf] 25) (Nat.le_refl _))
        have HP3 := Lib.hid (P3.out _ _ _ J4.pts)
        clear P3
        go_wp2_with fail
        refine HP3.out.mono ?_
        rintro e w6 ⟨B6, cap6, rfl, hc6, hm6, hr6, hB6⟩
        have H6 := H5.below hB6
        have K6 := K5.below hB6
        have hr36 := hr35.below hB6
        clear HP3 J4 H4 K4 H5 K5 hr34 hr35 z0 z1 hB6
        have Hokh := Lib.hid hokh
        go_wp2_with fail
        refine sch_start [(0, true), (1, true), (2, true), (3, true), (4, true), (5, true), (6, true), (7, true), (8, true), (9, true), (10, true), (11, true), (12, true), (13, true), (14, false), (15, true), (16, true)]
          (fun W => True) (by kernel_rfl) rfl (by kernel_rfl) (fun _ _ _ _ _ h => h) trivial (fun hH => ?_)
        repeat (first | (refine sch_yes (v := ?_) rfl rfl ?_ hH ?_; rotate_left; (focus ((intro W hW; go_simp) <;> with_reducible rfl)); simp only [Act.put, List.setIfInBounds_toArray, List.set_cons_zero, List.set_cons_succ]) | (refine sch_no rfl rfl hH ?_; simp only [Act.put, List.setIfInBounds_toArray, List.set_cons_zero, List.set_cons_succ]))
        refine sch_call_no rfl rfl hH ?_
        simp only [Act.put, List.setIfInBounds_toArray, List.set_cons_zero, List.set_cons_succ]
        repeat (first | (refine sch_yes (v := ?_) rfl rfl ?_ hH ?_; rotate_left; (focus ((intro W hW; go_simp) <;> with_reducible rfl)); simp only [Act.put, List.setIfInBounds_toArray, List.set_cons_zero, List.set_cons_succ]) | (refine sch_no rfl rfl hH ?_; simp only [Act.put, List.setIfInBounds_toArray, List.set_cons_zero, List.set_cons_succ]))
        refine sch_done ?_
        have hd7 : Below w6.heap.size w6 w6.drew := (Below.refl _ w6).drew
        have H7 := H6.below hd7
        have hr37 := hr36.below hd7
        have hr67 := hr6.below hd7
        clear hH H6 hr36 hr6
        have HC7 := Lib.hid (fcuts_ok Hok.out B3 _ cap3 _ rfl hc3 hr37)
        have HD7 := Lib.hid (fun W h => fcuts_ok Hokh.out B6 _ cap6 W rfl hc6 h)
        have hfd := drop_cut1 f
        have hhd := drop_cut1 ((base : Int), f.2)
        have hfc := cut1_lt f
        have hhc := cut1_lt ((base : Int), f.2)
        have hg1 := cutsL_get (fr := framesF f) (i := 1) (by rw [framesF_length]; omega)
        have hg2 := cutsL_get (fr := framesF ((base : Int), f.2)) (i := 1) (by rw [framesF_length]; omega)
        have hpb := flowB_byte Hok.out
        have hqb := flowB_byte Hokh.out
        rw [← hhd] at hfd
        simp only at HD7
        generalize flowB f = fb at *
        generalize flowB ((base : Int), f.2) = hb at *
        generalize cutsL (framesF f) = cl at *
        generalize cutsL (framesF ((base : Int), f.2)) = ch at *
        generalize cutAt (framesF f) 1 = k1 at *
        generalize cutAt (framesF ((base : Int), f.2)) 1 = k2 at *
        clear hhd
        go_wp2_with fail
        refine HC7.out.mono ?_
        rintro e w8 ⟨A8, c8, rfl, hc8, hm8, hr8, hB8⟩
        have H8 := H7.below hB8
        have hr38 := hr37.below hB8
        have hr68 := hr67.below hB8
        have HD8 := Lib.hid (HD7.out w8 hr68)
        clear HC7 HD7 hB8 hr37 hr67 H7
        go_wp2_with fail
        refine HD8.out.mono ?_
        rintro e w9 ⟨A9, c9, rfl, hc9, hm9, hr9, hB9⟩
        have hbel := (H8.below hB9).bel
        have hr39 := hr38.below hB9
        have hr69 := hr68.below hB9
        have hr89 := hr8.below hB9
        clear HD8 hB9 hr38 hr68 hr8 H8
        simp only [maxLen] at hm8 hm9
        obtain ⟨b8, off8, rfl, hb8, hcx8⟩ := hr89.at (k := 1) (by rw [i64s_length]; exact (List.getElem?_eq_some_iff.1 hg1).1)
        obtain ⟨b9, off9, rfl, hb9, hcx9⟩ := hr9.at (k := 1) (by rw [i64s_length]; exact (List.getElem?_eq_some_iff.1 hg2).1)
        have v8 : w9.drew.cell? ⟨b8, off8 + 1, none⟩ = some (.int .i64 (k1 : Int)) := hcx8 1 _ (i64s_get hg1)
        have v9 : w9.drew.cell? ⟨b9, off9 + 1, none⟩ = some (.int .i64 (k2 : Int)) := hcx9 1 _ (i64s_get hg2)
        obtain ⟨bp, offp, rfl, hbp, _⟩ := hr39.at (k := 0) (by rw [u8s_length]; omega)
        obtain ⟨bq, offq, rfl, hbq, _⟩ := hr69.at (k := 0) (by rw [u8s_length]; omega)
        have e1 := hr39.drop k1
        have e2 := hr69.drop k2
        rw [u8s_drop] at e1 e2
        have t1 := conv_B (some ⟨bp, offp + k1, none⟩) (fb.drop k1) (fb.length - k1) (cap3 - k1) w9.drew (by rw [List.length_drop]) e1
        have t2 := conv_B (some ⟨bq, offq + k2, none⟩) (hb.drop k2) (hb.length - k2) (cap6 - k2) w9.drew (by rw [List.length_drop]) e2
        rw [hfd] at t1
        generalize hb.drop k2 = rest at *
        clear hcx8 hcx9 hr89 hr9 e1 e2 hr39 hr69 hfd hg1 hg2 hpb hqb
        have q1 : (k1 : Int) ≤ (fb.length : Int) := by omega
        have q2 : (k2 : Int) ≤ (hb.length : Int) := by omega
        have q3 : (fb.length : Int) ≤ (cap3 : Int) := by omega
        have q4 : (hb.length : Int) ≤ (cap6 : Int) := by omega
        have q5 : ¬ cap3 = k1 := by omega
        have q6 : ¬ cap6 = k2 := by omega
        have q7 : (0 : Int) ≤ (k1 : Int) := by omega
        have q8 : (0 : Int) ≤ (k2 : Int) := by omega
        have q10 : (1 : Int) < (f.2.length : Int) + 3 := by omega
        have q9 : decide ((1 : Int) < (f.2.length : Int) + 3) = true := by simp; omega
        go_wp2_with fail
        refine sch_start [(0, true), (1, true), (2, true), (3, true), (4, true), (5, true), (6, true), (7, true), (8, true), (9, true), (10, true), (11, true), (12, true), (13, true), (14, true), (15, true), (16, true), (17, true), (18, true), (19, true), (20, true), (21, true), (22, true), (23, true), (24, true), (25, true), (26, true), (27, true), (28, true), (29, true), (30, true), (31, true), (32, true), (33, true), (34, true), (35, true)]
          (fun W => W = w9.drew) (by kernel_rfl) rfl (by kernel_rfl) (fun _ _ _ _ _ h => h) rfl (fun hH => ?_)
        repeat (first | (refine sch_yes (v := ?_) rfl rfl ?_ hH ?_; rotate_left; (focus ((intro W hW; go_simp) <;> with_reducible rfl)); simp only [Act.put, List.setIfInBounds_toArray, List.set_cons_zero, List.set_cons_succ]) | (refine sch_no rfl rfl hH ?_; simp only [Act.put, List.setIfInBounds_toArray, List.set_cons_zero, List.set_cons_succ]))
        refine sch_done ?_
        go_wp2
        go_ret
        exact ⟨by simp, hbel.drew⟩
    | false =>
      cases hmayg : mayB g with
      | true =>
        have hokg : OkF g := ⟨hgb.1, hgb.2, hmayg, hgby⟩
        have P1 := Lib.hid (fput_bad hfb.1 hfb.2 hfby hmay Af f.2.length cf w3 H3.pts)
        go_wp2_with fail
        refine P1.out.mono ?_
        rintro e w3b ⟨rfl, hB3⟩
        have H3b := H3.below hB3
        have K3b := K3.below hB3
        clear P1 H3 K3 hB3 x0 x1 y0 y1
        have y0 := K3b.c0
        have y1 := K3b.c1
        have P2 := Lib.hid (fput_ok hokg Ag g.2.length cg w3b K3b.pts)
        have Hokg := Lib.hid hokg
        go_wp2_with fail
        refine P2.out.mono ?_
        rintro e w4 ⟨B4, cap4, rfl, hc4, hm4, hr4, hB4⟩
        have H4 := H3b.below hB4
        have K4 := K3b.below hB4
        clear P2 H3b K3b hB4 y0 y1
        have z0 := H4.c0
        have z1 := H4.c1
        have J4 := H4.new' (g := ((base : Int), f.2)) H4.pts
        have H5 := H4.alloc (.cells #[.int .u32 (base : Int), .slice Af f.2.length cf] 25)
        have HP3 := Lib.hid (fput_bad (f := ((base : Int), f.2)) (by simp) (by simp only; omega) hfby hmay Af f.2.length cf _ J4.pts)
        go_wp2_with fail
        refine HP3.out.mono ?_
        rintro e w6 ⟨rfl, hB6⟩
        have H6 := H5.below hB6
        clear HP3 J4 H4 H5 z0 z1 hB6
        go_wp2_with fail
        refine sch_start [(0, true), (1, true), (2, true), (3, true), (4, true), (5, true), (6, true), (7, true), (8, true), (9, true), (10, true), (11, true), (12, true), (13, true), (14, false), (15, true), (16, true)]
          (fun W => True) (by kernel_rfl) rfl (by kernel_rfl) (fun _ _ _ _ _ h => h) trivial (fun hH => ?_)
        repeat (first | (refine sch_yes (v := ?_) rfl rfl ?_ hH ?_; rotate_left; (focus ((intro W hW; go_simp) <;> with_reducible rfl)); simp only [Act.put, List.setIfInBounds_toArray, List.set_cons_zero, List.set_cons_succ]) | (refine sch_no rfl rfl hH ?_; simp only [Act.put, List.setIfInBounds_toArray, List.set_cons_zero, List.set_cons_succ]))
        refine sch_call_no rfl rfl hH ?_
        simp only [Act.put, List.setIfInBounds_toArray, List.set_cons_zero, List.set_cons_succ]
        repeat (first | (refine sch_yes (v := ?_) rfl rfl ?_ hH ?_; rotate_left; (focus ((intro W hW; go_simp) <;> with_reducible rfl)); simp only [Act.put, List.setIfInBounds_toArray, List.set_cons_zero, List.set_cons_succ]) | (refine sch_no rfl rfl hH ?_; simp only [Act.put, List.setIfInBounds_toArray, List.set_cons_zero, List.set_cons_succ]))
        refine sch_done ?_
        have hd7 : Below w6.heap.size w6 w6.drew := (Below.refl _ w6).drew
        have H7 := H6.below hd7
        clear hH H6
        have hnil := getFl_nil
        have C7 := fcuts_any none 0 0 [] w6.drew rfl (Nat.le_refl _) (by simp) (.inl rfl) (by omega)
        have D7 := fun W => fcuts_any none 0 0 [] W rfl (Nat.le_refl _) (by simp) (.inl rfl) (by omega)
        simp only [CutSays, hnil] at C7 D7
        have HC7 := Lib.hid C7
        have HD7 := Lib.hid D7
        clear C7 D7
        go_wp2_with fail
        refine HC7.out.mono ?_
        rintro e w8 ⟨A8, m8, c8, ok8, rfl, _, hB8⟩
        have H8 := H7.below hB8
        go_wp2_with fail
        refine (HD7.out _).mono ?_
        rintro e w9 ⟨A9, m9, c9, ok9, rfl, _, hB9⟩
        have hbel := (H8.below hB9).bel
        go_wp2
        go_ret
        exact ⟨rfl, hbel⟩
      | false =>
        have P1 := Lib.hid (fput_bad hfb.1 hfb.2 hfby hmay Af f.2.length cf w3 H3.pts)
        go_wp2_with fail
        refine P1.out.mono ?_
        rintro e w3b ⟨rfl, hB3⟩
        have H3b := H3.below hB3
        have K3b := K3.below hB3
        clear P1 H3 K3 hB3 x0 x1 y0 y1
        have y0 := K3b.c0
        have y1 := K3b.c1
        have P2 := Lib.hid (fput_bad hgb.1 hgb.2 hgby hmayg Ag g.2.length cg w3b K3b.pts)
        go_wp2_with fail
        refine P2.out.mono ?_
        rintro e w4 ⟨rfl, hB4⟩
        have H4 := H3b.below hB4
        have K4 := K3b.below hB4
        clear P2 H3b K3b hB4 y0 y1
        have z0 := H4.c0
        have z1 := H4.c1
        have J4 := H4.new' (g := ((base : Int), f.2)) H4.pts
        have H5 := H4.alloc (.cells #[.int .u32 (base : Int), .slice Af f.2.length cf] 25)
        have HP3 := Lib.hid (fput_bad (f := ((base : Int), f.2)) (by simp) (by simp only; omega) hfby hmay Af f.2.length cf _ J4.pts)
        go_wp2_with fail
        refine HP3.out.mono ?_
        rintro e w6 ⟨rfl, hB6⟩
        have H6 := H5.below hB6
        clear HP3 J4 H4 H5 z0 z1 hB6
        go_wp2_with fail
        refine sch_start [(0, true), (1, true), (2, true), (3, true), (4, true), (5, true), (6, true), (7, true), (8, true), (9, true), (10, true), (11, true), (12, true), (13, true), (14, false), (15, true), (16, true)]
          (fun W => True) (by kernel_rfl) rfl (by kernel_rfl) (fun _ _ _ _ _ h => h) trivial (fun hH => ?_)
        repeat (first | (refine sch_yes (v := ?_) rfl rfl ?_ hH ?_; rotate_left; (focus ((intro W hW; go_simp) <;> with_reducible rfl)); simp only [Act.put, List.setIfInBounds_toArray, List.set_cons_zero, List.set_cons_succ]) | (refine sch_no rfl rfl hH ?_; simp only [Act.put, List.setIfInBounds_toArray, List.set_cons_zero, List.set_cons_succ]))
        refine sch_call_no rfl rfl hH ?_
        simp only [Act.put, List.setIfInBounds_toArray, List.set_cons_zero, List.set_cons_succ]
        repeat (first | (refine sch_yes (v := ?_) rfl rfl ?_ hH ?_; rotate_left; (focus ((intro W hW; go_simp) <;> with_reducible rfl)); simp only [Act.put, List.setIfInBounds_toArray, List.set_cons_zero, List.set_cons_succ]) | (refine sch_no rfl rfl hH ?_; simp only [Act.put, List.setIfInBounds_toArray, List.set_cons_zero, List.set_cons_succ]))
        refine sch_done ?_
        have hd7 : Below w6.heap.size w6 w6.drew := (Below.refl _ w6).drew
        have H7 := H6.below hd7
        clear hH H6
        have hnil := getFl_nil
        have C7 := fcuts_any none 0 0 [] w6.drew rfl (Nat.le_refl _) (by simp) (.inl rfl) (by omega)
        have D7 := fun W => fcuts_any none 0 0 [] W rfl (Nat.le_refl _) (by simp) (.inl rfl) (by omega)
        simp only [CutSays, hnil] at C7 D7
        have HC7 := Lib.hid C7
        have HD7 := Lib.hid D7
        clear C7 D7
        go_wp2_with fail
        refine HC7.out.mono ?_
        rintro e w8 ⟨A8, m8, c8, ok8, rfl, _, hB8⟩
        have H8 := H7.below hB8
        go_wp2_with fail
        refine (HD7.out _).mono ?_
        rintro e w9 ⟨A9, m9, c9, ok9, rfl, _, hB9⟩
        have hbel := (H8.below hB9).bel
        go_wp2
        go_ret
        exact ⟨rfl, hbel⟩
  · have hor : fewB f 40 = false ∨ (fewB f 40 = true ∧ fewB g 40 = false) := by
      cases hf : fewB f 40 with
      | false => exact .inl rfl
      | true =>
        refine .inr ⟨rfl, ?_⟩
        cases hf2 : fewB g 40 with
        | false => rfl
        | true => exact absurd ⟨hf, hf2⟩ hgo
    have hbel := H3.bel
    rcases hor with hf | ⟨hf, hf2⟩
    · rw [hf]
      go_wp2
      go_ret
      exact ⟨rfl, hbel⟩
    · rw [hf, hf2]
      go_wp2
      go_ret
      exact ⟨rfl, hbel⟩
end Go.Proofs.YthhkkiegfcofjaaDoor
