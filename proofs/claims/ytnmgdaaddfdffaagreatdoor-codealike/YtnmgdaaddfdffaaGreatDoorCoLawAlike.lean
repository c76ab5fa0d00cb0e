/- CodeAlike: graphs that are alike have the same bytes, and the same sum; others have not the same bytes. Conditions: the table of kinds' texts, and the variable errors.errorType, are laid. -/
import Derived.Test.YtnmgdaaddfdffaaGreatDoorCoLawSwept
import Derived.Test.YtnmgdaaddfdffaaGreatDoorGCanon
namespace Go.Proofs.YtnmgdaaddfdffaaGreatDoor
open Go.RowKit

theorem iso_same {g h : Gr} (hi : isoG g h = true) : codeE g = codeE h := by
  rw [isoG, Bool.and_eq_true, Bool.and_eq_true, decide_eq_true_eq] at hi
  exact (code_same hi.1.1 hi.1.2 hi.2).1
theorem str_ne {a b : List Nat} (ha : ∀ x ∈ a, x < 256) (hb : ∀ x ∈ b, x < 256) (h : a ≠ b) : ((strB a).toList == (strB b).toList) = false := by
  rw [str_beq]
  refine decide_eq_false fun e => h ?_
  rwa [byt_strB ha, byt_strB hb] at e

set_option maxRecDepth 100000 in
set_option maxHeartbeats 4000000 in
theorem codeAlike_walk (w : World) (hL : Kt w ∧ Han w) (cs : Array Value) (g : Gr) (h : rGr (All w) w cs.toList g) (cs1 : Array Value) (g1 : Gr) (hh : rGr (All w) w cs1.toList g1) :
    Calls Tryz.prog 5 #[.agg cs, .agg cs1] w fun e w' => e = .returned (.bool true) ∧ Below w.heap.size w w' := by
  obtain ⟨A, c, B, d, C, e, rfl, h⟩ := gr_arg h
  obtain ⟨A1, c1, B1, d1, C1, e1, rfl, hh⟩ := gr_arg hh
  have hB0 : Below w.heap.size w ((w.alloc (.cells #[.slice A g.1.length c, .slice B g.2.1.length d, .slice C g.2.2.length e] 28)).alloc (.cells #[.slice A1 g1.1.length c1, .slice B1 g1.2.1.length d1, .slice C1 g1.2.2.length e1] 28)) := ((Below.refl _ w).alloc (Nat.le_refl _) _).alloc (by simp) _
  obtain ⟨pa, pb⟩ := blk_two w 28 28 [.slice A g.1.length c, .slice B g.2.1.length d, .slice C g.2.2.length e] [.slice A1 g1.1.length c1, .slice B1 g1.2.1.length d1, .slice C1 g1.2.2.length e1]
  have Fa := Lib.hid (fun W (hW : Below w.heap.size w W) => gfew_any A B C g.1.length c g.2.1.length d g.2.2.length e g W (gr_below hW h))
  have Fb := Lib.hid (fun W (hW : Below w.heap.size w W) => gfew_any A1 B1 C1 g1.1.length c1 g1.2.1.length d1 g1.2.2.length e1 g1 W (gr_below hW hh))
  have Pa := Lib.hid (fun W (hW : Below w.heap.size w W) => cput_any A B C g.1.length c g.2.1.length d g.2.2.length e g W (hL.1.below hW) (gr_below hW h))
  have Pb := Lib.hid (fun W (hW : Below w.heap.size w W) => cput_any A1 B1 C1 g1.1.length c1 g1.2.1.length d1 g1.2.2.length e1 g1 W (hL.1.below hW) (gr_below hW hh))
  have Sa := Lib.hid (fun W (hW : Below w.heap.size w W) => csum_any A B C g.1.length c g.2.1.length d g.2.2.length e g W (hL.1.below hW) (gr_below hW h))
  have Sb := Lib.hid (fun W (hW : Below w.heap.size w W) => csum_any A1 B1 C1 g1.1.length c1 g1.2.1.length d1 g1.2.2.length e1 g1 W (hL.1.below hW) (gr_below hW hh))
  have TI := Lib.hid (fun W (hW : Below w.heap.size w W) => iso_any A B C g.1.length c g.2.1.length d g.2.2.length e A1 B1 C1 g1.1.length c1 g1.2.1.length d1 g1.2.2.length e1 g g1 W (gr_below hW h) (gr_below hW hh))
  have HK := Lib.hid (fun W (hW : Below w.heap.size w W) => hL.1.below hW)
  have HG := Lib.hid (fun W (hW : Below w.heap.size w W) => hL.2.below hW)
  have Oa := Lib.hid (gr_ok h)
  have Ob := Lib.hid (gr_ok hh)
  have H0 := Lib.hid hB0
  clear h hh hL hB0
  generalize fewG g = fa at *
  generalize fewG g1 = fb at *
  generalize g.1.length = N at *
  generalize g.2.1.length = M at *
  generalize g.2.2.length = K at *
  generalize g1.1.length = N1 at *
  generalize g1.2.1.length = M1 at *
  generalize g1.2.2.length = K1 at *
  go_enter Tryz.func5, Tryz.ntmps5
  go_wp2_with fail
  refine (codeawake_any _ (HK.out _ H0.out) (HG.out _ H0.out)).mono ?_
  rintro r w1 ⟨rfl, hB1⟩
  have H1 := Lib.hid (H0.out.trans (hB1.mono H0.out.size))
  replace pa := pa.to hB1
  replace pb := pb.to hB1
  clear hB1 H0
  have a0 := pa.cell (j := 0) rfl
  have a1 := pa.cell (j := 1) rfl
  have a2 := pa.cell (j := 2) rfl
  go_wp2_with fail
  refine (Fa.out _ H1.out).mono ?_
  rintro r w2 ⟨rfl, hB2⟩
  have H2 := Lib.hid (H1.out.trans (hB2.mono H1.out.size))
  replace pa := pa.to hB2
  replace pb := pb.to hB2
  clear hB2 H1 a0 a1 a2 Fa
  have b0 := pb.cell (j := 0) rfl
  have b1 := pb.cell (j := 1) rfl
  have b2 := pb.cell (j := 2) rfl
  go_wp2_with fail
  refine (Fb.out _ H2.out).mono ?_
  rintro r w3 ⟨rfl, hB3⟩
  have H3 := Lib.hid (H2.out.trans (hB3.mono H2.out.size))
  replace pa := pa.to hB3
  replace pb := pb.to hB3
  clear hB3 H2 b0 b1 b2 Fb
  cases fa
  · go_wp2
    go_ret
    exact ⟨rfl, H3.out⟩
  cases fb
  · go_wp2
    go_ret
    exact ⟨rfl, H3.out⟩
  have a0 := pa.cell (j := 0) rfl
  have a1 := pa.cell (j := 1) rfl
  have a2 := pa.cell (j := 2) rfl
  go_wp2_with fail
  refine (Pa.out _ H3.out).mono ?_
  rintro r w4 ⟨B4, m4, cap4, rfl, hm4, -, -, hr4, hB4⟩
  have H4 := Lib.hid (H3.out.trans (hB4.mono H3.out.size))
  have R4 := Lib.hid hr4
  have M4 := Lib.hid hm4
  replace pa := pa.to hB4
  replace pb := pb.to hB4
  clear hB4 H3 a0 a1 a2 Pa hr4 hm4
  have b0 := pb.cell (j := 0) rfl
  have b1 := pb.cell (j := 1) rfl
  have b2 := pb.cell (j := 2) rfl
  go_wp2_with fail
  refine (Pb.out _ H4.out).mono ?_
  rintro r w5 ⟨B5, m5, cap5, rfl, hm5, -, -, hr5, hB5⟩
  have H5 := Lib.hid (H4.out.trans (hB5.mono H4.out.size))
  have HB45 := Lib.hid hB5
  have R5 := Lib.hid hr5
  have M5 := Lib.hid hm5
  replace pa := pa.to hB5
  replace pb := pb.to hB5
  clear hB5 H4 b0 b1 b2 Pb hr5 hm5
  have a0 := pa.cell (j := 0) rfl
  have a1 := pa.cell (j := 1) rfl
  have a2 := pa.cell (j := 2) rfl
  go_wp2_with fail
  refine (Sa.out _ H5.out).mono ?_
  rintro r w6 ⟨rfl, hB6⟩
  have H6 := Lib.hid (H5.out.trans (hB6.mono H5.out.size))
  have HB46 := Lib.hid (HB45.out.trans (hB6.mono HB45.out.size))
  have HB56 := Lib.hid hB6
  replace pa := pa.to hB6
  replace pb := pb.to hB6
  clear hB6 H5 a0 a1 a2 Sa HB45
  have b0 := pb.cell (j := 0) rfl
  have b1 := pb.cell (j := 1) rfl
  have b2 := pb.cell (j := 2) rfl
  go_wp2_with fail
  refine (Sb.out _ H6.out).mono ?_
  rintro r w7 ⟨rfl, hB7⟩
  have H7 := Lib.hid (H6.out.trans (hB7.mono H6.out.size))
  have HB47 := Lib.hid (HB46.out.trans (hB7.mono HB46.out.size))
  have HB57 := Lib.hid (HB56.out.trans (hB7.mono HB56.out.size))
  replace pa := pa.to hB7
  replace pb := pb.to hB7
  have PA := Lib.hid pa
  have PB := Lib.hid pb
  clear hB7 H6 b0 b1 b2 Sb HB46 HB56
  by_cases h2 : codeE g = 0 ∧ codeE g1 = 0
  rotate_left
  · have a0 := pa.cell (j := 0) rfl
    have a1 := pa.cell (j := 1) rfl
    have a2 := pa.cell (j := 2) rfl
    have b0 := pb.cell (j := 0) rfl
    have b1 := pb.cell (j := 1) rfl
    have b2 := pb.cell (j := 2) rfl
    have hor : (codeE g != 0) = true ∨ ((codeE g != 0) = false ∧ (codeE g1 != 0) = true) := by
      by_cases h3 : codeE g = 0
      · exact .inr ⟨by simpa using h3, by have : codeE g1 ≠ 0 := fun h4 => h2 ⟨h3, h4⟩; simpa using this⟩
      · exact .inl (by simpa using h3)
    have Hsm := Lib.hid (fun hi => iso_same (g := g) (h := g1) hi)
    have TI7 := Lib.hid (TI.out _ H7.out)
    clear h2 pa pb TI
    generalize codeE g = E at *
    generalize codeE g1 = E1 at *
    generalize isoG g g1 = iso at *
    rcases hor with hx | ⟨hx, hy⟩
    all_goals
      go_wp2_with fail
      refine TI7.out.mono ?_
      rintro r w8 ⟨rfl, hB8⟩
      have H8 := Lib.hid (H7.out.trans (hB8.mono H7.out.size))
      clear hB8
      cases iso
      · go_wp2
        go_ret
        exact ⟨rfl, H8.out⟩
      · have hEE := Hsm.out rfl
        subst hEE
        go_wp2
        go_ret
        exact ⟨rfl, H8.out⟩
  obtain ⟨he, he1⟩ := h2
  rw [he, he1]
  have hdec := code_iso Oa.out Ob.out he he1
  have TI2 := Lib.hid TI.out
  clear TI
  have HSF := Lib.hid (fun W (hW : Below w7.heap.size w7 W) => And.intro ((PA.out.to hW).cell (j := 0) rfl) (And.intro ((PA.out.to hW).cell (j := 1) rfl) (And.intro ((PA.out.to hW).cell (j := 2) rfl) (And.intro ((PB.out.to hW).cell (j := 0) rfl) (And.intro ((PB.out.to hW).cell (j := 1) rfl) (And.intro ((PB.out.to hW).cell (j := 2) rfl)
    (And.intro (conv_bs B4 m4 cap4 (codeB g) W M4.out (R4.out.below (HB47.out.trans (hW.mono HB47.out.size)))) (conv_bs B5 m5 cap5 (codeB g1) W M5.out (R5.out.below (HB57.out.trans (hW.mono HB57.out.size)))))))))))
  by_cases hb : codeB g = codeB g1
  · have hcan := code_inj Oa.out Ob.out he he1 hb
    have hss := code_sameS (codeE_may he) (codeE_may he1) hcan
    rw [decide_eq_true hb] at hdec
    rw [← hdec] at TI2
    rw [← hb] at HSF
    rw [← hss]
    clear hdec hss hcan hb he he1 pa pb
    generalize strB (codeB g) = sa at *
    generalize codeS g = sm at *
    go_wp2_with fail
    refine sch_start [(0, true), (1, true), (2, true), (3, true), (4, true), (5, true), (6, true), (7, false), (8, true), (9, true), (10, true), (11, true), (12, true), (13, true), (14, true), (15, true), (16, true), (17, true), (18, true), (19, true), (20, true), (21, true)] (fun W => Below w7.heap.size w7 W) (by kernel_rfl) rfl (by kernel_rfl) (fun _ _ _ _ _ h => h) ((Below.refl _ w7).drew) (fun hH => ?_)
    repeat (first | (refine sch_yes (v := ?_) rfl rfl ?_ hH ?_; rotate_left; (focus ((intro W hW; obtain ⟨a0, a1, a2, a3, a4, a5, a6, a7⟩ := HSF.out W hW; go_simp) <;> with_reducible rfl)); simp only [Act.put, List.setIfInBounds_toArray, List.set_cons_zero, List.set_cons_succ]) | (refine sch_no rfl rfl hH ?_; simp only [Act.put, List.setIfInBounds_toArray, List.set_cons_zero, List.set_cons_succ]))
    refine sch_call rfl rfl (fun K' hK => ?_)
    go_wp2_with (go_at_call 21; refine (TI2.out _ (H7.out.trans (hH.mono H7.out.size))).mono ?_; rintro e w8 ⟨rfl, hB8⟩)
    have hD := hH.trans (hB8.mono hH.size)
    refine hK.out _ _ hD ?_
    clear hK hH hB8
    have hH := hD
    clear hD
    repeat (first | (refine sch_yes (v := ?_) rfl rfl ?_ hH ?_; rotate_left; (focus ((intro W hW; obtain ⟨a0, a1, a2, a3, a4, a5, a6, a7⟩ := HSF.out W hW; go_simp) <;> with_reducible rfl)); simp only [Act.put, List.setIfInBounds_toArray, List.set_cons_zero, List.set_cons_succ]) | (refine sch_no rfl rfl hH ?_; simp only [Act.put, List.setIfInBounds_toArray, List.set_cons_zero, List.set_cons_succ]))
    refine sch_done ?_
    go_wp2
    go_ret
    exact ⟨rfl, H7.out.trans (hH.mono H7.out.size)⟩
  · have hst := str_ne (codeB_byte Oa.out) (codeB_byte Ob.out) hb
    have hst2 : ((strB (codeB g)).toList != (strB (codeB g1)).toList) = true := by rw [bne, hst]; rfl
    rw [decide_eq_false hb] at hdec
    rw [← hdec] at TI2
    clear hdec hb he he1 pa pb
    generalize strB (codeB g) = sa at *
    generalize strB (codeB g1) = sb at *
    generalize codeS g = sm at *
    generalize codeS g1 = sm1 at *
    go_wp2_with fail
    refine sch_start [(0, true), (1, true), (2, true), (3, true), (4, true), (5, true), (6, true), (7, false), (8, true), (9, true), (10, true), (11, true), (12, true), (13, true), (14, true), (15, true), (16, true), (17, true), (18, true), (19, true), (20, true), (21, true)] (fun W => Below w7.heap.size w7 W) (by kernel_rfl) rfl (by kernel_rfl) (fun _ _ _ _ _ h => h) ((Below.refl _ w7).drew) (fun hH => ?_)
    repeat (first | (refine sch_yes (v := ?_) rfl rfl ?_ hH ?_; rotate_left; (focus ((intro W hW; obtain ⟨a0, a1, a2, a3, a4, a5, a6, a7⟩ := HSF.out W hW; go_simp) <;> with_reducible rfl)); simp only [Act.put, List.setIfInBounds_toArray, List.set_cons_zero, List.set_cons_succ]) | (refine sch_no rfl rfl hH ?_; simp only [Act.put, List.setIfInBounds_toArray, List.set_cons_zero, List.set_cons_succ]))
    refine sch_call rfl rfl (fun K' hK => ?_)
    go_wp2_with (go_at_call 21; refine (TI2.out _ (H7.out.trans (hH.mono H7.out.size))).mono ?_; rintro e w8 ⟨rfl, hB8⟩)
    have hD := hH.trans (hB8.mono hH.size)
    refine hK.out _ _ hD ?_
    clear hK hH hB8
    have hH := hD
    clear hD
    repeat (first | (refine sch_yes (v := ?_) rfl rfl ?_ hH ?_; rotate_left; (focus ((intro W hW; obtain ⟨a0, a1, a2, a3, a4, a5, a6, a7⟩ := HSF.out W hW; go_simp) <;> with_reducible rfl)); simp only [Act.put, List.setIfInBounds_toArray, List.set_cons_zero, List.set_cons_succ]) | (refine sch_no rfl rfl hH ?_; simp only [Act.put, List.setIfInBounds_toArray, List.set_cons_zero, List.set_cons_succ]))
    refine sch_done ?_
    go_wp2
    go_ret
    exact ⟨rfl, H7.out.trans (hH.mono H7.out.size)⟩
end Go.Proofs.YtnmgdaaddfdffaaGreatDoor
