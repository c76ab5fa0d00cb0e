/- CodeSwept: swept a graph has the same bytes; with a new object, to which nothing comes, too. Conditions: the table of kinds' texts, and the variable errors.errorType, are laid. -/
import Derived.Test.YtnmgdaaddfdffaaGreatDoorCoAwake
import Derived.Test.YtnmgdaaddfdffaaGreatDoorGCanon
import Derived.Test.YtnmgdaaddfdffaaGreatDoorGrNew
namespace Go.Proofs.YtnmgdaaddfdffaaGreatDoor
open Go.RowKit

theorem conv_bs (A : Option Addr) (m c : Nat) (bs : List Nat) (w : World) (hm : m = bs.length) (hr : Rd w A (u8s bs)) : (convert 29 9 (.slice A m c)).run Tryz.prog w = .ok (.string (strB bs)) w :=
  conv_str w _ _ _ Tryz.underlying29 Tryz.underlying5 Tryz.underlying9 A bs m c hm.symm hr
theorem new_same {g : Gr} {t : Int} : codeE (newG g t) = codeE g ∧ codeB (newG g t) = codeB g := by
  by_cases h : newE g t = 0
  · exact code_new h
  · rw [newG, if_neg h]; exact ⟨rfl, rfl⟩

set_option maxRecDepth 100000 in
set_option maxHeartbeats 4000000 in
theorem codeSwept_walk (w : World) (hL : Kt w ∧ Han w) (cs : Array Value) (g : Gr) (h : rGr (All w) w cs.toList g) (t : Int) (ht0 : -9223372036854775808 ≤ t) (ht1 : t ≤ 9223372036854775807) :
    Calls Tryz.prog 8 #[.agg cs, .int .i64 t] w fun e w' => e = .returned (.bool true) ∧ Below w.heap.size w w' := by
  obtain ⟨A, c, B, d, C, e, rfl, h⟩ := gr_arg h
  have hB0 : Below w.heap.size w (w.alloc (.cells #[.slice A g.1.length c, .slice B g.2.1.length d, .slice C g.2.2.length e] 28)) := (Below.refl _ w).alloc (Nat.le_refl _) _
  have p1 := Blk.new w 28 [.slice A g.1.length c, .slice B g.2.1.length d, .slice C g.2.2.length e]
  have TF := Lib.hid (fun W (hW : Below w.heap.size w W) => gfew_any A B C g.1.length c g.2.1.length d g.2.2.length e g W (gr_below hW h))
  have TM := Lib.hid (fun W (hW : Below w.heap.size w W) => gmay_any A B C g.1.length c g.2.1.length d g.2.2.length e g W (gr_below hW h))
  have TP := Lib.hid (fun W (hW : Below w.heap.size w W) => cput_any A B C g.1.length c g.2.1.length d g.2.2.length e g W (hL.1.below hW) (gr_below hW h))
  have TS := Lib.hid (fun W (hW : Below w.heap.size w W) => gsweep_any A B C g.1.length c g.2.1.length d g.2.2.length e g W (gr_below hW h))
  have TN := Lib.hid (fun hm W (hW : Below w.heap.size w W) => gnew_any A B C g.1.length c g.2.1.length d g.2.2.length e g t W (gr_below hW h) (tame_may h hm) (WalkArith.wf_i64 ⟨ht0, ht1⟩))
  have HK := Lib.hid (fun W (hW : Below w.heap.size w W) => hL.1.below hW)
  have HG := Lib.hid (fun W (hW : Below w.heap.size w W) => hL.2.below hW)
  clear h hL ht0 ht1
  have H0 := Lib.hid hB0
  clear hB0
  generalize fewG g = few at *
  generalize g.1.length = N at *
  generalize g.2.1.length = M at *
  generalize g.2.2.length = K at *
  go_enter Tryz.func8, Tryz.ntmps8
  go_wp2_with fail
  refine (codeawake_any _ (HK.out _ H0.out) (HG.out _ H0.out)).mono ?_
  rintro r w1 ⟨rfl, hB1⟩
  have H1 := Lib.hid (H0.out.trans (hB1.mono H0.out.size))
  replace p1 := p1.to hB1
  clear hB1 H0
  have c0 := p1.cell (j := 0) rfl
  have c1 := p1.cell (j := 1) rfl
  have c2 := p1.cell (j := 2) rfl
  go_wp2_with fail
  refine (TF.out _ H1.out).mono ?_
  rintro r w2 ⟨rfl, hB2⟩
  have H2 := Lib.hid (H1.out.trans (hB2.mono H1.out.size))
  replace p1 := p1.to hB2
  clear hB2 H1 c0 c1 c2 TF
  cases few
  · go_wp2
    go_ret
    exact ⟨rfl, H2.out⟩
  have c0 := p1.cell (j := 0) rfl
  have c1 := p1.cell (j := 1) rfl
  have c2 := p1.cell (j := 2) rfl
  go_wp2_with fail
  refine (TM.out _ H2.out).mono ?_
  rintro r w3 ⟨rfl, hB3⟩
  have H3 := Lib.hid (H2.out.trans (hB3.mono H2.out.size))
  replace p1 := p1.to hB3
  clear hB3 H2 c0 c1 c2 TM
  by_cases hm : mayG g = true
  rotate_left
  · replace hm : mayG g = false := by simpa using hm
    rw [hm]
    go_wp2
    go_ret
    exact ⟨rfl, H3.out⟩
  rw [hm]
  obtain ⟨hs1, hs2⟩ := code_sweep hm
  obtain ⟨hn1, hn2⟩ := new_same (g := g) (t := t)
  have HSw := Lib.hid (And.intro hs1 hs2)
  have HNw := Lib.hid (And.intro hn1 hn2)
  have TN2 := Lib.hid (TN.out hm)
  clear hs1 hs2 hn1 hn2 hm TN
  have c0 := p1.cell (j := 0) rfl
  have c1 := p1.cell (j := 1) rfl
  have c2 := p1.cell (j := 2) rfl
  go_wp2_with fail
  refine (TP.out _ H3.out).mono ?_
  rintro r w4 ⟨B4, m4, cap4, rfl, hm4, -, -, hr4, hB4⟩
  have H4 := Lib.hid (H3.out.trans (hB4.mono H3.out.size))
  replace p1 := p1.to hB4
  have R4 := Lib.hid hr4
  have M4 := Lib.hid hm4
  clear hB4 H3 c0 c1 c2 TP hr4 hm4
  have c0 := p1.cell (j := 0) rfl
  have c1 := p1.cell (j := 1) rfl
  have c2 := p1.cell (j := 2) rfl
  go_wp2_with fail
  refine (TS.out _ H4.out).mono ?_
  rintro r w5 ⟨A5, c5, B5, d5, C5, e5, rfl, h5, hB5⟩
  have H5 := Lib.hid (H4.out.trans (hB5.mono H4.out.size))
  replace p1 := p1.to hB5
  have T5 := Lib.hid (cput_any _ _ _ _ _ _ _ _ _ (sweepG g) _ (HK.out _ H5.out) h5)
  have HB5 := Lib.hid hB5
  rw [HSw.out.1, HSw.out.2] at T5
  clear hB5 H4 c0 c1 c2 TS h5
  go_wp2_with fail
  refine T5.out.mono ?_
  rintro r w6 ⟨B6, m6, cap6, rfl, hm6, -, -, hr6, hB6⟩
  have H6 := Lib.hid (H5.out.trans (hB6.mono H5.out.size))
  replace p1 := p1.to hB6
  have HB46 := Lib.hid (HB5.out.trans (hB6.mono HB5.out.size))
  have R6 := Lib.hid hr6
  have M6 := Lib.hid hm6
  clear hB6 H5 hr6 hm6 T5 HB5
  have c0 := p1.cell (j := 0) rfl
  have c1 := p1.cell (j := 1) rfl
  have c2 := p1.cell (j := 2) rfl
  go_wp2_with fail
  refine (TN2.out _ H6.out).mono ?_
  rintro r w7 ⟨A7, c7, B7, d7, C7, e7, rfl, h7, hB7⟩
  have hB8 := hB7.alloc (o := .cells #[.slice A7 (newG g t).1.length c7, .slice B7 (newG g t).2.1.length d7, .slice C7 (newG g t).2.2.length e7] 28) hB7.size
  have p8 := Blk.new w7 28 [.slice A7 (newG g t).1.length c7, .slice B7 (newG g t).2.1.length d7, .slice C7 (newG g t).2.2.length e7]
  have H8 := Lib.hid (H6.out.trans (hB8.mono H6.out.size))
  have T8 := Lib.hid (cput_any _ _ _ _ _ _ _ _ _ (newG g t) _ (HK.out _ H8.out) (gr_below ((Below.refl _ w7).alloc (Nat.le_refl _) (.cells #[.slice A7 (newG g t).1.length c7, .slice B7 (newG g t).2.1.length d7, .slice C7 (newG g t).2.2.length e7] 28)) h7))
  rw [HNw.out.1, HNw.out.2] at T8
  have HB48 := Lib.hid (HB46.out.trans (hB8.mono HB46.out.size))
  have HB68 := Lib.hid hB8
  have a0 := p8.cell (j := 0) rfl
  have a1 := p8.cell (j := 1) rfl
  have a2 := p8.cell (j := 2) rfl
  clear hB7 hB8 H6 c0 c1 c2 TN2 h7 p8 HB46 p1
  generalize (newG g t).1.length = N7 at *
  generalize (newG g t).2.1.length = M7 at *
  generalize (newG g t).2.2.length = K7 at *
  go_wp2_with fail
  generalize w7.alloc (.cells #[.slice A7 N7 c7, .slice B7 M7 d7, .slice C7 K7 e7] 28) = w8 at *
  refine T8.out.mono ?_
  rintro r w9 ⟨B9, m9, cap9, rfl, hm9, -, -, hr9, hB9⟩
  have H9 := Lib.hid (H8.out.trans (hB9.mono H8.out.size))
  have v4 := conv_bs B4 m4 cap4 (codeB g) w9 M4.out ((R4.out.below HB48.out).below (hB9.mono (Nat.le_refl _)))
  have v6 := conv_bs B6 m6 cap6 (codeB g) w9 M6.out (R6.out.below (HB68.out.trans (hB9.mono HB68.out.size)))
  have v9 := conv_bs B9 m9 cap9 (codeB g) w9 hm9 hr9
  clear hB9 H8 hr9 hm9 T8 a0 a1 a2 HB48 HB68
  generalize newI g t = ni at *
  generalize codeE g = E at *
  generalize strB (codeB g) = sb at *
  by_cases hx : newE g t = 0
  · rw [hx]
    clear hx
    go_wp2
    go_ret
    exact ⟨rfl, H9.out⟩
  · have hx2 : (newE g t != 0) = true := by simpa using hx
    clear hx
    generalize newE g t = x at *
    go_wp2
    go_ret
    exact ⟨rfl, H9.out⟩
end Go.Proofs.YtnmgdaaddfdffaaGreatDoor
