/- The contracts of the laws' awake and Few. No condition. -/
import Derived.Test.YtembafogbfcajaaGrTwo
import Derived.Test.YtembafogbfcajaaGrNew
import Derived.Test.YtembafogbfcajaaGrSame
namespace Go.Proofs.Ytembafogbfcajaa
open Go.RowKit

def twoN : Gr := (oneS, [(0, 0, [(7, [], 0), (0, [], -1)]), (5, 0, [(8, [], 0), (0, [], 0)]), (6, 0, [(0, [], 0), (0, [], -1)])], [0])
theorem two_new : newE twoG 0 = 0 ∧ newG twoG 0 = twoN ∧ newI twoG 0 = 6 := by
  have h : newE twoG 0 = 0 := by
    rw [newE, if_pos two_may]; decide
  refine ⟨h, ?_, ?_⟩
  · rw [newG, if_pos h]; decide
  · rw [newI, if_pos h]; decide
theorem twoN_find : findG twoN.2.1 5 = 1 := by decide
theorem two_tame : tameG twoG := by
  refine ⟨⟨by decide, ?_⟩, ⟨by decide, ?_⟩, by decide⟩
  · intro t ht
    simp [twoG, oneS] at ht
    subst ht
    simp
  · intro o ho
    simp [twoG] at ho
    rcases ho with rfl | rfl <;> simp

set_option maxRecDepth 100000 in
set_option maxHeartbeats 4000000 in
theorem gawake_any (w : World) : Calls Try.prog 10 #[] w fun e w' => e = .returned (.bool true) ∧ Below w.heap.size w w' := by
  have TR := Lib.hid (fun A B C c W h => greach_any A B C 1 c 2 2 1 1 twoG W h)
  rw [two_reach] at TR
  have TS := Lib.hid (fun A B C c W h => gsweep_any A B C 1 c 2 2 1 1 twoG W h)
  rw [two_sweep] at TS
  have TN := Lib.hid (fun A B C c W h => gnew_any A B C 1 c 2 2 1 1 twoG 0 W h two_tame (by decide))
  rw [two_new.1, two_new.2.1, two_new.2.2] at TN
  have TM := Lib.hid (fun A B C c W h => gmay_any A B C 1 c 2 2 1 1 twoG W h)
  rw [two_may] at TM
  have TF := Lib.hid (fun A B C c d e W h => gfind_any A B C 1 c 3 d 1 e twoN 5 W h)
  rw [twoN_find] at TF
  have TE := Lib.hid (fun A B C c d e W h => gsame_any A B C 1 c 3 d 1 e A B C 1 c 3 d 1 e twoN twoN W h h)
  rw [decide_eq_true rfl] at TE
  go_enter Try.func10, Try.ntmps10
  go_wp2_with fail
  refine (two_any _).mono ?_
  rintro e w1 ⟨A1, c1, B1, C1, rfl, h1, hB1⟩
  go_wp2_with fail
  refine (TR.out A1 B1 C1 c1 w1 h1).mono ?_
  rintro e w2 ⟨AR, cR, rfl, hR, -, hB2⟩
  have H2 := Lib.hid (hB1.trans (hB2.mono hB1.size))
  clear hB1 hB2 h1 TR
  go_wp2_with fail
  refine (two_any _).mono ?_
  rintro e w3 ⟨A3, c3, B3, C3, rfl, h3, hB3⟩
  go_wp2_with fail
  refine (TS.out A3 B3 C3 c3 w3 h3).mono ?_
  rintro e w4 ⟨A4, c4, B4, d4, C4, e4, rfl, -, hB4⟩
  have hB24 := hB3.trans (hB4.mono hB3.size)
  have H4 := Lib.hid (H2.out.trans (hB24.mono H2.out.size))
  replace hR := own_below hR hB24
  have pS := Blk.new w4 28 [.slice A4 1 c4, .slice B4 1 d4, .slice C4 1 e4]
  have hB5 : Below w4.heap.size w4 (w4.alloc (.cells #[.slice A4 1 c4, .slice B4 1 d4, .slice C4 1 e4] 28)) := (Below.refl _ w4).alloc (Nat.le_refl _) _
  have H5 := Lib.hid (H4.out.trans (hB5.mono H4.out.size))
  replace hR := own_below hR hB5
  clear hB3 hB4 hB24 h3 TS H2 H4
  have HRr := Lib.hid hR
  clear hR
  have hl1 : ([((0, 0, [(7, [], 0), (0, [], -1)]) : Ob)] : List Ob).length = 1 := rfl
  go_wp2_with fail
  refine (two_any _).mono ?_
  rintro e w6 ⟨A6, c6, B6, C6, rfl, h6, hB6⟩
  go_wp2_with fail
  refine (TN.out A6 B6 C6 c6 w6 h6).mono ?_
  rintro e w7 ⟨A7, c7, B7, d7, C7, e7, rfl, h7, hB7⟩
  have hB57 := hB6.trans (hB7.mono hB6.size)
  have hB8 : Below w7.heap.size w7 (w7.alloc (.cells #[.slice A7 1 c7, .slice B7 3 d7, .slice C7 1 e7] 28)) := (Below.refl _ w7).alloc (Nat.le_refl _) _
  have pN := Blk.new w7 28 [.slice A7 1 c7, .slice B7 3 d7, .slice C7 1 e7]
  have hB58 := hB57.trans (hB8.mono hB57.size)
  have H8 := Lib.hid (H5.out.trans (hB58.mono H5.out.size))
  replace pS := pS.to hB58
  have HR8 := Lib.hid (own_below HRr.out hB58)
  have h8 := gr_below hB8 h7
  clear hB6 hB7 hB57 hB58 h6 h7 HRr H5 TN hB5
  go_wp2_with fail
  refine (two_any _).mono ?_
  rintro e w9 ⟨A9, c9, B9, C9, rfl, h9, hB9⟩
  go_wp2_with fail
  refine (TM.out A9 B9 C9 c9 w9 h9).mono ?_
  rintro e w10 ⟨rfl, hB10⟩
  have hB810 := hB9.trans (hB10.mono hB9.size)
  have H10 := Lib.hid (H8.out.trans (hB810.mono H8.out.size))
  replace pS := pS.to hB810
  replace pN := pN.to hB810
  obtain ⟨gR, capR, hvR, -, -, -, hcR⟩ := own_open (own_below HR8.out hB810) (by decide)
  injection hvR with hvR1 _ hvR2
  subst hvR1 hvR2
  have cR0 := hcR 0 (.int .i64 0) rfl
  have s1 := pS.cell (j := 1) rfl
  have n0 := pN.cell (j := 0) rfl
  have n1 := pN.cell (j := 1) rfl
  have n2 := pN.cell (j := 2) rfl
  have h10 := gr_below hB810 h8
  clear hB9 hB10 hB810 h9 HR8 H8 TM h8 hcR
  go_wp2_with fail
  refine (TF.out A7 B7 C7 c7 d7 e7 w10 h10).mono ?_
  rintro e w11 ⟨rfl, hB11⟩
  have H11 := Lib.hid (H10.out.trans (hB11.mono H10.out.size))
  replace pN := pN.to hB11
  have h11 := gr_below hB11 h10
  clear n0 n1 n2 s1 cR0 h10 hB11 H10
  have n0 := pN.cell (j := 0) rfl
  have n1 := pN.cell (j := 1) rfl
  have n2 := pN.cell (j := 2) rfl
  go_wp2_with fail
  refine (TE.out A7 B7 C7 c7 d7 e7 w11 h11).mono ?_
  rintro e w12 ⟨rfl, hB12⟩
  go_wp2
  go_ret
  exact ⟨rfl, H11.out.trans (hB12.mono H11.out.size)⟩

/-- At most 12 objects of 10 values, 10 types of 10 fields, 10 roots. -/
def fewG (g : Gr) : Bool := fewS g.1 10 && decide (g.2.1.length ≤ 12) && decide (g.2.2.length ≤ 10) && g.2.1.all fun o => decide (o.2.2.length ≤ 10)

set_option maxRecDepth 100000 in
set_option maxHeartbeats 2000000 in
theorem gfew_any (A B C : Option Addr) (N c M d K e : Nat) (g : Gr) (w : World) (h : rGr (All w) w [.slice A N c, .slice B M d, .slice C K e] g) : Calls Try.prog 11 #[.agg #[.slice A N c, .slice B M d, .slice C K e]] w fun e w' => e = .returned (.bool (fewG g)) ∧ Below w.heap.size w w' := by
  obtain ⟨hM, hMd, hdm⟩ := slice_len (rGr_open h).2.1
  obtain ⟨hK, hKe, hem⟩ := slice_len (rGr_open h).2.2
  simp only [maxLen] at hdm hem
  have hB0 : Below w.heap.size w (w.alloc (.cells #[.slice A N c, .slice B M d, .slice C K e] 28)) := (Below.refl _ w).alloc (Nat.le_refl _) _
  have p1 := Blk.new w 28 [.slice A N c, .slice B M d, .slice C K e]
  have T1 := Lib.hid (sfew_any A N c g.1 10 _ (sch_below hB0 (rGr_open h).1))
  have Hv : Hid (fewG g = (fewS g.1 10 && decide (g.2.1.length ≤ 12) && decide (g.2.2.length ≤ 10) && g.2.1.all fun o => decide (o.2.2.length ≤ 10))) := Lib.hid rfl
  rw [hM, hK] at Hv
  have HB0 := Lib.hid hB0
  have Hg := Lib.hid (fun W (hW : Below w.heap.size w W) => (rGr_open (gr_below hW h)).2.1)
  clear hB0 h
  generalize fewG g = r at *
  generalize fewS g.1 10 = m1 at *
  go_enter Try.func11, Try.ntmps11
  go_wp2_with fail
  refine T1.out.mono ?_
  rintro e w1 ⟨rfl, hB1⟩
  have H1 := Lib.hid (HB0.out.trans (hB1.mono HB0.out.size))
  replace p1 := p1.to hB1
  clear hB1 HB0 T1
  cases m1
  · go_wp2
    go_ret
    exact ⟨by rw [Hv.out]; rfl, H1.out⟩
  have c1 := p1.cell (j := 1) rfl
  have c2 := p1.cell (j := 2) rfl
  by_cases h12 : M ≤ 12
  · have h12' : decide ((12 : Int) < (M : Int)) = false := by simp; omega
    by_cases h10 : K ≤ 10
    · have h10' : decide ((10 : Int) < (K : Int)) = false := by simp; omega
      have Hv2 : Hid (r = (g.2.1.drop 0).all fun o => decide (o.2.2.length ≤ 10)) := Lib.hid (by rw [Hv.out, decide_eq_true h12, decide_eq_true h10, List.drop_zero]; rfl)
      clear Hv
      go_wp2
      go_loopw [4] (fun iv w' => ∃ i : Nat, i ≤ M ∧ iv = .int .i64 (i : Int) ∧ w' = w1 ∧ Hid (r = (g.2.1.drop i).all fun o => decide (o.2.2.length ≤ 10))) (fun iv _ => M - (intOf iv).toNat)
      case atStart => exact ⟨0, by omega, rfl, rfl, Hv2⟩
      case round =>
        rename_i iv wr
        obtain ⟨i, hi, rfl, rfl, hr⟩ := hrel
        clear Hv2
        by_cases hin : i < M
        · obtain ⟨o, hoi⟩ : ∃ o, g.2.1[i]? = some o := ⟨_, List.getElem?_eq_getElem (by omega)⟩
          obtain ⟨b, off, A2, c2', rfl, hb, -, -, x2, -, -, -⟩ := ob_at (Hg.out _ H1.out) hoi
          have hil : (i : Int) < (M : Int) := by omega
          have hi0 : (0 : Int) ≤ (i : Int) := by omega
          have hr' := hr.out
          rw [all_at hoi] at hr'
          have Hr := Lib.hid hr'
          clear hr hr' hoi
          generalize o.2.2.length = vl at *
          by_cases hv : vl ≤ 10
          · have hv' : decide ((10 : Int) < (vl : Int)) = false := by simp; omega
            rw [decide_eq_true hv, Bool.true_and] at Hr
            clear hv
            go_wp2
            go_roundw
            case rel => exact ⟨i + 1, by omega, by go_num, by trivial, Hr⟩
            case measure => simp [intOf]; omega
          · have hv' : decide ((10 : Int) < (vl : Int)) = true := by simp; omega
            rw [decide_eq_false hv, Bool.false_and] at Hr
            clear hv
            go_wp2
            go_ret
            exact ⟨by rw [Hr.out]; rfl, H1.out⟩
        · obtain rfl : i = M := by omega
          have hr' := hr.out
          rw [all_end (by omega)] at hr'
          clear hr
          go_wp2
          go_ret
          exact ⟨by rw [hr']; rfl, H1.out⟩
    · have h10' : decide ((10 : Int) < (K : Int)) = true := by simp; omega
      rw [decide_eq_false h10, Bool.and_false, Bool.false_and] at Hv
      clear h10
      go_wp2
      go_ret
      exact ⟨by rw [Hv.out]; rfl, H1.out⟩
  · have h12' : decide ((12 : Int) < (M : Int)) = true := by simp; omega
    rw [decide_eq_false h12, Bool.and_false, Bool.false_and, Bool.false_and] at Hv
    clear h12
    go_wp2
    go_ret
    exact ⟨by rw [Hv.out]; rfl, H1.out⟩
end Go.Proofs.Ytembafogbfcajaa
