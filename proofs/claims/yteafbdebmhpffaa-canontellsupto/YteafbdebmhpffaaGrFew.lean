/- The contract of the laws' Few. No condition. -/
import Derived.Test.YteafbdebmhpffaaGrSweepAll
import Derived.Test.YteafbdebmhpffaaScOne
namespace Go.Proofs.Yteafbdebmhpffaa
open Go.RowKit

/-- At most 12 objects of 10 values, 10 types of 10 fields, 10 roots. -/
def fewG (g : Gr) : Bool := fewS g.1 10 && decide (g.2.1.length ≤ 12) && decide (g.2.2.length ≤ 10) && g.2.1.all fun o => decide (o.2.2.length ≤ 10)

set_option maxRecDepth 100000 in
set_option maxHeartbeats 2000000 in
theorem gfew_any (A B C : Option Addr) (N c M d K e : Nat) (g : Gr) (w : World) (h : rGr (All w) w [.slice A N c, .slice B M d, .slice C K e] g) : Calls Try.prog 11 #[.agg #[.slice A N c, .slice B M d, .slice C K e]] w fun e w' => e = .returned (.bool (fewG g)) ∧ Below w.heap.size w w' := by
  obtain ⟨hM, hMd, hdm⟩ := slice_len (rGr_open h).2.1
  obtain ⟨hK, hKe, hem⟩ := slice_len (rGr_open h).2.2
  simp only [maxLen] at hdm hem
  have hB0 : Below w.heap.size w (w.alloc (.cells #[.slice A N c, .slice B M d, .slice C K e] 28)) := (Below.refl _ w).alloc (Nat.le_refl _) _
  have p1 := Blk.new w 28 [.slice A N c, .slice B M d, .slice C K e]
  have T1 := Lib.hid (sfew_any A N c g.1 10 _ (sch_below hB0 (rGr_open h).1))
  have Hv : Hid (fewG g = (fewS g.1 10 && decide (g.2.1.length ≤ 12) && decide (g.2.2.length ≤ 10) && g.2.1.all fun o => decide (o.2.2.length ≤ 10))) := Lib.hid rfl
  rw [hM, hK] at Hv
  have HB0 := Lib.hid hB0
  have Hg := Lib.hid (fun W (hW : Below w.heap.size w W) => (rGr_open (gr_below hW h)).2.1)
  clear hB0 h
  generalize fewG g = r at *
  generalize fewS g.1 10 = m1 at *
  go_enter Try.func11, Try.ntmps11
  go_wp2_with fail
  refine T1.out.mono ?_
  rintro e w1 ⟨rfl, hB1⟩
  have H1 := Lib.hid (HB0.out.trans (hB1.mono HB0.out.size))
  replace p1 := p1.to hB1
  clear hB1 HB0 T1
  cases m1
  · go_wp2
    go_ret
    exact ⟨by rw [Hv.out]; rfl, H1.out⟩
  have c1 := p1.cell (j := 1) rfl
  have c2 := p1.cell (j := 2) rfl
  by_cases h12 : M ≤ 12
  · have h12' : decide ((12 : Int) < (M : Int)) = false := by simp; omega
    by_cases h10 : K ≤ 10
    · have h10' : decide ((10 : Int) < (K : Int)) = false := by simp; omega
      have Hv2 : Hid (r = (g.2.1.drop 0).all fun o => decide (o.2.2.length ≤ 10)) := Lib.hid (by rw [Hv.out, decide_eq_true h12, decide_eq_true h10, List.drop_zero]; rfl)
      clear Hv
      go_wp2
      go_loopw [4] (fun iv w' => ∃ i : Nat, i ≤ M ∧ iv = .int .i64 (i : Int) ∧ w' = w1 ∧ Hid (r = (g.2.1.drop i).all fun o => decide (o.2.2.length ≤ 10))) (fun iv _ => M - (intOf iv).toNat)
      case atStart => exact ⟨0, by omega, rfl, rfl, Hv2⟩
      case round =>
        rename_i iv wr
        obtain ⟨i, hi, rfl, rfl, hr⟩ := hrel
        clear Hv2
        by_cases hin : i < M
        · obtain ⟨o, hoi⟩ : ∃ o, g.2.1[i]? = some o := ⟨_, List.getElem?_eq_getElem (by omega)⟩
          obtain ⟨b, off, A2, c2', rfl, hb, -, -, x2, -, -, -⟩ := ob_at (Hg.out _ H1.out) hoi
          have hil : (i : Int) < (M : Int) := by omega
          have hi0 : (0 : Int) ≤ (i : Int) := by omega
          have hr' := hr.out
          rw [all_at hoi] at hr'
          have Hr := Lib.hid hr'
          clear hr hr' hoi
          generalize o.2.2.length = vl at *
          by_cases hv : vl ≤ 10
          · have hv' : decide ((10 : Int) < (vl : Int)) = false := by simp; omega
            rw [decide_eq_true hv, Bool.true_and] at Hr
            clear hv
            go_wp2
            go_roundw
            case rel => exact ⟨i + 1, by omega, by go_num, by trivial, Hr⟩
            case measure => simp [intOf]; omega
          · have hv' : decide ((10 : Int) < (vl : Int)) = true := by simp; omega
            rw [decide_eq_false hv, Bool.false_and] at Hr
            clear hv
            go_wp2
            go_ret
            exact ⟨by rw [Hr.out]; rfl, H1.out⟩
        · obtain rfl : i = M := by omega
          have hr' := hr.out
          rw [all_end (by omega)] at hr'
          clear hr
          go_wp2
          go_ret
          exact ⟨by rw [hr']; rfl, H1.out⟩
    · have h10' : decide ((10 : Int) < (K : Int)) = true := by simp; omega
      rw [decide_eq_false h10, Bool.and_false, Bool.false_and] at Hv
      clear h10
      go_wp2
      go_ret
      exact ⟨by rw [Hv.out]; rfl, H1.out⟩
  · have h12' : decide ((12 : Int) < (M : Int)) = true := by simp; omega
    rw [decide_eq_false h12, Bool.and_false, Bool.false_and, Bool.false_and] at Hv
    clear h12
    go_wp2
    go_ret
    exact ⟨by rw [Hv.out]; rfl, H1.out⟩
end Go.Proofs.Yteafbdebmhpffaa
