/- The contracts of graph's mayObjs, mayRoot, mayRoots and May: what the plain functions tell; nothing that was there is changed. No condition. -/
import Derived.Test.YtembafogbfcajaaGrMayO
namespace Go.Proofs.Ytembafogbfcajaa
open Go.RowKit

set_option maxRecDepth 100000 in
set_option maxHeartbeats 2000000 in
theorem mayObjs_any (A B C : Option Addr) (N c M d K e : Nat) (g : Gr) (w : World) (h : rGr (All w) w [.slice A N c, .slice B M d, .slice C K e] g) :
    Calls Try.prog 51 #[.agg #[.slice A N c, .slice B M d, .slice C K e]] w fun e w' => e = .returned (.bool (mayOs g)) ∧ Below w.heap.size w w' := by
  obtain ⟨hM, hMd, hdm⟩ := slice_len (rGr_open h).2.1
  simp only [maxLen] at hdm
  have hB0 : Below w.heap.size w (w.alloc (.cells #[.slice A N c, .slice B M d, .slice C K e] 28)) := (Below.refl _ w).alloc (Nat.le_refl _) _
  by_cases h8 : M ≤ 8
  · have Hm : Hid (mayOs g = riseG g (-1) (g.2.1.drop 0)) := Lib.hid (by rw [mayOs, decide_eq_true (by omega), Bool.true_and, List.drop_zero])
    have h8' : decide ((8 : Int) < (M : Int)) = false := by simp; omega
    generalize mayOs g = r at *
    go_enter Try.func51, Try.ntmps51
    go_wp2
    go_loopw [3, 13] (fun lv iv w' => ∃ (i : Nat) (last : Int), i ≤ M ∧ iv = .int .i64 (i : Int) ∧ lv = .int .i64 last ∧ Below w.heap.size w w' ∧ Blk w' w.heap.size 28 [.slice A N c, .slice B M d, .slice C K e] ∧ Hid (r = riseG g last (g.2.1.drop i))) (fun _ iv _ => M - (intOf iv).toNat)
    case atStart => exact ⟨0, -1, by omega, rfl, rfl, hB0, Blk.new w _ [.slice A N c, .slice B M d, .slice C K e], Hm⟩
    case round =>
      rename_i lv iv wr
      obtain ⟨i, last, hi, rfl, rfl, hB, b1, hr⟩ := hrel
      clear Hm hB0
      by_cases hin : i < M
      · have hoi : g.2.1[i]? = some g.2.1[i] := List.getElem?_eq_getElem (by omega)
        obtain ⟨b, off, A2, c2, rfl, hb, hx1, hx2, hx3, hvs, -, -⟩ := ob_at (rGr_open (gr_below hB h)).2.1 hoi
        have hil : (i : Int) < (M : Int) := by omega
        have hi0 : (0 : Int) ≤ (i : Int) := by omega
        have hr' := hr.out
        rw [riseG_at hoi] at hr'
        have Hr := Lib.hid hr'
        clear hr' hr hoi
        generalize g.2.1[i] = o at *
        have hB1 : Below wr.heap.size wr (wr.alloc (.cells #[.int .i64 o.1, .int .i64 o.2.1, .slice A2 o.2.2.length c2] 49)) := (Below.refl _ wr).alloc (Nat.le_refl _) _
        have b3 := Blk.new wr 49 [.int .i64 o.1, .int .i64 o.2.1, .slice A2 o.2.2.length c2]
        have hvs1 := vals_below hB1 hvs
        have T1 := Lib.hid (fun W (hW : Below w.heap.size w W) hq => mayObj_any A (some ⟨b, off, none⟩) C N c M d K e g o A2 c2 W (gr_below hW h) hq)
        have H0 := Lib.hid (hB.trans (hB1.mono hB.size))
        have b1' := b1.to hB1
        have c0 := b1'.cell (j := 0) rfl
        have c1 := b1'.cell (j := 1) rfl
        have c2' := b1'.cell (j := 2) rfl
        have Hvs := Lib.hid hvs1
        clear hB b1 h hvs hvs1
        generalize mayO g o = m1 at *
        generalize em2 : riseG g o.1 (g.2.1.drop (i + 1)) = m2 at *
        by_cases hl : o.1 ≤ last
        · have hl' : decide (o.1 ≤ last) = true := decide_eq_true hl
          have Hr2 : Hid (r = false) := Lib.hid (by rw [Hr.out, decide_eq_false (p := last < o.1) (by omega)]; rfl)
          clear hl
          go_wp2
          go_ret
          exact ⟨by rw [Hr2.out]; rfl, H0.out⟩
        · have hl' : decide (o.1 ≤ last) = false := decide_eq_false hl
          by_cases hx : 1073741824 < o.1
          · have hx' : decide ((1073741824 : Int) < o.1) = true := decide_eq_true hx
            have Hr2 : Hid (r = false) := Lib.hid (by rw [Hr.out, decide_eq_false (p := o.1 ≤ 1073741824) (by omega)]; simp)
            clear hl hx
            go_wp2
            go_ret
            exact ⟨by rw [Hr2.out]; rfl, H0.out⟩
          · have hx' : decide ((1073741824 : Int) < o.1) = false := decide_eq_false hx
            have Hr2 : Hid (r = (m1 && m2)) := Lib.hid (by rw [Hr.out, decide_eq_true (p := o.1 ≤ 1073741824) (by omega), decide_eq_true (p := last < o.1) (by omega)]; simp)
            clear hl hx Hr
            go_wp2_with fail
            refine (T1.out _ H0.out Hvs.out).mono ?_
            rintro e w1 ⟨rfl, hB2⟩
            have H1 := Lib.hid (H0.out.trans (hB2.mono H0.out.size))
            have b1w := b1'.to hB2
            have b3w : Blk w1 wr.heap.size 49 [.int .i64 o.1, .int .i64 o.2.1, .slice A2 o.2.2.length c2] := b3.to hB2
            have d3 := b3w.cell (j := 0) rfl
            clear hB2 c0 c1 c2' b1' b3
            cases m1
            · go_wp2
              go_ret
              exact ⟨by rw [Hr2.out]; rfl, H1.out⟩
            · rw [Bool.true_and] at Hr2

              go_wp2
              go_roundw
              case rel => exact ⟨i + 1, o.1, by omega, by go_num, rfl, H1.out, b1w, Lib.hid (Hr2.out.trans em2.symm)⟩
              case measure => simp [intOf]; omega
      · obtain rfl : i = M := by omega
        have hr' := hr.out
        rw [riseG_end (by omega)] at hr'
        clear hr
        go_wp2
        go_ret
        exact ⟨by rw [hr']; rfl, hB⟩
  · have Hm : Hid (mayOs g = false) := Lib.hid (by rw [mayOs, decide_eq_false (by omega), Bool.false_and])
    have h8' : decide ((8 : Int) < (M : Int)) = true := by simp; omega
    go_enter Try.func51, Try.ntmps51
    go_wp2
    go_ret
    exact ⟨by rw [Hm.out]; rfl, hB0⟩

set_option maxRecDepth 100000 in
theorem mayRoot_any (A B C : Option Addr) (N c M d K e : Nat) (g : Gr) (n : Int) (w : World) (h : rGr (All w) w [.slice A N c, .slice B M d, .slice C K e] g) :
    Calls Try.prog 71 #[.agg #[.slice A N c, .slice B M d, .slice C K e], .int .i64 n] w fun e w' => e = .returned (.bool (rootG g.2.1 n)) ∧ Below w.heap.size w w' := by
  have hB0 : Below w.heap.size w (w.alloc (.cells #[.slice A N c, .slice B M d, .slice C K e] 28)) := (Below.refl _ w).alloc (Nat.le_refl _) _
  have T1 := Lib.hid (gfind_any A B C N c M d K e g n _ (gr_below hB0 h))
  have Hv : Hid (rootG g.2.1 n = (decide (n = -1) || decide (findG g.2.1 n ≠ -1))) := Lib.hid rfl
  clear h
  generalize rootG g.2.1 n = r at *
  generalize findG g.2.1 n = q at *
  by_cases hn : n = -1
  · have hn' : (n == -1) = true := by simp [hn]
    have Hr : Hid (r = true) := Lib.hid (by rw [Hv.out]; simp [hn])
    clear Hv hn
    go_enter Try.func71, Try.ntmps71
    go_wp2
    go_ret
    exact ⟨by rw [Hr.out]; rfl, hB0⟩
  · have hn' : (n == -1) = false := by simp [hn]
    have Hr : Hid (r = (q != -1)) := Lib.hid (by rw [Hv.out, decide_eq_false hn, Bool.false_or]; by_cases e : q = -1 <;> simp [e])
    clear Hv hn
    go_enter Try.func71, Try.ntmps71
    go_wp2_with fail
    refine T1.out.mono ?_
    rintro e w1 ⟨rfl, hB1⟩
    go_wp2
    go_ret
    exact ⟨by rw [Hr.out]; rfl, hB0.trans (hB1.mono hB0.size)⟩

set_option maxRecDepth 100000 in
set_option maxHeartbeats 2000000 in
theorem mayRoots_any (A B C : Option Addr) (N c M d K e : Nat) (g : Gr) (w : World) (h : rGr (All w) w [.slice A N c, .slice B M d, .slice C K e] g) :
    Calls Try.prog 52 #[.agg #[.slice A N c, .slice B M d, .slice C K e]] w fun e w' => e = .returned (.bool (mayRs g)) ∧ Below w.heap.size w w' := by
  obtain ⟨hM, hMd, hdm⟩ := slice_len (rGr_open h).2.2
  simp only [maxLen] at hdm
  have hB0 : Below w.heap.size w (w.alloc (.cells #[.slice A N c, .slice B M d, .slice C K e] 28)) := (Below.refl _ w).alloc (Nat.le_refl _) _
  by_cases h3 : K ≤ 3
  · have Hm : Hid (mayRs g = (g.2.2.drop 0).all (rootG g.2.1)) := Lib.hid (by rw [mayRs, decide_eq_true (by omega), Bool.true_and, List.drop_zero])
    have h3' : decide ((3 : Int) < (K : Int)) = false := by simp; omega
    generalize mayRs g = r at *
    go_enter Try.func52, Try.ntmps52
    go_wp2
    go_loopw [12] (fun iv w' => ∃ i : Nat, i ≤ K ∧ iv = .int .i64 (i : Int) ∧ Below w.heap.size w w' ∧ Blk w' w.heap.size 28 [.slice A N c, .slice B M d, .slice C K e] ∧ Hid (r = (g.2.2.drop i).all (rootG g.2.1))) (fun iv _ => K - (intOf iv).toNat)
    case atStart => exact ⟨0, by omega, rfl, hB0, Blk.new w _ [.slice A N c, .slice B M d, .slice C K e], Hm⟩
    case round =>
      rename_i iv wr
      obtain ⟨i, hi, rfl, hB, b1, hr⟩ := hrel
      clear Hm hB0
      by_cases hin : i < K
      · have hoi : g.2.2[i]? = some g.2.2[i] := List.getElem?_eq_getElem (by omega)
        obtain ⟨b, off, rfl, hb, hx1, -⟩ := id_at (rGr_open (gr_below hB h)).2.2 hoi
        have hil : (i : Int) < (K : Int) := by omega
        have hi0 : (0 : Int) ≤ (i : Int) := by omega
        have hr' := hr.out
        rw [all_at hoi] at hr'
        have Hr := Lib.hid hr'
        clear hr' hr hoi
        generalize g.2.2[i] = n at *
        have T1 := Lib.hid (fun W (hW : Below w.heap.size w W) => mayRoot_any A B (some ⟨b, off, none⟩) N c M d K e g n W (gr_below hW h))
        have H0 := Lib.hid hB
        have c0 := b1.cell (j := 0) rfl
        have c1 := b1.cell (j := 1) rfl
        have c2' := b1.cell (j := 2) rfl
        clear hB h
        generalize rootG g.2.1 n = m1 at *
        go_wp2_with fail
        refine (T1.out _ H0.out).mono ?_
        rintro e w1 ⟨rfl, hB2⟩
        have H1 := Lib.hid (H0.out.trans (hB2.mono H0.out.size))
        have b1w := b1.to hB2
        clear hB2 c0 c1 c2' b1
        cases m1
        · go_wp2
          go_ret
          exact ⟨by rw [Hr.out]; rfl, H1.out⟩
        · rw [Bool.true_and] at Hr
          go_wp2
          go_roundw
          case rel => exact ⟨i + 1, by omega, by go_num, H1.out, b1w, Hr⟩
          case measure => simp [intOf]; omega
      · obtain rfl : i = K := by omega
        have hr' := hr.out
        rw [all_end (by omega)] at hr'
        clear hr
        go_wp2
        go_ret
        exact ⟨by rw [hr']; rfl, hB⟩
  · have Hm : Hid (mayRs g = false) := Lib.hid (by rw [mayRs, decide_eq_false (by omega), Bool.false_and])
    have h3' : decide ((3 : Int) < (K : Int)) = true := by simp; omega
    go_enter Try.func52, Try.ntmps52
    go_wp2
    go_ret
    exact ⟨by rw [Hm.out]; rfl, hB0⟩

set_option maxRecDepth 100000 in
set_option maxHeartbeats 1000000 in
theorem gmay_any (A B C : Option Addr) (N c M d K e : Nat) (g : Gr) (w : World) (h : rGr (All w) w [.slice A N c, .slice B M d, .slice C K e] g) :
    Calls Try.prog 25 #[.agg #[.slice A N c, .slice B M d, .slice C K e]] w fun e w' => e = .returned (.bool (mayG g)) ∧ Below w.heap.size w w' := by
  have hB0 : Below w.heap.size w (w.alloc (.cells #[.slice A N c, .slice B M d, .slice C K e] 28)) := (Below.refl _ w).alloc (Nat.le_refl _) _
  have b1 := Blk.new w 28 [.slice A N c, .slice B M d, .slice C K e]
  have T1 := Lib.hid (may_any A N c g.1 _ (sch_below hB0 (rGr_open h).1))
  have T2 := Lib.hid (fun W (hW : Below w.heap.size w W) => mayObjs_any A B C N c M d K e g W (gr_below hW h))
  have T3 := Lib.hid (fun W (hW : Below w.heap.size w W) => mayRoots_any A B C N c M d K e g W (gr_below hW h))
  have Hv : Hid (mayG g = (mayS g.1 && mayOs g && mayRs g)) := Lib.hid rfl
  have HB0 := Lib.hid hB0
  clear h hB0
  generalize mayG g = r at *
  generalize mayS g.1 = m1 at *
  generalize mayOs g = m2 at *
  generalize mayRs g = m3 at *
  go_enter Try.func25, Try.ntmps25
  go_wp2_with fail
  refine T1.out.mono ?_
  rintro e w1 ⟨rfl, hB1⟩
  have H1 := Lib.hid (HB0.out.trans (hB1.mono HB0.out.size))
  replace b1 := b1.to hB1
  clear hB1 HB0
  cases m1
  · go_wp2
    go_ret
    exact ⟨by rw [Hv.out]; rfl, H1.out⟩
  have c0 := b1.cell (j := 0) rfl
  have c1 := b1.cell (j := 1) rfl
  have c2 := b1.cell (j := 2) rfl
  go_wp2_with fail
  refine (T2.out _ H1.out).mono ?_
  rintro e w2 ⟨rfl, hB2⟩
  have H2 := Lib.hid (H1.out.trans (hB2.mono H1.out.size))
  replace b1 := b1.to hB2
  clear hB2 H1 c0 c1 c2
  cases m2
  · go_wp2
    go_ret
    exact ⟨by rw [Hv.out]; rfl, H2.out⟩
  have c0 := b1.cell (j := 0) rfl
  have c1 := b1.cell (j := 1) rfl
  have c2 := b1.cell (j := 2) rfl
  go_wp2_with fail
  refine (T3.out _ H2.out).mono ?_
  rintro e w3 ⟨rfl, hB3⟩
  have H3 := Lib.hid (H2.out.trans (hB3.mono H2.out.size))
  go_wp2
  go_ret
  exact ⟨by rw [Hv.out]; rfl, H3.out⟩
end Go.Proofs.Ytembafogbfcajaa
