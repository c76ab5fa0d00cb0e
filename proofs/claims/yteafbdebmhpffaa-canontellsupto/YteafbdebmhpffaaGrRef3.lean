/- The contracts of the document's own objects and Same (layer 8). Nothing that was there is changed. No condition. -/
import Derived.Test.YteafbdebmhpffaaGrRefS
import Derived.Test.YteafbdebmhpffaaGrHave
import Derived.Test.YteafbdebmhpffaaScRefSame
import Derived.Test.YteafbdebmhpffaaForkLAll
namespace Go.Proofs.Yteafbdebmhpffaa
open Go.RowKit

set_option maxRecDepth 100000 in
set_option maxHeartbeats 2000000 in
theorem robjects_any (A B : Option Addr) (c d : Nat) (x y : Ob) (w : World) (h1 : rVals (All w) w [.slice A x.2.2.length c] x.2.2) (h2 : rVals (All w) w [.slice B y.2.2.length d] y.2.2) :
    Calls Try.prog 36 #[.agg #[.int .i64 x.1, .int .i64 x.2.1, .slice A x.2.2.length c], .agg #[.int .i64 y.1, .int .i64 y.2.1, .slice B y.2.2.length d]] w fun e w' => e = .returned (.bool (decide (x = y))) ∧ Below w.heap.size w w' := by
  have hB : Below w.heap.size w ((w.alloc (.cells #[.int .i64 x.1, .int .i64 x.2.1, .slice A x.2.2.length c] 38)).alloc (.cells #[.int .i64 y.1, .int .i64 y.2.1, .slice B y.2.2.length d] 38)) := ((Below.refl _ w).alloc (Nat.le_refl _) _).alloc (by simp) _
  obtain ⟨p1, p2⟩ := blk_two w 38 38 [.int .i64 x.1, .int .i64 x.2.1, .slice A x.2.2.length c] [.int .i64 y.1, .int .i64 y.2.1, .slice B y.2.2.length d]
  have hd : decide (x = y) = (decide (x.1 = y.1) && decide (x.2.1 = y.2.1) && decide (x.2.2 = y.2.2)) := by
    obtain ⟨a, b, c⟩ := x
    obtain ⟨a', b', c'⟩ := y
    simp only [Prod.mk.injEq]
    by_cases e1 : a = a' <;> by_cases e2 : b = b' <;> by_cases e3 : c = c' <;> simp [e1, e2, e3]
  have hn : x.2.2.length ≤ 9223372036854775807 := by have := (slice_len h1).2; simp only [maxLen] at this; omega
  have Hd := Lib.hid hd
  have H1 := Lib.hid (fun W (hW : Below w.heap.size w W) => vals_below hW h1)
  have H2 := Lib.hid (fun W (hW : Below w.heap.size w W) => vals_below hW h2)
  have HB := Lib.hid hB
  clear hd h1 h2 hB
  generalize hxs : x.2.2 = xs at *
  generalize hys : y.2.2 = ys at *
  clear hxs hys
  generalize decide (x = y) = r at *
  generalize hxl : xs.length = xl at *
  generalize hyl : ys.length = yl at *
  have Hxl := Lib.hid hxl
  have Hyl := Lib.hid hyl
  clear hxl hyl
  generalize x.1 = x1 at *
  generalize y.1 = y1 at *
  generalize x.2.1 = x2 at *
  generalize y.2.1 = y2 at *
  have c0 := p1.cell (j := 0) rfl
  have c1 := p1.cell (j := 1) rfl
  have c2 := p1.cell (j := 2) rfl
  have d0 := p2.cell (j := 0) rfl
  have d1 := p2.cell (j := 1) rfl
  have d2 := p2.cell (j := 2) rfl
  by_cases e1 : x1 = y1
  case neg =>
    have k1 : (x1 != y1) = true := by simp [e1]
    have Hr : Hid (r = false) := Lib.hid (by rw [Hd.out, decide_eq_false e1]; rfl)
    clear Hd e1
    go_enter Try.func36, Try.ntmps36
    go_wp2
    go_ret
    exact ⟨by rw [Hr.out]; rfl, HB.out⟩
  have k1 : (x1 != y1) = false := by simp [e1]
  by_cases e2 : x2 = y2
  case neg =>
    have k2 : (x2 != y2) = true := by simp [e2]
    have Hr : Hid (r = false) := Lib.hid (by rw [Hd.out, decide_eq_false e2, Bool.and_false]; rfl)
    clear Hd e1 e2
    go_enter Try.func36, Try.ntmps36
    go_wp2
    go_ret
    exact ⟨by rw [Hr.out]; rfl, HB.out⟩
  have k2 : (x2 != y2) = false := by simp [e2]
  by_cases e3 : xl = yl
  case neg =>
    have k3 : ((xl : Int) != (yl : Int)) = true := by rw [bne_iff_ne]; omega
    have Hr : Hid (r = false) := Lib.hid (by rw [Hd.out, decide_eq_false (fun e => e3 (by rw [← Hxl.out, ← Hyl.out, e]) : ¬ xs = ys), Bool.and_false])
    clear Hd e1 e2 e3
    go_enter Try.func36, Try.ntmps36
    go_wp2
    go_ret
    exact ⟨by rw [Hr.out]; rfl, HB.out⟩
  subst e3
  have k3 : ((xl : Int) != (xl : Int)) = false := by simp
  have Hr : Hid (r = decide (xs = ys)) := Lib.hid (by rw [Hd.out, decide_eq_true e1, decide_eq_true e2]; rfl)
  clear Hd e1 e2
  go_enter Try.func36, Try.ntmps36
  go_wp2
  clear c0 c1 c2 d0 d1 d2
  generalize (w.alloc (.cells #[.int .i64 x1, .int .i64 x2, .slice A xl c] 38)).alloc (.cells #[.int .i64 y1, .int .i64 y2, .slice B xl d] 38) = w1 at *
  have P1 := Lib.hid p1
  have P2 := Lib.hid p2
  clear p1 p2
  go_loopw [5] (fun iv W => ∃ i : Nat, i ≤ xl ∧ iv = .int .i64 (i : Int) ∧ Hid (Below w1.heap.size w1 W) ∧ Hid (∀ j, j < i → xs[j]? = ys[j]?)) (fun iv _ => xl - (intOf iv).toNat)
  case atStart => exact ⟨0, by omega, rfl, Lib.hid (Below.refl _ _), Lib.hid fun j hj => by omega⟩
  case round =>
    rename World => wr
    obtain ⟨i, hi, rfl, hD, hsame⟩ := hrel
    have Hw := Lib.hid (HB.out.trans (hD.out.mono HB.out.size))
    have c2 := (P1.out.to hD.out).cell (j := 2) rfl
    by_cases hin : i < xl
    · obtain ⟨v1, hv1⟩ : ∃ v, xs[i]? = some v := ⟨_, List.getElem?_eq_getElem (by have := Hxl.out; omega)⟩
      obtain ⟨v2, hv2⟩ : ∃ v, ys[i]? = some v := ⟨_, List.getElem?_eq_getElem (by have := Hyl.out; omega)⟩
      obtain ⟨b1, off1, s1, rfl, hb1, u0, u1, u2, hs1, -, -, -⟩ := val_at (H1.out _ Hw.out) hv1
      obtain ⟨b2, off2, s2, rfl, hb2, t0, t1, t2, hs2, -, -, -⟩ := val_at (H2.out _ Hw.out) hv2
      have hneq : ∀ W, (binOp .neq 42 (.agg #[.int .i64 v1.1, .string s1, .int .i64 v1.2.2]) (.agg #[.int .i64 v2.1, .string s2, .int .i64 v2.2.2])).run Try.prog W = .ok (.bool (!decide (v1 = v2))) W := fun W => by
        rw [vl_neq, vl_is, hs1, hs2]
      have hgd := sval_guard
      have hil : (i : Int) < (xl : Int) := by omega
      have hi0 : (0 : Int) ≤ (i : Int) := Int.natCast_nonneg i
      have HS := Lib.hid (fun (W : World) (hW : Below wr.heap.size wr W) => And.intro (((P1.out.to hD.out).to hW).cell (j := 2) rfl) (And.intro (((P2.out.to hD.out).to hW).cell (j := 2) rfl)
        (And.intro (And.intro ((hW.cell (p := ⟨b1, off1 + i * 3, none⟩) hb1).trans u0) (And.intro ((hW.cell (p := ⟨b1, off1 + i * 3 + 1, none⟩) hb1).trans u1) ((hW.cell (p := ⟨b1, off1 + i * 3 + 2, none⟩) hb1).trans u2)))
        (And.intro ((hW.cell (p := ⟨b2, off2 + i * 3, none⟩) hb2).trans t0) (And.intro ((hW.cell (p := ⟨b2, off2 + i * 3 + 1, none⟩) hb2).trans t1) ((hW.cell (p := ⟨b2, off2 + i * 3 + 2, none⟩) hb2).trans t2))))))
      have Hne : Hid (v1 ≠ v2 → r = false) := Lib.hid fun he => by
        rw [Hr.out]
        exact decide_eq_false fun e => he (by rw [e, hv2] at hv1; injection hv1 with hv1; exact hv1.symm)
      have Heq : Hid (v1 = v2 → ∀ j, j < i + 1 → xs[j]? = ys[j]?) := Lib.hid fun he j hj => by
        by_cases hji : j < i
        · exact hsame.out j hji
        · obtain rfl : j = i := by omega
          rw [hv1, hv2, he]
      clear hv1 hv2 u0 u1 u2 t0 t1 t2 hs1 hs2 hsame
      by_cases hvv : v1 = v2
      · have Hq := Lib.hid (Heq.out hvv)
        rw [decide_eq_true hvv] at hneq
        clear Heq Hne hvv
        generalize v1.1 = a1 at *
        generalize v1.2.2 = a2 at *
        generalize v2.1 = a3 at *
        generalize v2.2.2 = a4 at *
        go_wp2
        refine sch_start [(0, true), (1, true), (2, true), (3, true), (4, true), (5, true), (6, true), (7, true), (8, true), (9, true), (10, true)] (fun W => Below wr.heap.size wr W) (by kernel_rfl) rfl (by kernel_rfl) (fun _ _ _ _ _ h => h) (Below.refl _ wr).drew (fun hH => ?_)
        repeat (first | (refine sch_yes (v := ?_) rfl rfl ?_ hH ?_; rotate_left; (focus ((intro W hW; obtain ⟨x0, y0, ⟨u0, u1, u2⟩, t0, t1, t2⟩ := HS.out W hW; go_simp) <;> with_reducible rfl)); simp only [Act.put, List.setIfInBounds_toArray, List.set_cons_zero, List.set_cons_succ]) | (refine sch_no rfl rfl hH ?_; simp only [Act.put, List.setIfInBounds_toArray, List.set_cons_zero, List.set_cons_succ]))
        refine sch_done ?_
        have HD := Lib.hid (hD.out.trans (hH.mono hD.out.size))
        clear hH HS
        go_wp2
        go_roundw
        case rel => exact ⟨i + 1, by omega, by go_num, HD, Hq⟩
        case measure => simp [intOf]; omega
      · have Hq := Lib.hid (Hne.out hvv)
        rw [decide_eq_false hvv] at hneq
        clear Heq Hne hvv
        generalize v1.1 = a1 at *
        generalize v1.2.2 = a2 at *
        generalize v2.1 = a3 at *
        generalize v2.2.2 = a4 at *
        go_wp2
        refine sch_start [(0, true), (1, true), (2, true), (3, true), (4, true), (5, true), (6, true), (7, true), (8, true), (9, true), (10, true)] (fun W => Below wr.heap.size wr W) (by kernel_rfl) rfl (by kernel_rfl) (fun _ _ _ _ _ h => h) (Below.refl _ wr).drew (fun hH => ?_)
        repeat (first | (refine sch_yes (v := ?_) rfl rfl ?_ hH ?_; rotate_left; (focus ((intro W hW; obtain ⟨x0, y0, ⟨u0, u1, u2⟩, t0, t1, t2⟩ := HS.out W hW; go_simp) <;> with_reducible rfl)); simp only [Act.put, List.setIfInBounds_toArray, List.set_cons_zero, List.set_cons_succ]) | (refine sch_no rfl rfl hH ?_; simp only [Act.put, List.setIfInBounds_toArray, List.set_cons_zero, List.set_cons_succ]))
        refine sch_done ?_
        have HD := Lib.hid (Hw.out.trans (hH.mono Hw.out.size))
        clear hH HS
        go_wp2
        go_ret
        exact ⟨by rw [Hq.out]; rfl, HD.out⟩
    · obtain rfl : i = xl := by omega
      have Hq : Hid (r = true) := Lib.hid (by
        rw [Hr.out]
        refine decide_eq_true (List.ext_getElem? fun j => ?_)
        by_cases hj : j < i
        · exact hsame.out j hj
        · rw [List.getElem?_eq_none (by have := Hxl.out; omega), List.getElem?_eq_none (by have := Hyl.out; omega)])
      clear hsame
      go_wp2
      go_ret
      exact ⟨by rw [Hq.out]; rfl, Hw.out⟩

set_option maxRecDepth 100000 in
set_option maxHeartbeats 2000000 in
theorem rgsame_any (A B C : Option Addr) (N c M d K e : Nat) (A1 B1 C1 : Option Addr) (N1 c1 M1 d1 K1 e1 : Nat) (g h : Gr) (w : World) (hg : rGr (All w) w [.slice A N c, .slice B M d, .slice C K e] g) (hh : rGr (All w) w [.slice A1 N1 c1, .slice B1 M1 d1, .slice C1 K1 e1] h) :
    Calls Try.prog 15 #[.agg #[.slice A N c, .slice B M d, .slice C K e], .agg #[.slice A1 N1 c1, .slice B1 M1 d1, .slice C1 K1 e1]] w fun e w' => e = .returned (.bool (decide (g = h))) ∧ Below w.heap.size w w' := by
  have hB0 : Below w.heap.size w ((w.alloc (.cells #[.slice A N c, .slice B M d, .slice C K e] 28)).alloc (.cells #[.slice A1 N1 c1, .slice B1 M1 d1, .slice C1 K1 e1] 28)) := ((Below.refl _ w).alloc (Nat.le_refl _) _).alloc (by simp) _
  obtain ⟨p1, p2⟩ := blk_two w 28 28 [.slice A N c, .slice B M d, .slice C K e] [.slice A1 N1 c1, .slice B1 M1 d1, .slice C1 K1 e1]
  obtain ⟨hM, hMd, hdm⟩ := slice_len (rGr_open hg).2.1
  obtain ⟨hM1, hMd1, hdm1⟩ := slice_len (rGr_open hh).2.1
  simp only [maxLen] at hdm hdm1
  have T1 := Lib.hid (fun W (hW : Below w.heap.size w W) => rssame_any A A1 N c N1 c1 g.1 h.1 W (sch_below hW (rGr_open hg).1) (sch_below hW (rGr_open hh).1))
  have T2 := Lib.hid (fun W (hW : Below w.heap.size w W) => rints_any C C1 K e K1 e1 g.2.2 h.2.2 W (ids_below hW (rGr_open hg).2.2) (ids_below hW (rGr_open hh).2.2))
  have H1 := Lib.hid (fun W (hW : Below w.heap.size w W) => obs_below hW (rGr_open hg).2.1)
  have H2 := Lib.hid (fun W (hW : Below w.heap.size w W) => obs_below hW (rGr_open hh).2.1)
  have Hd : Hid (decide (g = h) = (decide (g.1 = h.1) && decide (g.2.2 = h.2.2) && decide (g.2.1 = h.2.1))) := Lib.hid (by
    obtain ⟨a, b, c⟩ := g
    obtain ⟨a', b', c'⟩ := h
    simp only [Prod.mk.injEq]
    by_cases e1 : a = a' <;> by_cases e2 : b = b' <;> by_cases e3 : c = c' <;> simp [e1, e2, e3])
  have HB0 := Lib.hid hB0
  have HM := Lib.hid hM
  have HM1 := Lib.hid hM1
  clear hB0 hg hh hM hM1
  generalize decide (g = h) = r at *
  generalize decide (g.1 = h.1) = r1 at *
  generalize decide (g.2.2 = h.2.2) = r2 at *
  generalize g.2.1 = xs at *
  generalize h.2.1 = ys at *
  have c0 := p1.cell (j := 0) rfl
  have d0 := p2.cell (j := 0) rfl
  go_enter Try.func15, Try.ntmps15
  go_wp2_with fail
  refine (T1.out _ HB0.out).mono ?_
  rintro e w1 ⟨rfl, hB1⟩
  have HB1 := Lib.hid (HB0.out.trans (hB1.mono HB0.out.size))
  replace p1 := p1.to hB1
  replace p2 := p2.to hB1
  clear c0 d0 hB1 HB0
  have c2 := p1.cell (j := 2) rfl
  have d2 := p2.cell (j := 2) rfl
  go_wp2_with fail
  refine (T2.out _ HB1.out).mono ?_
  rintro e w2 ⟨rfl, hB2⟩
  have HB2 := Lib.hid (HB1.out.trans (hB2.mono HB1.out.size))
  replace p1 := p1.to hB2
  replace p2 := p2.to hB2
  clear c2 d2 hB2 HB1 T1 T2
  cases r1
  · go_wp2
    go_ret
    exact ⟨by rw [Hd.out]; rfl, HB2.out⟩
  cases r2
  · go_wp2
    go_ret
    exact ⟨by rw [Hd.out]; rfl, HB2.out⟩
  have c1 := p1.cell (j := 1) rfl
  have d1 := p2.cell (j := 1) rfl
  by_cases hMM : M = M1
  case neg =>
    have k3 : ((M : Int) != (M1 : Int)) = true := by rw [bne_iff_ne]; omega
    have Hr : Hid (r = false) := Lib.hid (by rw [Hd.out, decide_eq_false (fun e => hMM (by rw [← HM.out, ← HM1.out, e]) : ¬ xs = ys)]; rfl)
    clear Hd hMM
    go_wp2
    go_ret
    exact ⟨by rw [Hr.out]; rfl, HB2.out⟩
  subst hMM
  have k3 : ((M : Int) != (M : Int)) = false := by simp
  have Hr : Hid (r = decide (xs = ys)) := Lib.hid (by rw [Hd.out]; rfl)
  have P1 := Lib.hid p1
  have P2 := Lib.hid p2
  clear Hd p1 p2
  go_wp2
  clear c1 d1
  go_loopw [7] (fun iv W => ∃ i : Nat, i ≤ M ∧ iv = .int .i64 (i : Int) ∧ Hid (Below w2.heap.size w2 W) ∧ Hid (∀ j, j < i → xs[j]? = ys[j]?)) (fun iv _ => M - (intOf iv).toNat)
  case atStart => exact ⟨0, by omega, rfl, Lib.hid (Below.refl _ _), Lib.hid fun j hj => by omega⟩
  case round =>
    rename World => wr
    obtain ⟨i, hi, rfl, hD, hsame⟩ := hrel
    have Hw := Lib.hid (HB2.out.trans (hD.out.mono HB2.out.size))
    have c1 := (P1.out.to hD.out).cell (j := 1) rfl
    by_cases hin : i < M
    · obtain ⟨o1, ho1⟩ : ∃ o, xs[i]? = some o := ⟨_, List.getElem?_eq_getElem (by have := HM.out; omega)⟩
      obtain ⟨o2, ho2⟩ : ∃ o, ys[i]? = some o := ⟨_, List.getElem?_eq_getElem (by have := HM1.out; omega)⟩
      obtain ⟨b1, off1, F1, cf1, rfl, hb1, u0, u1, u2, hv1, -, -⟩ := ob_at (H1.out _ Hw.out) ho1
      obtain ⟨b2, off2, F2, cf2, rfl, hb2, t0, t1, t2, hv2, -, -⟩ := ob_at (H2.out _ Hw.out) ho2
      have T3 := Lib.hid (fun W (hW : Below wr.heap.size wr W) => robjects_any F1 F2 cf1 cf2 o1 o2 W (vals_below hW hv1) (vals_below hW hv2))
      have hil : (i : Int) < (M : Int) := by omega
      have hi0 : (0 : Int) ≤ (i : Int) := Int.natCast_nonneg i
      have HS := Lib.hid (fun (W : World) (hW : Below wr.heap.size wr W) => And.intro (((P1.out.to hD.out).to hW).cell (j := 1) rfl) (And.intro (((P2.out.to hD.out).to hW).cell (j := 1) rfl)
        (And.intro (And.intro ((hW.cell (p := ⟨b1, off1 + i * 3, none⟩) hb1).trans u0) (And.intro ((hW.cell (p := ⟨b1, off1 + i * 3 + 1, none⟩) hb1).trans u1) ((hW.cell (p := ⟨b1, off1 + i * 3 + 2, none⟩) hb1).trans u2)))
        (And.intro ((hW.cell (p := ⟨b2, off2 + i * 3, none⟩) hb2).trans t0) (And.intro ((hW.cell (p := ⟨b2, off2 + i * 3 + 1, none⟩) hb2).trans t1) ((hW.cell (p := ⟨b2, off2 + i * 3 + 2, none⟩) hb2).trans t2))))))
      have Hne : Hid (o1 ≠ o2 → r = false) := Lib.hid fun he => by
        rw [Hr.out]
        exact decide_eq_false fun e => he (by rw [e, ho2] at ho1; injection ho1 with ho1; exact ho1.symm)
      have Heq : Hid (o1 = o2 → ∀ j, j < i + 1 → xs[j]? = ys[j]?) := Lib.hid fun he j hj => by
        by_cases hji : j < i
        · exact hsame.out j hji
        · obtain rfl : j = i := by omega
          rw [ho1, ho2, he]
      clear ho1 ho2 u0 u1 u2 t0 t1 t2 hv1 hv2 hsame
      generalize hoo : decide (o1 = o2) = bb at *
      have Hoo := Lib.hid hoo
      clear hoo
      generalize o1.2.2.length = l1 at *
      generalize o2.2.2.length = l2 at *
      generalize o1.1 = a1 at *
      generalize o1.2.1 = a2 at *
      generalize o2.1 = a3 at *
      generalize o2.2.1 = a4 at *
      go_wp2
      refine sch_start [(0, true), (1, true), (2, true), (3, true), (4, true), (5, true), (6, true), (7, true), (8, true), (9, true), (10, false), (11, true)] (fun W => Below wr.heap.size wr W) (by kernel_rfl) rfl (by kernel_rfl) (fun _ _ _ _ _ h => h) (Below.refl _ wr).drew (fun hH => ?_)
      repeat (first | (refine sch_yes (v := ?_) rfl rfl ?_ hH ?_; rotate_left; (focus ((intro W hW; obtain ⟨x0, y0, ⟨u0, u1, u2⟩, t0, t1, t2⟩ := HS.out W hW; go_simp) <;> with_reducible rfl)); simp only [Act.put, List.setIfInBounds_toArray, List.set_cons_zero, List.set_cons_succ]) | (refine sch_no rfl rfl hH ?_; simp only [Act.put, List.setIfInBounds_toArray, List.set_cons_zero, List.set_cons_succ]))
      refine sch_call rfl rfl (fun K' hK' => ?_)
      go_wp2_with (go_at_call 36; refine (T3.out _ hH).mono ?_; rintro e w4 ⟨rfl, hB4⟩)
      have hD4 := hH.trans (hB4.mono hH.size)
      refine hK'.out _ _ hD4 ?_
      clear hK' hB4 hH
      have hH := hD4
      repeat (first | (refine sch_yes (v := ?_) rfl rfl ?_ hH ?_; rotate_left; (focus ((intro W hW; obtain ⟨x0, y0, ⟨u0, u1, u2⟩, t0, t1, t2⟩ := HS.out W hW; go_simp) <;> with_reducible rfl)); simp only [Act.put, List.setIfInBounds_toArray, List.set_cons_zero, List.set_cons_succ]) | (refine sch_no rfl rfl hH ?_; simp only [Act.put, List.setIfInBounds_toArray, List.set_cons_zero, List.set_cons_succ]))
      refine sch_done ?_
      have HD := Lib.hid (hD.out.trans (hD4.mono hD.out.size))
      have HE := Lib.hid (Hw.out.trans (hD4.mono Hw.out.size))
      clear hH hD4 HS
      cases bb
      · have Hq := Lib.hid (Hne.out (of_decide_eq_false Hoo.out))
        go_wp2
        go_ret
        exact ⟨by rw [Hq.out]; rfl, HE.out⟩
      · have Hq := Lib.hid (Heq.out (of_decide_eq_true Hoo.out))
        go_wp2
        go_roundw
        case rel => exact ⟨i + 1, by omega, by go_num, HD, Hq⟩
        case measure => simp [intOf]; omega
    · obtain rfl : i = M := by omega
      have Hq : Hid (r = true) := Lib.hid (by
        rw [Hr.out]
        refine decide_eq_true (List.ext_getElem? fun j => ?_)
        by_cases hj : j < i
        · exact hsame.out j hj
        · rw [List.getElem?_eq_none (by have := HM.out; omega), List.getElem?_eq_none (by have := HM1.out; omega)])
      clear hsame
      go_wp2
      go_ret
      exact ⟨by rw [Hq.out]; rfl, Hw.out⟩
end Go.Proofs.Yteafbdebmhpffaa
