/- The contracts of slices.Equal of values and of numbers, of graph's sameObj, of slices.EqualFunc with it, and of graph's Same. No condition. -/
import Derived.Test.YteafbdebmhpffaaGrHave
import Derived.Test.YteafbdebmhpffaaScSame
namespace Go.Proofs.Yteafbdebmhpffaa
open Go.RowKit

set_option maxRecDepth 100000 in
set_option maxHeartbeats 2000000 in
theorem equalV_any (A B : Option Addr) (n c m d : Nat) (l1 l2 : List Vl) (w : World) (h1 : rVals (All w) w [.slice A n c] l1) (h2 : rVals (All w) w [.slice B m d] l2) :
    Calls Try.prog 68 #[.slice A n c, .slice B m d] w fun e w' => e = .returned (.bool (decide (l1 = l2))) ∧ Below w.heap.size w w' := by
  obtain ⟨hn, hnc, hcm⟩ := slice_len h1
  obtain ⟨hm, hmd, hdm⟩ := slice_len h2
  simp only [maxLen] at hcm hdm
  by_cases hnm : n = m
  · subst hnm
    have hnn : ((n : Int) != (n : Int)) = false := by simp
    go_enter Try.func68, Try.ntmps68
    go_wp2
    go_loopw [13] (fun iv w' => ∃ i : Nat, i ≤ n ∧ iv = .int .i64 (i : Int) ∧ Below w.heap.size w w' ∧ (∀ j, j < i → l1[j]? = l2[j]?)) (fun iv _ => n - (intOf iv).toNat)
    case atStart => exact ⟨0, by omega, rfl, Below.refl _ _, fun j hj => by omega⟩
    case round =>
      rename_i iv wr
      obtain ⟨i, hi, rfl, hB, hsame⟩ := hrel
      by_cases hin : i < n
      · have hl1 : l1[i]? = some l1[i] := List.getElem?_eq_getElem (by omega)
        have hl2 : l2[i]? = some l2[i] := List.getElem?_eq_getElem (by omega)
        obtain ⟨b1, off1, x1, rfl, hb1, p1, p2, p3, e1, _, _, _⟩ := val_at (vals_below hB h1) hl1
        obtain ⟨b2, off2, x2, rfl, hb2, q1, q2, q3, f1, _, _, _⟩ := val_at (vals_below hB h2) hl2
        have hil : (i : Int) < (n : Int) := by omega
        have hi0 : (0 : Int) ≤ (i : Int) := by omega
        have hq : ∀ W, (binOp .neq 42 (.agg #[.int .i64 l1[i].1, .string x1, .int .i64 l1[i].2.2]) (.agg #[.int .i64 l2[i].1, .string x2, .int .i64 l2[i].2.2])).run Try.prog W = .ok (.bool (!decide (l1[i] = l2[i]))) W := fun W => by rw [vl_neq, vl_is, e1, f1]
        have heg := sval_guard
        have hne : l1[i] ≠ l2[i] → decide (l1 = l2) = false := fun he => decide_eq_false fun e => he (by subst e; rfl)
        have heq : l1[i] = l2[i] → ∀ j, j < i + 1 → l1[j]? = l2[j]? := fun he j hj => by
          by_cases hji : j < i
          · exact hsame j hji
          · obtain rfl : j = i := by omega
            rw [hl1, hl2, he]
        have Hne := Lib.hid hne
        have Heq := Lib.hid heq
        have HB := Lib.hid hB
        clear hne heq hl1 hl2 hsame e1 f1 hB h1 h2
        generalize l1[i] = F1 at *
        generalize l2[i] = F2 at *
        by_cases he : F1 = F2
        · rw [decide_eq_true he] at hq
          have Hq := Lib.hid (Heq.out he)
          clear Heq Hne he
          generalize F1.1 = k1 at *
          generalize F1.2.2 = k3 at *
          generalize F2.1 = k2 at *
          generalize F2.2.2 = k4 at *
          go_wp2
          go_quiet (fail)
          go_wp2
          go_roundw
          case rel => exact ⟨i + 1, by omega, by go_num, below_drewN HB.out _, Hq.out⟩
          case measure => simp [intOf]; omega
        · rw [decide_eq_false he] at hq
          have Hq := Lib.hid (Hne.out he)
          clear Heq Hne he
          generalize F1.1 = k1 at *
          generalize F1.2.2 = k3 at *
          generalize F2.1 = k2 at *
          generalize F2.2.2 = k4 at *
          go_wp2
          go_quiet (fail)
          go_wp2
          go_ret
          exact ⟨by rw [Hq.out]; rfl, below_drewN HB.out _⟩
      · obtain rfl : i = n := by omega
        have heq : l1 = l2 := List.ext_getElem? fun j => by
          by_cases hj : j < i
          · exact hsame j hj
          · rw [List.getElem?_eq_none (by omega), List.getElem?_eq_none (by omega)]
        have hd : decide (l1 = l2) = true := decide_eq_true heq
        have Hd := Lib.hid hd
        clear hd hsame heq
        go_wp2
        go_ret
        exact ⟨by rw [Hd.out]; rfl, hB⟩
  · have hd : decide (l1 = l2) = false := decide_eq_false fun e => hnm (by subst e; omega)
    have hne : ((n : Int) != (m : Int)) = true := by rw [bne_iff_ne]; omega
    rw [hd]
    go_enter Try.func68, Try.ntmps68
    go_wp2
    go_ret
    exact ⟨rfl, Below.refl _ _⟩

set_option maxRecDepth 100000 in
set_option maxHeartbeats 2000000 in
theorem equalI_any (A B : Option Addr) (n c m d : Nat) (l1 l2 : List Int) (w : World) (h1 : rIds (All w) w [.slice A n c] l1) (h2 : rIds (All w) w [.slice B m d] l2) :
    Calls Try.prog 45 #[.slice A n c, .slice B m d] w fun e w' => e = .returned (.bool (decide (l1 = l2))) ∧ Below w.heap.size w w' := by
  obtain ⟨hn, hnc, hcm⟩ := slice_len h1
  obtain ⟨hm, hmd, hdm⟩ := slice_len h2
  simp only [maxLen] at hcm hdm
  by_cases hnm : n = m
  · subst hnm
    have hnn : ((n : Int) != (n : Int)) = false := by simp
    go_enter Try.func45, Try.ntmps45
    go_wp2
    go_loopw [13] (fun iv w' => ∃ i : Nat, i ≤ n ∧ iv = .int .i64 (i : Int) ∧ Below w.heap.size w w' ∧ (∀ j, j < i → l1[j]? = l2[j]?)) (fun iv _ => n - (intOf iv).toNat)
    case atStart => exact ⟨0, by omega, rfl, Below.refl _ _, fun j hj => by omega⟩
    case round =>
      rename_i iv wr
      obtain ⟨i, hi, rfl, hB, hsame⟩ := hrel
      by_cases hin : i < n
      · have hl1 : l1[i]? = some l1[i] := List.getElem?_eq_getElem (by omega)
        have hl2 : l2[i]? = some l2[i] := List.getElem?_eq_getElem (by omega)
        obtain ⟨b1, off1, rfl, hb1, p1, _⟩ := id_at (ids_below hB h1) hl1
        obtain ⟨b2, off2, rfl, hb2, q1, _⟩ := id_at (ids_below hB h2) hl2
        have hil : (i : Int) < (n : Int) := by omega
        have hi0 : (0 : Int) ≤ (i : Int) := by omega
        have hne : l1[i] ≠ l2[i] → decide (l1 = l2) = false := fun he => decide_eq_false fun e => he (by subst e; rfl)
        have heq : l1[i] = l2[i] → ∀ j, j < i + 1 → l1[j]? = l2[j]? := fun he j hj => by
          by_cases hji : j < i
          · exact hsame j hji
          · obtain rfl : j = i := by omega
            rw [hl1, hl2, he]
        have Hne := Lib.hid hne
        have Heq := Lib.hid heq
        have HB := Lib.hid hB
        clear hne heq hl1 hl2 hsame hB h1 h2
        generalize l1[i] = F1 at *
        generalize l2[i] = F2 at *
        by_cases he : F1 = F2
        · have hq : (F1 != F2) = false := by simp [he]
          have Hq := Lib.hid (Heq.out he)
          clear Heq Hne he
          go_wp2
          go_quiet (fail)
          go_wp2
          go_roundw
          case rel => exact ⟨i + 1, by omega, by go_num, below_drewN HB.out _, Hq.out⟩
          case measure => simp [intOf]; omega
        · have hq : (F1 != F2) = true := by simp [he]
          have Hq := Lib.hid (Hne.out he)
          clear Heq Hne he
          go_wp2
          go_quiet (fail)
          go_wp2
          go_ret
          exact ⟨by rw [Hq.out]; rfl, below_drewN HB.out _⟩
      · obtain rfl : i = n := by omega
        have heq : l1 = l2 := List.ext_getElem? fun j => by
          by_cases hj : j < i
          · exact hsame j hj
          · rw [List.getElem?_eq_none (by omega), List.getElem?_eq_none (by omega)]
        have hd : decide (l1 = l2) = true := decide_eq_true heq
        have Hd := Lib.hid hd
        clear hd hsame heq
        go_wp2
        go_ret
        exact ⟨by rw [Hd.out]; rfl, hB⟩
  · have hd : decide (l1 = l2) = false := decide_eq_false fun e => hnm (by subst e; omega)
    have hne : ((n : Int) != (m : Int)) = true := by rw [bne_iff_ne]; omega
    rw [hd]
    go_enter Try.func45, Try.ntmps45
    go_wp2
    go_ret
    exact ⟨rfl, Below.refl _ _⟩

set_option maxRecDepth 100000 in
set_option maxHeartbeats 1000000 in
theorem sameObj_any (A B : Option Addr) (c d : Nat) (x y : Ob) (w : World) (h1 : rVals (All w) w [.slice A x.2.2.length c] x.2.2) (h2 : rVals (All w) w [.slice B y.2.2.length d] y.2.2) :
    Calls Try.prog 44 #[.agg #[.int .i64 x.1, .int .i64 x.2.1, .slice A x.2.2.length c], .agg #[.int .i64 y.1, .int .i64 y.2.1, .slice B y.2.2.length d]] w fun e w' => e = .returned (.bool (decide (x = y))) ∧ Below w.heap.size w w' := by
  have hB : ∀ u v, Below w.heap.size w ((w.alloc (.cells u 38)).alloc (.cells v 38)) := fun u v => ((Below.refl _ w).alloc (Nat.le_refl _) _).alloc (by simp) _
  have T1 := Lib.hid (fun u v => equalV_any A B x.2.2.length c y.2.2.length d x.2.2 y.2.2 ((w.alloc (.cells u 38)).alloc (.cells v 38)) (vals_below (hB _ _) h1) (vals_below (hB _ _) h2))
  have hd : decide (x = y) = ((x.1 == y.1) && (x.2.1 == y.2.1) && decide (x.2.2 = y.2.2)) := by
    obtain ⟨a, b, c⟩ := x
    obtain ⟨a', b', c'⟩ := y
    simp only [Prod.mk.injEq]
    by_cases e1 : a = a' <;> by_cases e2 : b = b' <;> by_cases e3 : c = c' <;> simp [e1, e2, e3]
  have Hd := Lib.hid hd
  clear hd h1 h2
  generalize decide (x = y) = r at *
  generalize decide (x.2.2 = y.2.2) = m3 at *
  generalize x.2.2.length = xl at *
  generalize y.2.2.length = yl at *
  generalize x.1 = x1 at *
  generalize y.1 = y1 at *
  generalize x.2.1 = x2 at *
  generalize y.2.1 = y2 at *
  cases e1 : (x1 == y1)
  · rw [e1] at Hd
    go_enter Try.func44, Try.ntmps44
    go_wp2
    go_ret
    exact ⟨by rw [Hd.out]; rfl, hB _ _⟩
  · cases e2 : (x2 == y2)
    · rw [e1, e2] at Hd
      go_enter Try.func44, Try.ntmps44
      go_wp2
      go_ret
      exact ⟨by rw [Hd.out]; rfl, hB _ _⟩
    · rw [e1, e2] at Hd
      go_enter Try.func44, Try.ntmps44
      go_wp2_with (first | (go_at_call 68; refine (T1.out _ _).mono ?_; rintro e w1 ⟨rfl, hB1⟩) | fail)
      go_ret
      exact ⟨by rw [Hd.out]; rfl, (hB _ _).trans (hB1.mono (hB _ _).size)⟩

set_option maxRecDepth 100000 in
set_option maxHeartbeats 2000000 in
theorem equalO_any (A B : Option Addr) (n c m d : Nat) (l1 l2 : List Ob) (w : World) (h1 : rObs (All w) w [.slice A n c] l1) (h2 : rObs (All w) w [.slice B m d] l2) :
    Calls Try.prog 43 #[.slice A n c, .slice B m d, .func (.func 44) #[] #[]] w fun e w' => e = .returned (.bool (decide (l1 = l2))) ∧ Below w.heap.size w w' := by
  obtain ⟨hn, hnc, hcm⟩ := slice_len h1
  obtain ⟨hm, hmd, hdm⟩ := slice_len h2
  simp only [maxLen] at hcm hdm
  by_cases hnm : n = m
  · subst hnm
    have hnn : ((n : Int) != (n : Int)) = false := by simp
    go_enter Try.func43, Try.ntmps43
    go_wp2
    go_loopw [17] (fun iv w' => ∃ i : Nat, i ≤ n ∧ iv = .int .i64 (i : Int) ∧ Below w.heap.size w w' ∧ (∀ j, j < i → l1[j]? = l2[j]?)) (fun iv _ => n - (intOf iv).toNat)
    case atStart => exact ⟨0, by omega, rfl, Below.refl _ _, fun j hj => by omega⟩
    case round =>
      rename_i iv wr
      obtain ⟨i, hi, rfl, hB, hsame⟩ := hrel
      by_cases hin : i < n
      · have hl1 : l1[i]? = some l1[i] := List.getElem?_eq_getElem (by omega)
        have hl2 : l2[i]? = some l2[i] := List.getElem?_eq_getElem (by omega)
        obtain ⟨b1, off1, A1, c1, rfl, hb1, p1, p2, p3, r1, _, _⟩ := ob_at (obs_below hB h1) hl1
        obtain ⟨b2, off2, A2, c2, rfl, hb2, q1, q2, q3, r2, _, _⟩ := ob_at (obs_below hB h2) hl2
        have hil : (i : Int) < (n : Int) := by omega
        have hi0 : (0 : Int) ≤ (i : Int) := by omega
        have hne : l1[i] ≠ l2[i] → decide (l1 = l2) = false := fun he => decide_eq_false fun e => he (by subst e; rfl)
        have heq : l1[i] = l2[i] → ∀ j, j < i + 1 → l1[j]? = l2[j]? := fun he j hj => by
          by_cases hji : j < i
          · exact hsame j hji
          · obtain rfl : j = i := by omega
            rw [hl1, hl2, he]
        have Hne := Lib.hid hne
        have Heq := Lib.hid heq
        have HB := Lib.hid hB
        clear hne heq hl1 hl2 hsame h1 h2 hB
        generalize l1[i] = F1 at *
        generalize l2[i] = F2 at *
        have hB1 : ∀ u v, Below wr.heap.size wr ((wr.alloc (.cells u 38)).alloc (.cells v 38)) := fun u v => ((Below.refl _ wr).alloc (Nat.le_refl _) _).alloc (by simp) _
        have S1 := Lib.hid (fun u v => sameObj_any A1 A2 c1 c2 F1 F2 ((wr.alloc (.cells u 38)).alloc (.cells v 38)) (vals_below (hB1 _ _) r1) (vals_below (hB1 _ _) r2))
        have q1' : ∀ u, (wr.alloc (.cells u 38)).cell? ⟨b2, off2 + i * 3, none⟩ = some (.int .i64 F2.1) := fun u => (((Below.refl _ wr).alloc (Nat.le_refl _) (.cells u 38)).cell (p := ⟨b2, off2 + i * 3, none⟩) hb2).trans q1
        have q2' : ∀ u, (wr.alloc (.cells u 38)).cell? ⟨b2, off2 + i * 3 + 1, none⟩ = some (.int .i64 F2.2.1) := fun u => (((Below.refl _ wr).alloc (Nat.le_refl _) (.cells u 38)).cell (p := ⟨b2, off2 + i * 3 + 1, none⟩) hb2).trans q2
        have q3' : ∀ u, (wr.alloc (.cells u 38)).cell? ⟨b2, off2 + i * 3 + 2, none⟩ = some (.slice A2 F2.2.2.length c2) := fun u => (((Below.refl _ wr).alloc (Nat.le_refl _) (.cells u 38)).cell (p := ⟨b2, off2 + i * 3 + 2, none⟩) hb2).trans q3
        clear r1 r2 q1 q2 q3
        by_cases he : F1 = F2
        · rw [decide_eq_true he] at S1
          have Hq := Lib.hid (Heq.out he)
          clear Heq Hne he
          generalize F1.2.2.length = k1 at *
          generalize F1.1 = k3 at *
          generalize F1.2.1 = k5 at *
          generalize F2.2.2.length = k2 at *
          generalize F2.1 = k4 at *
          generalize F2.2.1 = k6 at *
          go_wp2_with (first | (go_at_call 44; refine (S1.out _ _).mono ?_; rintro e w1 ⟨rfl, hB2⟩) | fail)
          go_roundw
          case rel => exact ⟨i + 1, by omega, by go_num, HB.out.trans (((hB1 _ _).trans (hB2.mono (hB1 _ _).size)).mono HB.out.size), Hq.out⟩
          case measure => simp [intOf]; omega
        · rw [decide_eq_false he] at S1
          have Hq := Lib.hid (Hne.out he)
          clear Heq Hne he
          generalize F1.2.2.length = k1 at *
          generalize F1.1 = k3 at *
          generalize F1.2.1 = k5 at *
          generalize F2.2.2.length = k2 at *
          generalize F2.1 = k4 at *
          generalize F2.2.1 = k6 at *
          go_wp2_with (first | (go_at_call 44; refine (S1.out _ _).mono ?_; rintro e w1 ⟨rfl, hB2⟩) | fail)
          go_ret
          exact ⟨by rw [Hq.out]; rfl, HB.out.trans (((hB1 _ _).trans (hB2.mono (hB1 _ _).size)).mono HB.out.size)⟩
      · obtain rfl : i = n := by omega
        have heq : l1 = l2 := List.ext_getElem? fun j => by
          by_cases hj : j < i
          · exact hsame j hj
          · rw [List.getElem?_eq_none (by omega), List.getElem?_eq_none (by omega)]
        have hd : decide (l1 = l2) = true := decide_eq_true heq
        have Hd := Lib.hid hd
        clear hd hsame heq
        go_wp2
        go_ret
        exact ⟨by rw [Hd.out]; rfl, hB⟩
  · have hd : decide (l1 = l2) = false := decide_eq_false fun e => hnm (by subst e; omega)
    have hne : ((n : Int) != (m : Int)) = true := by rw [bne_iff_ne]; omega
    rw [hd]
    go_enter Try.func43, Try.ntmps43
    go_wp2
    go_ret
    exact ⟨rfl, Below.refl _ _⟩

set_option maxRecDepth 100000 in
set_option maxHeartbeats 2000000 in
theorem gsame_any (A B C : Option Addr) (N c M d K e : Nat) (A1 B1 C1 : Option Addr) (N1 c1 M1 d1 K1 e1 : Nat) (g h : Gr) (w : World) (hg : rGr (All w) w [.slice A N c, .slice B M d, .slice C K e] g) (hh : rGr (All w) w [.slice A1 N1 c1, .slice B1 M1 d1, .slice C1 K1 e1] h) :
    Calls Try.prog 23 #[.agg #[.slice A N c, .slice B M d, .slice C K e], .agg #[.slice A1 N1 c1, .slice B1 M1 d1, .slice C1 K1 e1]] w fun e w' => e = .returned (.bool (decide (g = h))) ∧ Below w.heap.size w w' := by
  have hB0 : Below w.heap.size w ((w.alloc (.cells #[.slice A N c, .slice B M d, .slice C K e] 28)).alloc (.cells #[.slice A1 N1 c1, .slice B1 M1 d1, .slice C1 K1 e1] 28)) := ((Below.refl _ w).alloc (Nat.le_refl _) _).alloc (by simp) _
  obtain ⟨p1, p2⟩ := blk_two w 28 28 [.slice A N c, .slice B M d, .slice C K e] [.slice A1 N1 c1, .slice B1 M1 d1, .slice C1 K1 e1]
  have T1 := Lib.hid (fun W (hW : Below w.heap.size w W) => same_any A A1 N c N1 c1 g.1 h.1 W (sch_below hW (rGr_open hg).1) (sch_below hW (rGr_open hh).1))
  have T2 := Lib.hid (fun W (hW : Below w.heap.size w W) => equalO_any B B1 M d M1 d1 g.2.1 h.2.1 W (obs_below hW (rGr_open hg).2.1) (obs_below hW (rGr_open hh).2.1))
  have T3 := Lib.hid (fun W (hW : Below w.heap.size w W) => equalI_any C C1 K e K1 e1 g.2.2 h.2.2 W (ids_below hW (rGr_open hg).2.2) (ids_below hW (rGr_open hh).2.2))
  have Hd : Hid (decide (g = h) = (decide (g.1 = h.1) && decide (g.2.1 = h.2.1) && decide (g.2.2 = h.2.2))) := Lib.hid (by
    obtain ⟨a, b, c⟩ := g
    obtain ⟨a', b', c'⟩ := h
    simp only [Prod.mk.injEq]
    by_cases e1 : a = a' <;> by_cases e2 : b = b' <;> by_cases e3 : c = c' <;> simp [e1, e2, e3])
  have HB0 := Lib.hid hB0
  clear hB0 hg hh
  generalize decide (g = h) = r at *
  generalize decide (g.1 = h.1) = m1 at *
  generalize decide (g.2.1 = h.2.1) = m2 at *
  generalize decide (g.2.2 = h.2.2) = m3 at *
  go_enter Try.func23, Try.ntmps23
  go_wp2_with fail
  refine (T1.out _ HB0.out).mono ?_
  rintro e w1 ⟨rfl, hB1⟩
  have H1 := Lib.hid (HB0.out.trans (hB1.mono HB0.out.size))
  replace p1 := p1.to hB1
  replace p2 := p2.to hB1
  clear hB1 HB0
  cases m1
  · go_wp2
    go_ret
    exact ⟨by rw [Hd.out]; rfl, H1.out⟩
  have d1 := p1.cell (j := 1) rfl
  have d2 := p2.cell (j := 1) rfl
  go_wp2_with fail
  refine (T2.out _ H1.out).mono ?_
  rintro e w2 ⟨rfl, hB2⟩
  have H2 := Lib.hid (H1.out.trans (hB2.mono H1.out.size))
  replace p1 := p1.to hB2
  replace p2 := p2.to hB2
  clear hB2 H1 d1 d2
  cases m2
  · go_wp2
    go_ret
    exact ⟨by rw [Hd.out]; rfl, H2.out⟩
  have d1 := p1.cell (j := 2) rfl
  have d2 := p2.cell (j := 2) rfl
  go_wp2_with fail
  refine (T3.out _ H2.out).mono ?_
  rintro e w3 ⟨rfl, hB3⟩
  have H3 := Lib.hid (H2.out.trans (hB3.mono H2.out.size))
  go_wp2
  go_ret
  exact ⟨by rw [Hd.out]; rfl, H3.out⟩
end Go.Proofs.Yteafbdebmhpffaa
