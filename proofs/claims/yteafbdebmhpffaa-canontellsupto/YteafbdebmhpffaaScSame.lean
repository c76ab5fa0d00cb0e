/- The contracts of slices.Equal of fields, of schema's sameType, of slices.EqualFunc with it, and of schema's Same. No condition. -/
import Derived.Test.YteafbdebmhpffaaScMay
import Derived.BigQuiet
import Derived.Laws.StructEq
namespace Go.Proofs.Yteafbdebmhpffaa
open Go.RowKit

theorem sfld_stood : Try.prog.stoodInHeld 48 = false := by kernel_rfl
theorem sfld_guard : Try.prog.eqGuardType Try.prog.depth 48 = false := by kernel_rfl
set_option maxRecDepth 100000 in
theorem fld_neq (x1 y1 x2 y2 : ByteArray) (k1 k2 : Int) (w : World) : (binOp .neq 48 (.agg #[.string x1, .int .i64 k1, .string y1]) (.agg #[.string x2, .int .i64 k2, .string y2])).run Try.prog w
    = .ok (.bool (!((x1.toList == x2.toList) && (k1 == k2) && (y1.toList == y2.toList)))) w := by
  have h1 := sfld_stood
  cases e1 : (x1.toList == x2.toList) <;> cases e2 : (k1 == k2) <;> cases e3 : (y1.toList == y2.toList)
  all_goals go_simp
theorem fld_is {x1 y1 x2 y2 : ByteArray} {f g : Fld} (h1 : byt x1 = f.1) (h2 : byt y1 = f.2.2) (h3 : byt x2 = g.1) (h4 : byt y2 = g.2.2) : ((x1.toList == x2.toList) && (f.2.1 == g.2.1) && (y1.toList == y2.toList)) = decide (f = g) := by
  rw [str_beq, str_beq, h1, h2, h3, h4]
  obtain ⟨a, k, b⟩ := f
  obtain ⟨a', k', b'⟩ := g
  simp only [Prod.mk.injEq]
  by_cases e1 : a = a' <;> by_cases e2 : k = k' <;> by_cases e3 : b = b' <;> simp [e1, e2, e3]

set_option maxRecDepth 100000 in
set_option maxHeartbeats 2000000 in
theorem equalF_any (A B : Option Addr) (n c m d : Nat) (l1 l2 : List Fld) (w : World) (h1 : rFlds (All w) w [.slice A n c] l1) (h2 : rFlds (All w) w [.slice B m d] l2) :
    Calls Try.prog 90 #[.slice A n c, .slice B m d] w fun e w' => e = .returned (.bool (decide (l1 = l2))) ∧ Below w.heap.size w w' := by
  obtain ⟨hn, hnc, hcm⟩ := flds_len h1
  obtain ⟨hm, hmd, hdm⟩ := flds_len h2
  simp only [maxLen] at hcm hdm
  by_cases hnm : n = m
  · subst hnm
    have hnn : ((n : Int) != (n : Int)) = false := by simp
    go_enter Try.func90, Try.ntmps90
    go_wp2
    go_loopw [13] (fun iv w' => ∃ i : Nat, i ≤ n ∧ iv = .int .i64 (i : Int) ∧ Below w.heap.size w w' ∧ (∀ j, j < i → l1[j]? = l2[j]?)) (fun iv _ => n - (intOf iv).toNat)
    case atStart => exact ⟨0, by omega, rfl, Below.refl _ _, fun j hj => by omega⟩
    case round =>
      rename_i iv wr
      obtain ⟨i, hi, rfl, hB, hsame⟩ := hrel
      by_cases hin : i < n
      · have hl1 : l1[i]? = some l1[i] := List.getElem?_eq_getElem (by omega)
        have hl2 : l2[i]? = some l2[i] := List.getElem?_eq_getElem (by omega)
        obtain ⟨b1, off1, x1, y1, rfl, hb1, p1, p2, p3, e1, e2, _, _, _⟩ := fld_at (flds_below hB h1) hl1
        obtain ⟨b2, off2, x2, y2, rfl, hb2, q1, q2, q3, f1, f2, _, _, _⟩ := fld_at (flds_below hB h2) hl2
        have hil : (i : Int) < (n : Int) := by omega
        have hi0 : (0 : Int) ≤ (i : Int) := by omega
        have hq : ∀ W, (binOp .neq 48 (.agg #[.string x1, .int .i64 l1[i].2.1, .string y1]) (.agg #[.string x2, .int .i64 l2[i].2.1, .string y2])).run Try.prog W = .ok (.bool (!decide (l1[i] = l2[i]))) W := fun W => by rw [fld_neq, fld_is e1 e2 f1 f2]
        have heg := sfld_guard
        have hne : l1[i] ≠ l2[i] → decide (l1 = l2) = false := fun he => decide_eq_false fun e => he (by subst e; rfl)
        have heq : l1[i] = l2[i] → ∀ j, j < i + 1 → l1[j]? = l2[j]? := fun he j hj => by
          by_cases hji : j < i
          · exact hsame j hji
          · obtain rfl : j = i := by omega
            rw [hl1, hl2, he]
        have Hne := Lib.hid hne
        have Heq := Lib.hid heq
        have HB := Lib.hid hB
        clear hne heq hl1 hl2 hsame e1 e2 f1 f2 hB h1 h2
        generalize l1[i] = F1 at *
        generalize l2[i] = F2 at *
        by_cases he : F1 = F2
        · rw [decide_eq_true he] at hq
          have Hq := Lib.hid (Heq.out he)
          clear Heq Hne he
          generalize F1.2.1 = k1 at *
          generalize F2.2.1 = k2 at *
          go_wp2
          go_quiet (fail)
          go_wp2
          go_roundw
          case rel => exact ⟨i + 1, by omega, by go_num, below_drewN HB.out _, Hq.out⟩
          case measure => simp [intOf]; omega
        · rw [decide_eq_false he] at hq
          have Hq := Lib.hid (Hne.out he)
          clear Heq Hne he
          generalize F1.2.1 = k1 at *
          generalize F2.2.1 = k2 at *
          go_wp2
          go_quiet (fail)
          go_wp2
          go_ret
          exact ⟨by rw [Hq.out]; rfl, below_drewN HB.out _⟩
      · obtain rfl : i = n := by omega
        have heq : l1 = l2 := List.ext_getElem? fun j => by
          by_cases hj : j < i
          · exact hsame j hj
          · rw [List.getElem?_eq_none (by omega), List.getElem?_eq_none (by omega)]
        have hd : decide (l1 = l2) = true := decide_eq_true heq
        have Hd := Lib.hid hd
        clear hd hsame heq
        go_wp2
        go_ret
        exact ⟨by rw [Hd.out]; rfl, hB⟩
  · have hd : decide (l1 = l2) = false := decide_eq_false fun e => hnm (by subst e; omega)
    have hne : ((n : Int) != (m : Int)) = true := by rw [bne_iff_ne]; omega
    rw [hd]
    go_enter Try.func90, Try.ntmps90
    go_wp2
    go_ret
    exact ⟨rfl, Below.refl _ _⟩

set_option maxRecDepth 100000 in
set_option maxHeartbeats 1000000 in
theorem sameType_any (s t : ByteArray) (A B : Option Addr) (n c m d : Nat) (x y : Typ) (w : World) (hs : byt s = x.1) (ht : byt t = y.1) (h1 : rFlds (All w) w [.slice A n c] x.2) (h2 : rFlds (All w) w [.slice B m d] y.2) :
    Calls Try.prog 67 #[.agg #[.string s, .slice A n c], .agg #[.string t, .slice B m d]] w fun e w' => e = .returned (.bool (decide (x = y))) ∧ Below w.heap.size w w' := by
  have hB : ∀ u v, Below w.heap.size w ((w.alloc (.cells u 51)).alloc (.cells v 51)) := fun u v => ((Below.refl _ w).alloc (Nat.le_refl _) _).alloc (by simp) _
  have T1 := Lib.hid (fun u v => equalF_any A B n c m d x.2 y.2 ((w.alloc (.cells u 51)).alloc (.cells v 51)) (flds_below (hB _ _) h1) (flds_below (hB _ _) h2))
  have hb := str_beq s t
  rw [hs, ht] at hb
  have hd : decide (x = y) = (decide (x.1 = y.1) && decide (x.2 = y.2)) := by
    obtain ⟨a, b⟩ := x
    obtain ⟨a', b'⟩ := y
    simp only [Prod.mk.injEq]
    by_cases e1 : a = a' <;> by_cases e2 : b = b' <;> simp [e1, e2]
  have Hd := Lib.hid hd
  clear hd hs ht h1 h2
  by_cases e1 : x.1 = y.1
  · rw [decide_eq_true e1] at Hd hb
    clear e1
    go_enter Try.func67, Try.ntmps67
    go_wp2_with (first | (go_at_call 90; refine (T1.out _ _).mono ?_; rintro e w1 ⟨rfl, hB1⟩) | fail)
    go_ret
    exact ⟨by rw [Hd.out]; rfl, (hB _ _).trans (hB1.mono (hB _ _).size)⟩
  · rw [decide_eq_false e1] at Hd hb
    clear e1
    go_enter Try.func67, Try.ntmps67
    go_wp2
    go_ret
    exact ⟨by rw [Hd.out]; rfl, hB _ _⟩

set_option maxRecDepth 100000 in
set_option maxHeartbeats 2000000 in
theorem equalT_any (A B : Option Addr) (n c m d : Nat) (l1 l2 : Sch) (w : World) (h1 : rSch (All w) w [.slice A n c] l1) (h2 : rSch (All w) w [.slice B m d] l2) :
    Calls Try.prog 66 #[.slice A n c, .slice B m d, .func (.func 67) #[] #[]] w fun e w' => e = .returned (.bool (decide (l1 = l2))) ∧ Below w.heap.size w w' := by
  obtain ⟨hn, hnc, hcm⟩ := sch_len h1
  obtain ⟨hm, hmd, hdm⟩ := sch_len h2
  simp only [maxLen] at hcm hdm
  by_cases hnm : n = m
  · subst hnm
    have hnn : ((n : Int) != (n : Int)) = false := by simp
    go_enter Try.func66, Try.ntmps66
    go_wp2
    go_loopw [17] (fun iv w' => ∃ i : Nat, i ≤ n ∧ iv = .int .i64 (i : Int) ∧ Below w.heap.size w w' ∧ (∀ j, j < i → l1[j]? = l2[j]?)) (fun iv _ => n - (intOf iv).toNat)
    case atStart => exact ⟨0, by omega, rfl, Below.refl _ _, fun j hj => by omega⟩
    case round =>
      rename_i iv wr
      obtain ⟨i, hi, rfl, hB, hsame⟩ := hrel
      by_cases hin : i < n
      · have hl1 : l1[i]? = some l1[i] := List.getElem?_eq_getElem (by omega)
        have hl2 : l2[i]? = some l2[i] := List.getElem?_eq_getElem (by omega)
        obtain ⟨b1, off1, x1, A1, c1, rfl, hb1, p1, p2, e1, _, r1⟩ := typ_at (sch_below hB h1) hl1
        obtain ⟨b2, off2, x2, A2, c2, rfl, hb2, q1, q2, f1, _, r2⟩ := typ_at (sch_below hB h2) hl2
        have hil : (i : Int) < (n : Int) := by omega
        have hi0 : (0 : Int) ≤ (i : Int) := by omega
        have hne : l1[i] ≠ l2[i] → decide (l1 = l2) = false := fun he => decide_eq_false fun e => he (by subst e; rfl)
        have heq : l1[i] = l2[i] → ∀ j, j < i + 1 → l1[j]? = l2[j]? := fun he j hj => by
          by_cases hji : j < i
          · exact hsame j hji
          · obtain rfl : j = i := by omega
            rw [hl1, hl2, he]
        have Hne := Lib.hid hne
        have Heq := Lib.hid heq
        have HB := Lib.hid hB
        clear hne heq hl1 hl2 hsame h1 h2 hB
        generalize l1[i] = F1 at *
        generalize l2[i] = F2 at *
        have hB1 : ∀ u v, Below wr.heap.size wr ((wr.alloc (.cells u 51)).alloc (.cells v 51)) := fun u v => ((Below.refl _ wr).alloc (Nat.le_refl _) _).alloc (by simp) _
        have S1 := Lib.hid (fun u v => sameType_any x1 x2 A1 A2 F1.2.length c1 F2.2.length c2 F1 F2 ((wr.alloc (.cells u 51)).alloc (.cells v 51)) e1 f1 (flds_below (hB1 _ _) r1) (flds_below (hB1 _ _) r2))
        have q1' : ∀ u, (wr.alloc (.cells u 51)).cell? ⟨b2, off2 + i * 2, none⟩ = some (.string x2) := fun u => (((Below.refl _ wr).alloc (Nat.le_refl _) (.cells u 51)).cell (p := ⟨b2, off2 + i * 2, none⟩) hb2).trans q1
        have q2' : ∀ u, (wr.alloc (.cells u 51)).cell? ⟨b2, off2 + i * 2 + 1, none⟩ = some (.slice A2 F2.2.length c2) := fun u => (((Below.refl _ wr).alloc (Nat.le_refl _) (.cells u 51)).cell (p := ⟨b2, off2 + i * 2 + 1, none⟩) hb2).trans q2
        clear r1 r2 e1 f1
        by_cases he : F1 = F2
        · rw [decide_eq_true he] at S1
          have Hq := Lib.hid (Heq.out he)
          clear Heq Hne he
          generalize F1.2.length = k1 at *
          generalize F2.2.length = k2 at *
          go_wp2_with (first | (go_at_call 67; refine (S1.out _ _).mono ?_; rintro e w1 ⟨rfl, hB2⟩) | fail)
          go_roundw
          case rel => exact ⟨i + 1, by omega, by go_num, HB.out.trans (((hB1 _ _).trans (hB2.mono (hB1 _ _).size)).mono HB.out.size), Hq.out⟩
          case measure => simp [intOf]; omega
        · rw [decide_eq_false he] at S1
          have Hq := Lib.hid (Hne.out he)
          clear Heq Hne he
          generalize F1.2.length = k1 at *
          generalize F2.2.length = k2 at *
          go_wp2_with (first | (go_at_call 67; refine (S1.out _ _).mono ?_; rintro e w1 ⟨rfl, hB2⟩) | fail)
          go_ret
          exact ⟨by rw [Hq.out]; rfl, HB.out.trans (((hB1 _ _).trans (hB2.mono (hB1 _ _).size)).mono HB.out.size)⟩
      · obtain rfl : i = n := by omega
        have heq : l1 = l2 := List.ext_getElem? fun j => by
          by_cases hj : j < i
          · exact hsame j hj
          · rw [List.getElem?_eq_none (by omega), List.getElem?_eq_none (by omega)]
        have hd : decide (l1 = l2) = true := decide_eq_true heq
        have Hd := Lib.hid hd
        clear hd hsame heq
        go_wp2
        go_ret
        exact ⟨by rw [Hd.out]; rfl, hB⟩
  · have hd : decide (l1 = l2) = false := decide_eq_false fun e => hnm (by subst e; omega)
    have hne : ((n : Int) != (m : Int)) = true := by rw [bne_iff_ne]; omega
    rw [hd]
    go_enter Try.func66, Try.ntmps66
    go_wp2
    go_ret
    exact ⟨rfl, Below.refl _ _⟩

set_option maxRecDepth 100000 in
theorem same_any (A B : Option Addr) (n c m d : Nat) (x y : Sch) (w : World) (h1 : rSch (All w) w [.slice A n c] x) (h2 : rSch (All w) w [.slice B m d] y) :
    Calls Try.prog 42 #[.agg #[.slice A n c], .agg #[.slice B m d]] w fun e w' => e = .returned (.bool (decide (x = y))) ∧ Below w.heap.size w w' := by
  have hB : ∀ u v, Below w.heap.size w ((w.alloc (.cells u 24)).alloc (.cells v 24)) := fun u v => ((Below.refl _ w).alloc (Nat.le_refl _) _).alloc (by simp) _
  have T1 := Lib.hid (fun u v => equalT_any A B n c m d x y ((w.alloc (.cells u 24)).alloc (.cells v 24)) (sch_below (hB _ _) h1) (sch_below (hB _ _) h2))
  clear h1 h2
  generalize decide (x = y) = r at *
  go_enter Try.func42, Try.ntmps42
  go_wp2_with (first | (go_at_call 66; refine (T1.out _ _).mono ?_; rintro e w1 ⟨rfl, hB1⟩) | fail)
  go_ret
  exact ⟨rfl, (hB _ _).trans (hB1.mono (hB _ _).size)⟩
end Go.Proofs.Yteafbdebmhpffaa
