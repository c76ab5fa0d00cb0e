/- The contracts of schema's Find and Field, and of slices.IndexFunc with what they ask: the first place of that name. Nothing that was there is changed. No condition. -/
import Derived.Test.YteafbdebmhpffaaScMemAll
namespace Go.Proofs.Yteafbdebmhpffaa
open Go.RowKit

set_option maxRecDepth 100000 in
theorem isT_any (s n : ByteArray) (A2 : Option Addr) (n2 c2 : Nat) (g : Nat) (w : World) (hn : w.cell? ⟨g, 0, none⟩ = some (.string n)) (hg : g < w.heap.size) :
    Calls Try.prog 85 #[.agg #[.string s, .slice A2 n2 c2], .pointer (some ⟨g, 0, none⟩)] w fun e w' => e = .returned (.bool (decide (byt s = byt n))) ∧ Below w.heap.size w w' := by
  have HR : Hid (∀ x, x = (s.toList == n.toList) → Ending.returned (.bool x) = .returned (.bool (decide (byt s = byt n)))) := fun x h => by rw [h, str_beq]
  have hB : ∀ u, Below w.heap.size w (w.alloc (.cells u 51)) := fun u => (Below.refl _ w).alloc (Nat.le_refl _) _
  have hn' : ∀ u, (w.alloc (.cells u 51)).cell? ⟨g, 0, none⟩ = some (.string n) := fun u => ((hB u).cell (p := ⟨g, 0, none⟩) hg).trans hn
  go_enter Try.func85, Try.ntmps85
  go_wp2
  go_ret
  exact ⟨HR.out _ (by rfl), hB _⟩

set_option maxRecDepth 100000 in
set_option maxHeartbeats 1000000 in
theorem indexT_any (A : Option Addr) (N c : Nat) (l : Sch) (n : ByteArray) (g : Nat) (w : World) (h : rSch (All w) w [.slice A N c] l) (hn : w.cell? ⟨g, 0, none⟩ = some (.string n)) (hg : g < w.heap.size) :
    Calls Try.prog 84 #[.slice A N c, .func (.func 85) #[] #[.pointer (some ⟨g, 0, none⟩)]] w fun e w' => e = .returned (.int .i64 (findS l (byt n))) ∧ Below w.heap.size w w' := by
  obtain ⟨hN, hNc, hcm⟩ := sch_len h
  simp only [maxLen] at hcm
  go_enter Try.func84, Try.ntmps84
  go_wp2
  go_loopw [8] (fun iv w' => ∃ i : Nat, i ≤ N ∧ iv = .int .i64 (i : Int) ∧ Below w.heap.size w w' ∧ ∀ j t, j < i → l[j]? = some t → decide (t.1 = byt n) = false) (fun iv _ => N - (intOf iv).toNat)
  case atStart => exact ⟨0, by omega, rfl, Below.refl _ _, fun j t hj => by omega⟩
  case round =>
    rename_i iv wr
    obtain ⟨i, hi, rfl, hB, hno⟩ := hrel
    have h := rSch_stays.to (Keeps.below hB) h
    have hn : wr.cell? ⟨g, 0, none⟩ = some (.string n) := (hB.cell (p := ⟨g, 0, none⟩) hg).trans hn
    have hg : g < wr.heap.size := Nat.lt_of_lt_of_le hg hB.size
    by_cases hin : i < N
    · have hli : l[i]? = some l[i] := List.getElem?_eq_getElem (by omega)
      obtain ⟨b, off, s, A2, c2, rfl, hb, hx1, hx2, hs, hsz, _⟩ := typ_at h hli
      have T1 := Lib.hid (isT_any s n A2 l[i].2.length c2 g wr hn hg)
      rw [hs] at T1
      have hil : (i : Int) < (N : Int) := by omega
      have hi0 : (0 : Int) ≤ (i : Int) := by omega
      have Hno := Lib.hid hno
      have Hli := Lib.hid hli
      have HB := Lib.hid hB
      clear hno hli h hs hB
      by_cases he : l[i].1 = byt n
      · have Hr : Hid (findS l (byt n) = (i : Int)) := (idxP_iff _ l i).2 ⟨⟨l[i], Hli.out, decide_eq_true he⟩, fun j b hj hb => Hno.out j b hj hb⟩
        rw [decide_eq_true he] at T1
        clear he
        generalize l[i] = t at *
        go_wp2_with (first | (go_at_call 85; refine T1.out.mono ?_; rintro e w1 ⟨rfl, hB1⟩) | fail)
        go_ret
        exact ⟨by rw [Hr.out]; rfl, HB.out.trans (hB1.mono HB.out.size)⟩
      · have Hr : Hid (∀ j t, j < i + 1 → l[j]? = some t → decide (t.1 = byt n) = false) := fun j t hj ht => by
          by_cases hji : j < i
          · exact Hno.out j t hji ht
          · obtain rfl : j = i := by omega
            rw [Hli.out] at ht
            injection ht with ht
            subst ht
            exact decide_eq_false he
        rw [decide_eq_false he] at T1
        clear he
        generalize l[i] = t at *
        go_wp2_with (first | (go_at_call 85; refine T1.out.mono ?_; rintro e w1 ⟨rfl, hB1⟩) | fail)
        go_roundw
        case rel => exact ⟨i + 1, by omega, by go_num, HB.out.trans (hB1.mono HB.out.size), Hr.out⟩
        case measure => simp [intOf]; omega
    · obtain rfl : i = N := by omega
      have Hr : Hid (findS l (byt n) = -1) := (idxP_none _ l).2 fun t ht => by
        obtain ⟨j, hj⟩ := List.getElem?_of_mem ht
        have := (List.getElem?_eq_some_iff.1 hj).1
        exact hno j t (by omega) hj
      clear hno
      go_wp2
      go_ret
      exact ⟨by rw [Hr.out]; rfl, hB⟩

set_option maxRecDepth 100000 in
theorem isF_any (s n : ByteArray) (k2 : Int) (s2 : ByteArray) (g : Nat) (w : World) (hn : w.cell? ⟨g, 0, none⟩ = some (.string n)) (hg : g < w.heap.size) :
    Calls Try.prog 101 #[.agg #[.string s, .int .i64 k2, .string s2], .pointer (some ⟨g, 0, none⟩)] w fun e w' => e = .returned (.bool (decide (byt s = byt n))) ∧ Below w.heap.size w w' := by
  have HR : Hid (∀ x, x = (s.toList == n.toList) → Ending.returned (.bool x) = .returned (.bool (decide (byt s = byt n)))) := fun x h => by rw [h, str_beq]
  have hB : ∀ u, Below w.heap.size w (w.alloc (.cells u 48)) := fun u => (Below.refl _ w).alloc (Nat.le_refl _) _
  have hn' : ∀ u, (w.alloc (.cells u 48)).cell? ⟨g, 0, none⟩ = some (.string n) := fun u => ((hB u).cell (p := ⟨g, 0, none⟩) hg).trans hn
  go_enter Try.func101, Try.ntmps101
  go_wp2
  go_ret
  exact ⟨HR.out _ (by rfl), hB _⟩

set_option maxRecDepth 100000 in
set_option maxHeartbeats 1000000 in
theorem indexF_any (A : Option Addr) (N c : Nat) (l : List Fld) (n : ByteArray) (g : Nat) (w : World) (h : rFlds (All w) w [.slice A N c] l) (hn : w.cell? ⟨g, 0, none⟩ = some (.string n)) (hg : g < w.heap.size) :
    Calls Try.prog 100 #[.slice A N c, .func (.func 101) #[] #[.pointer (some ⟨g, 0, none⟩)]] w fun e w' => e = .returned (.int .i64 (fieldS l (byt n))) ∧ Below w.heap.size w w' := by
  obtain ⟨hN, hNc, hcm⟩ := flds_len h
  simp only [maxLen] at hcm
  go_enter Try.func100, Try.ntmps100
  go_wp2
  go_loopw [8] (fun iv w' => ∃ i : Nat, i ≤ N ∧ iv = .int .i64 (i : Int) ∧ Below w.heap.size w w' ∧ ∀ j t, j < i → l[j]? = some t → decide (t.1 = byt n) = false) (fun iv _ => N - (intOf iv).toNat)
  case atStart => exact ⟨0, by omega, rfl, Below.refl _ _, fun j t hj => by omega⟩
  case round =>
    rename_i iv wr
    obtain ⟨i, hi, rfl, hB, hno⟩ := hrel
    have h := rFlds_stays.to (Keeps.below hB) h
    have hn : wr.cell? ⟨g, 0, none⟩ = some (.string n) := (hB.cell (p := ⟨g, 0, none⟩) hg).trans hn
    have hg : g < wr.heap.size := Nat.lt_of_lt_of_le hg hB.size
    by_cases hin : i < N
    · have hli : l[i]? = some l[i] := List.getElem?_eq_getElem (by omega)
      obtain ⟨b, off, s, s2, rfl, hb, hx1, hx2, hx3, hs, hs2, hsz, hsz2, hkk⟩ := fld_at h hli
      have T1 := Lib.hid (isF_any s n l[i].2.1 s2 g wr hn hg)
      rw [hs] at T1
      have hil : (i : Int) < (N : Int) := by omega
      have hi0 : (0 : Int) ≤ (i : Int) := by omega
      have Hno := Lib.hid hno
      have Hli := Lib.hid hli
      have HB := Lib.hid hB
      clear hno hli h hs hB
      by_cases he : l[i].1 = byt n
      · have Hr : Hid (fieldS l (byt n) = (i : Int)) := (idxP_iff _ l i).2 ⟨⟨l[i], Hli.out, decide_eq_true he⟩, fun j b hj hb => Hno.out j b hj hb⟩
        rw [decide_eq_true he] at T1
        clear he
        generalize l[i] = t at *
        go_wp2_with (first | (go_at_call 101; refine T1.out.mono ?_; rintro e w1 ⟨rfl, hB1⟩) | fail)
        go_ret
        exact ⟨by rw [Hr.out]; rfl, HB.out.trans (hB1.mono HB.out.size)⟩
      · have Hr : Hid (∀ j t, j < i + 1 → l[j]? = some t → decide (t.1 = byt n) = false) := fun j t hj ht => by
          by_cases hji : j < i
          · exact Hno.out j t hji ht
          · obtain rfl : j = i := by omega
            rw [Hli.out] at ht
            injection ht with ht
            subst ht
            exact decide_eq_false he
        rw [decide_eq_false he] at T1
        clear he
        generalize l[i] = t at *
        go_wp2_with (first | (go_at_call 101; refine T1.out.mono ?_; rintro e w1 ⟨rfl, hB1⟩) | fail)
        go_roundw
        case rel => exact ⟨i + 1, by omega, by go_num, HB.out.trans (hB1.mono HB.out.size), Hr.out⟩
        case measure => simp [intOf]; omega
    · obtain rfl : i = N := by omega
      have Hr : Hid (fieldS l (byt n) = -1) := (idxP_none _ l).2 fun t ht => by
        obtain ⟨j, hj⟩ := List.getElem?_of_mem ht
        have := (List.getElem?_eq_some_iff.1 hj).1
        exact hno j t (by omega) hj
      clear hno
      go_wp2
      go_ret
      exact ⟨by rw [Hr.out]; rfl, hB⟩

set_option maxRecDepth 100000 in
theorem find_any (A : Option Addr) (N c : Nat) (l : Sch) (n : ByteArray) (w : World) (h : rSch (All w) w [.slice A N c] l) :
    Calls Try.prog 62 #[.agg #[.slice A N c], .string n] w fun e w' => e = .returned (.int .i64 (findS l (byt n))) ∧ Below w.heap.size w w' := by
  have hB : ∀ u v, Below w.heap.size w ((w.alloc (.cells u 24)).alloc (.cells v 9)) := fun u v => ((Below.refl _ w).alloc (Nat.le_refl _) _).alloc (by simp) _
  have T1 := Lib.hid (fun u => indexT_any A N c l n (w.heap.size + 1) ((w.alloc (.cells u 24)).alloc (.cells #[.string n] 9)) (sch_below (hB _ _) h) (by rw [World.cell?_alloc_at _ _ _ _ (by simp)]; rfl) (by simp))
  clear h
  go_enter Try.func62, Try.ntmps62
  go_wp2_with (first | (go_at_call 84; refine (T1.out _).mono ?_; rintro e w1 ⟨rfl, hB1⟩) | fail)
  go_ret
  exact ⟨rfl, (hB _ _).trans (hB1.mono (hB _ _).size)⟩

set_option maxRecDepth 100000 in
theorem field_any (s : ByteArray) (A : Option Addr) (N c : Nat) (l : List Fld) (n : ByteArray) (w : World) (h : rFlds (All w) w [.slice A N c] l) :
    Calls Try.prog 86 #[.agg #[.string s, .slice A N c], .string n] w fun e w' => e = .returned (.int .i64 (fieldS l (byt n))) ∧ Below w.heap.size w w' := by
  have hB : ∀ u v, Below w.heap.size w ((w.alloc (.cells u 51)).alloc (.cells v 9)) := fun u v => ((Below.refl _ w).alloc (Nat.le_refl _) _).alloc (by simp) _
  have T1 := Lib.hid (fun u => indexF_any A N c l n (w.heap.size + 1) ((w.alloc (.cells u 51)).alloc (.cells #[.string n] 9)) (flds_below (hB _ _) h) (by rw [World.cell?_alloc_at _ _ _ _ (by simp)]; rfl) (by simp))
  clear h
  go_enter Try.func86, Try.ntmps86
  go_wp2_with (first | (go_at_call 100; refine (T1.out _).mono ?_; rintro e w1 ⟨rfl, hB1⟩) | fail)
  go_ret
  exact ⟨rfl, (hB _ _).trans (hB1.mono (hB _ _).size)⟩
end Go.Proofs.Yteafbdebmhpffaa
