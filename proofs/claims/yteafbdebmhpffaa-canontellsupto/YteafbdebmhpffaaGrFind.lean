/- The contracts of graph.Find and of slices.IndexFunc with what it asks: the first place of that id. Nothing that was there is changed. No condition. -/
import Derived.Test.YteafbdebmhpffaaGrMem
import Derived.Test.YteafbdebmhpffaaScFind
namespace Go.Proofs.Yteafbdebmhpffaa
open Go.RowKit

set_option maxRecDepth 100000 in
theorem isO_any (x y : Int) (A2 : Option Addr) (n2 c2 : Nat) (n : Int) (g : Nat) (w : World) (hn : w.cell? ⟨g, 0, none⟩ = some (.int .i64 n)) (hg : g < w.heap.size) :
    Calls Try.prog 53 #[.agg #[.int .i64 x, .int .i64 y, .slice A2 n2 c2], .pointer (some ⟨g, 0, none⟩)] w fun e w' => e = .returned (.bool (decide (x = n))) ∧ Below w.heap.size w w' := by
  have hB : ∀ u, Below w.heap.size w (w.alloc (.cells u 38)) := fun u => (Below.refl _ w).alloc (Nat.le_refl _) _
  have hn' : ∀ u, (w.alloc (.cells u 38)).cell? ⟨g, 0, none⟩ = some (.int .i64 n) := fun u => ((hB u).cell (p := ⟨g, 0, none⟩) hg).trans hn
  have HR : Hid (Ending.returned (.bool (x == n)) = .returned (.bool (decide (x = n)))) := Lib.hid (by rw [show (x == n) = decide (x = n) from by by_cases h : x = n <;> simp [h]])
  go_enter Try.func53, Try.ntmps53
  go_wp2
  go_ret
  exact ⟨HR.out, hB _⟩

set_option maxRecDepth 100000 in
set_option maxHeartbeats 1000000 in
theorem indexO_any (A : Option Addr) (N c : Nat) (l : List Ob) (n : Int) (g : Nat) (w : World) (h : rObs (All w) w [.slice A N c] l) (hn : w.cell? ⟨g, 0, none⟩ = some (.int .i64 n)) (hg : g < w.heap.size) :
    Calls Try.prog 52 #[.slice A N c, .func (.func 53) #[] #[.pointer (some ⟨g, 0, none⟩)]] w fun e w' => e = .returned (.int .i64 (findG l n)) ∧ Below w.heap.size w w' := by
  obtain ⟨hN, hNc, hcm⟩ := slice_len h
  simp only [maxLen] at hcm
  go_enter Try.func52, Try.ntmps52
  go_wp2
  go_loopw [8] (fun iv w' => ∃ i : Nat, i ≤ N ∧ iv = .int .i64 (i : Int) ∧ Below w.heap.size w w' ∧ ∀ j o, j < i → l[j]? = some o → decide (o.1 = n) = false) (fun iv _ => N - (intOf iv).toNat)
  case atStart => exact ⟨0, by omega, rfl, Below.refl _ _, fun j t hj => by omega⟩
  case round =>
    rename_i iv wr
    obtain ⟨i, hi, rfl, hB, hno⟩ := hrel
    have h := obs_below hB h
    have hn : wr.cell? ⟨g, 0, none⟩ = some (.int .i64 n) := (hB.cell (p := ⟨g, 0, none⟩) hg).trans hn
    have hg : g < wr.heap.size := Nat.lt_of_lt_of_le hg hB.size
    by_cases hin : i < N
    · have hli : l[i]? = some l[i] := List.getElem?_eq_getElem (by omega)
      obtain ⟨b, off, A2, c2, rfl, hb, hx1, hx2, hx3, -, -, -⟩ := ob_at h hli
      have T1 := Lib.hid (isO_any l[i].1 l[i].2.1 A2 l[i].2.2.length c2 n g wr hn hg)
      have hil : (i : Int) < (N : Int) := by omega
      have hi0 : (0 : Int) ≤ (i : Int) := by omega
      have Hno := Lib.hid hno
      have Hli := Lib.hid hli
      have HB := Lib.hid hB
      clear hno hli h hB
      by_cases he : l[i].1 = n
      · have Hr : Hid (findG l n = (i : Int)) := (idxP_iff _ l i).2 ⟨⟨l[i], Hli.out, decide_eq_true he⟩, fun j b hj hb => Hno.out j b hj hb⟩
        rw [decide_eq_true he] at T1
        clear he
        generalize l[i].1 = x1 at *
        generalize l[i].2.1 = x2 at *
        generalize l[i].2.2.length = x3 at *
        go_wp2_with (first | (go_at_call 53; refine T1.out.mono ?_; rintro e w1 ⟨rfl, hB1⟩) | fail)
        go_ret
        exact ⟨by rw [Hr.out]; rfl, HB.out.trans (hB1.mono HB.out.size)⟩
      · have Hr : Hid (∀ j o, j < i + 1 → l[j]? = some o → decide (o.1 = n) = false) := fun j t hj ht => by
          by_cases hji : j < i
          · exact Hno.out j t hji ht
          · obtain rfl : j = i := by omega
            rw [Hli.out] at ht
            injection ht with ht
            subst ht
            exact decide_eq_false he
        rw [decide_eq_false he] at T1
        clear he
        generalize l[i].1 = x1 at *
        generalize l[i].2.1 = x2 at *
        generalize l[i].2.2.length = x3 at *
        go_wp2_with (first | (go_at_call 53; refine T1.out.mono ?_; rintro e w1 ⟨rfl, hB1⟩) | fail)
        go_roundw
        case rel => exact ⟨i + 1, by omega, by go_num, HB.out.trans (hB1.mono HB.out.size), Hr.out⟩
        case measure => simp [intOf]; omega
    · obtain rfl : i = N := by omega
      have Hr : Hid (findG l n = -1) := (idxP_none _ l).2 fun t ht => by
        obtain ⟨j, hj⟩ := List.getElem?_of_mem ht
        have := (List.getElem?_eq_some_iff.1 hj).1
        exact hno j t (by omega) hj
      clear hno
      go_wp2
      go_ret
      exact ⟨by rw [Hr.out]; rfl, hB⟩

set_option maxRecDepth 100000 in
theorem gfind_any (A B C : Option Addr) (N c M d K e : Nat) (g : Gr) (n : Int) (w : World) (h : rGr (All w) w [.slice A N c, .slice B M d, .slice C K e] g) :
    Calls Try.prog 29 #[.agg #[.slice A N c, .slice B M d, .slice C K e], .int .i64 n] w fun e w' => e = .returned (.int .i64 (findG g.2.1 n)) ∧ Below w.heap.size w w' := by
  have hB : ∀ u v, Below w.heap.size w ((w.alloc (.cells u 28)).alloc (.cells v 3)) := fun u v => ((Below.refl _ w).alloc (Nat.le_refl _) _).alloc (by simp) _
  have T1 := Lib.hid (fun u => indexO_any B M d g.2.1 n (w.heap.size + 1) ((w.alloc (.cells u 28)).alloc (.cells #[.int .i64 n] 3)) (obs_below (hB _ _) (rGr_open h).2.1) (by rw [World.cell?_alloc_at _ _ _ _ (by simp)]; rfl) (by simp))
  clear h
  generalize findG g.2.1 n = r at *
  go_enter Try.func29, Try.ntmps29
  go_wp2_with (first | (go_at_call 52; refine (T1.out _).mono ?_; rintro e w1 ⟨rfl, hB1⟩) | fail)
  go_ret
  exact ⟨rfl, (hB _ _).trans (hB1.mono (hB _ _).size)⟩
end Go.Proofs.Yteafbdebmhpffaa
