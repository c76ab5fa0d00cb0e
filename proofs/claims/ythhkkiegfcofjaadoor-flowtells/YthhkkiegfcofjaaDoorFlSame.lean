/- The contracts of slices.EqualFunc with bytes.Equal, and of flow.Same: are two flows the same. No condition. -/
import Derived.Test.YthhkkiegfcofjaaDoorFlMem
namespace Go.Proofs.YthhkkiegfcofjaaDoor
open Go.RowKit

set_option maxRecDepth 100000 in
set_option maxHeartbeats 1000000 in
theorem equalParts_any (A B : Option Addr) (n c m d : Nat) (l1 l2 : List (List Nat)) (w : World) (h1 : rPts (All w) w [.slice A n c] l1) (h2 : rPts (All w) w [.slice B m d] l2) :
    Calls Tryd.prog 35 #[.slice A n c, .slice B m d, .func (.func 36) #[] #[]] w fun e w' => e = .returned (.bool (decide (l1 = l2))) ∧ w = w' := by
  obtain ⟨hn, hnc, hcm⟩ := pts_len h1
  obtain ⟨hm, hmd, hdm⟩ := pts_len h2
  simp only [maxLen] at hcm hdm
  by_cases hnm : n = m
  · subst hnm
    have hnn : ((n : Int) != (n : Int)) = false := by simp
    go_enter Tryd.func35, Tryd.ntmps35
    go_wp2
    go_loop [17] (fun iv => ∃ i : Nat, i ≤ n ∧ iv = .int .i64 (i : Int) ∧ (∀ j, j < i → l1[j]? = l2[j]?)) (fun iv => n - (intOf iv).toNat)
    case atStart => exact ⟨0, by omega, rfl, fun j hj => by omega⟩
    case round =>
      obtain ⟨i, hi, rfl, hsame⟩ := hrel
      by_cases hin : i < n
      · have hl1 : l1[i]? = some l1[i] := List.getElem?_eq_getElem (by omega)
        have hl2 : l2[i]? = some l2[i] := List.getElem?_eq_getElem (by omega)
        obtain ⟨b1, off1, A1, c1, rfl, hb1, hx1, _, _, hby1, hr1⟩ := pts_at h1 hl1
        obtain ⟨b2, off2, A2, c2, rfl, hb2, hx2, _, _, hby2, hr2⟩ := pts_at h2 hl2
        have S1 := Lib.hid (equal_any A1 A2 l1[i].length c1 l2[i].length c2 l1[i] l2[i] w rfl rfl hby1 hby2 (RdIn.rd hr1) (RdIn.rd hr2))
        have hil : (i : Int) < (n : Int) := by omega
        have hi0 : (0 : Int) ≤ (i : Int) := by omega
        have hne : l1[i] ≠ l2[i] → decide (l1 = l2) = false := fun he => decide_eq_false fun e => he (by subst e; rfl)
        have heq : l1[i] = l2[i] → ∀ j, j < i + 1 → l1[j]? = l2[j]? := fun he j hj => by
          by_cases hji : j < i
          · exact hsame j hji
          · obtain rfl : j = i := by omega
            rw [hl1, hl2, he]
        have Hne := Lib.hid hne
        have Heq := Lib.hid heq
        clear hne heq hr1 hr2 hl1 hl2 hsame hby1 hby2
        generalize l1[i] = f1 at *
        generalize l2[i] = f2 at *
        by_cases he : f1 = f2
        · have hd : (f1 == f2) = true := by simpa using he
          rw [hd] at S1
          have Hq := Lib.hid (Heq.out he)
          clear he hd
          go_wp2_with (first | (go_at_call 36; refine S1.out.mono ?_; rintro e w1 ⟨rfl, rfl⟩) | fail)
          go_round
          case rel => exact ⟨i + 1, by omega, by go_num, Hq.out⟩
          case measure => simp [intOf]; omega
        · have hd : (f1 == f2) = false := by simpa using he
          rw [hd] at S1
          have Hq := Lib.hid (Hne.out he)
          clear he hd
          go_wp2_with (first | (go_at_call 36; refine S1.out.mono ?_; rintro e w1 ⟨rfl, rfl⟩) | fail)
          go_ret
          exact ⟨by rw [Hq.out]; rfl, rfl⟩
      · obtain rfl : i = n := by omega
        have heq : l1 = l2 := List.ext_getElem? fun j => by
          by_cases hj : j < i
          · exact hsame j hj
          · rw [List.getElem?_eq_none (by omega), List.getElem?_eq_none (by omega)]
        have hd : decide (l1 = l2) = true := decide_eq_true heq
        have Hd := Lib.hid hd
        clear hd hsame heq
        go_wp2
        go_ret
        exact ⟨by rw [Hd.out]; rfl, rfl⟩
  · have hd : decide (l1 = l2) = false := decide_eq_false fun e => hnm (by subst e; omega)
    have hne : ((n : Int) != (m : Int)) = true := by rw [bne_iff_ne]; omega
    rw [hd]
    go_enter Tryd.func35, Tryd.ntmps35
    go_wp2
    go_ret
    exact ⟨rfl, rfl⟩

set_option maxRecDepth 100000 in
theorem fsame_any (A B : Option Addr) (n c m d : Nat) (f g : Flo) (w : World) (h1 : rPts (All w) w [.slice A n c] f.2) (h2 : rPts (All w) w [.slice B m d] g.2) :
    Calls Tryd.prog 22 #[.agg #[.int .u32 f.1, .slice A n c], .agg #[.int .u32 g.1, .slice B m d]] w fun e w' => e = .returned (.bool (decide (f = g))) ∧ Below w.heap.size w w' := by
  have hB : ∀ u v, Below w.heap.size w ((w.alloc (.cells u 25)).alloc (.cells v 25)) := fun u v => ((Below.refl _ w).alloc (Nat.le_refl _) _).alloc (by simp) _
  have T1 := Lib.hid (fun u v => equalParts_any A B n c m d f.2 g.2 ((w.alloc (.cells u 25)).alloc (.cells v 25)) (rPts_stays.to (Keeps.below (hB _ _)) h1) (rPts_stays.to (Keeps.below (hB _ _)) h2))
  have hd : decide (f = g) = (f.1 == g.1 && decide (f.2 = g.2)) := by
    by_cases e1 : f.1 = g.1
    · by_cases e2 : f.2 = g.2
      · rw [decide_eq_true (Prod.ext e1 e2)]; simp [e1, e2]
      · rw [decide_eq_false (fun e => e2 (by rw [e]))]; simp [e2]
    · rw [decide_eq_false (fun e => e1 (by rw [e]))]; simp [e1]
  have Hd := Lib.hid hd
  clear hd
  by_cases e1 : f.1 = g.1
  · have e2 : (f.1 == g.1) = true := by simpa using e1
    rw [e2] at Hd
    clear e1
    go_enter Tryd.func22, Tryd.ntmps22
    go_wp2_with (first | (go_at_call 35; refine (T1.out _ _).mono ?_; rintro e w1 ⟨rfl, rfl⟩) | fail)
    go_ret
    exact ⟨by rw [Hd.out]; rfl, hB _ _⟩
  · have e2 : (f.1 == g.1) = false := by simpa using e1
    rw [e2] at Hd
    clear e1
    go_enter Tryd.func22, Tryd.ntmps22
    go_wp2
    go_ret
    exact ⟨by rw [Hd.out]; rfl, hB _ _⟩
end Go.Proofs.YthhkkiegfcofjaaDoor
