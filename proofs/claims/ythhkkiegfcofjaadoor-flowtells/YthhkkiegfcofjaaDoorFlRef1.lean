/- The contracts of the document's own May, Same and Ints of flows. Nothing that was there is changed. No condition. -/
import Derived.Test.YthhkkiegfcofjaaDoorFlMem
import Derived.Test.YthhkkiegfcofjaaDoorFlCuts
import Derived.Test.YthhkkiegfcofjaaDoorFlHeldAll
namespace Go.Proofs.YthhkkiegfcofjaaDoor
open Go.RowKit

set_option maxRecDepth 100000 in
set_option maxHeartbeats 400000 in
theorem rmay_any (A : Option Addr) (n c : Nat) (f : Flo) (w : World) (h : rPts (All w) w [.slice A n c] f.2) :
    Calls Tryd.prog 20 #[.agg #[.int .u32 f.1, .slice A n c]] w fun e w' => e = .returned (.bool (mayB f)) ∧ Below w.heap.size w w' := by
  obtain ⟨hn, hnc, hcm⟩ := pts_len h
  have hcm2 := hcm
  simp only [maxLen] at hcm2
  have hB : Below w.heap.size w (w.alloc (.cells #[.int .u32 f.1, .slice A n c] 25)) := (Below.refl _ w).alloc (Nat.le_refl _) _
  have hbox := Blk.new w 25 [.int .u32 f.1, .slice A n c]
  have hm : mayB f = (decide (n ≤ 40) && f.2.all fun p => decide (p.length ≤ 200)) := by rw [mayB, hn]
  have Hm := Lib.hid hm
  clear hm
  go_enter Tryd.func20, Tryd.ntmps20
  go_wp2
  generalize hWW : w.alloc (.cells #[.int .u32 f.1, .slice A n c] 25) = wb at *
  have hx1 := hbox.cell (j := 1) rfl
  go_loop [3] (fun iv => ∃ i : Nat, i ≤ n ∧ iv = .int .i64 (i : Int) ∧ ∀ p ∈ f.2.take i, p.length ≤ 200) (fun iv => n - (intOf iv).toNat)
  case atStart => exact ⟨0, by omega, rfl, by simp⟩
  case round =>
    obtain ⟨i, hi, rfl, hall⟩ := hrel
    by_cases hin : i < n
    · obtain ⟨p, hli⟩ : ∃ p, f.2[i]? = some p := ⟨f.2[i], List.getElem?_eq_getElem (by omega)⟩
      obtain ⟨b, off, A1, c1, rfl, hb, hx, _, _, _, _⟩ := pts_at h hli
      have hx' := (hB.cell (p := ⟨b, off + i, none⟩) hb).trans hx
      have hmem : p ∈ f.2 := List.mem_of_getElem? hli
      have htk : f.2.take (i + 1) = f.2.take i ++ [p] := by rw [List.take_add_one, hli]; rfl
      have Hmem := Lib.hid hmem
      have Htk := Lib.hid htk
      have Hall := Lib.hid hall
      clear hmem htk hall hli
      have hil : (i : Int) < (n : Int) := by omega
      have hi0 : (0 : Int) ≤ (i : Int) := by omega
      by_cases hp : 200 < p.length
      · have hp' : decide ((200 : Int) < (p.length : Int)) = true := by simp; omega
        have hr : mayB f = false := by
          rw [Hm.out, Bool.and_eq_false_iff]
          right
          rw [List.all_eq_false]
          exact ⟨p, Hmem.out, by simpa using hp⟩
        have Hr := Lib.hid hr
        clear hr
        go_wp2
        go_ret
        exact ⟨by rw [Hr.out]; rfl, hB⟩
      · have hp' : decide ((200 : Int) < (p.length : Int)) = false := by simp; omega
        go_wp2
        go_round
        case rel =>
          refine ⟨i + 1, by omega, by go_num, fun q hq => ?_⟩
          rw [Htk.out] at hq
          rcases List.mem_append.1 hq with hq | hq
          · exact Hall.out q hq
          · simp at hq; subst hq; omega
        case measure => simp [intOf]; omega
    · obtain rfl : i = n := by omega
      have hl : f.2.all (fun p => decide (p.length ≤ 200)) = true := by
        rw [List.all_eq_true]
        intro p hp
        rw [decide_eq_true_iff]
        exact hall p (by rw [List.take_of_length_le (by omega)]; exact hp)
      rw [hl, Bool.and_true] at Hm
      clear hl hall
      go_wp2
      go_ret
      refine ⟨?_, hB⟩
      rw [Hm.out]
      congr 2
      simp
      omega

set_option maxRecDepth 100000 in
set_option maxHeartbeats 400000 in
theorem ints_any (A B : Option Addr) (n c m d : Nat) (l1 l2 : List Nat) (w : World) (hn : l1.length = n) (hm : l2.length = m) (hnc : n ≤ 1000000) (h1 : Rd w A (i64s l1)) (h2 : Rd w B (i64s l2)) :
    Calls Tryd.prog 19 #[.slice A n c, .slice B m d] w fun e w' => e = .returned (.bool (decide (l1 = l2))) ∧ Below w.heap.size w w' := by
  by_cases hnm : n = m
  · subst hnm
    have hnn : ((n : Int) != (n : Int)) = false := by simp
    go_enter Tryd.func19, Tryd.ntmps19
    go_wp2
    go_loopw [5] (fun iv wr => ∃ i : Nat, i ≤ n ∧ iv = .int .i64 (i : Int) ∧ (∀ j, j < i → l1[j]? = l2[j]?) ∧ Below w.heap.size w wr) (fun iv _ => n - (intOf iv).toNat)
    case atStart => exact ⟨0, by omega, rfl, fun j hj => by omega, Below.refl _ _⟩
    case round =>
      obtain ⟨i, hi, rfl, hsame, hB⟩ := hrel
      by_cases hin : i < n
      · obtain ⟨x, hl1⟩ : ∃ x, l1[i]? = some x := ⟨l1[i], List.getElem?_eq_getElem (by omega)⟩
        obtain ⟨y, hl2⟩ : ∃ y, l2[i]? = some y := ⟨l2[i], List.getElem?_eq_getElem (by omega)⟩
        obtain ⟨b1, off1, rfl, hb1, hc1⟩ := h1.at (k := i) (by simp; omega)
        obtain ⟨b2, off2, rfl, hb2, hc2⟩ := h2.at (k := i) (by simp; omega)
        have hx : wr.drew.cell? ⟨b1, off1 + i, none⟩ = some (.int .i64 (x : Int)) := (hB.drew.cell (p := ⟨b1, off1 + i, none⟩) hb1).trans (hc1 i _ (i64s_get hl1))
        have hy : wr.drew.cell? ⟨b2, off2 + i, none⟩ = some (.int .i64 (y : Int)) := (hB.drew.cell (p := ⟨b2, off2 + i, none⟩) hb2).trans (hc2 i _ (i64s_get hl2))
        have hil : (i : Int) < (n : Int) := by omega
        have hi0 : (0 : Int) ≤ (i : Int) := by omega
        have hne : x ≠ y → decide (l1 = l2) = false := fun he => decide_eq_false fun e => he (by subst e; exact Option.some.inj (hl1.symm.trans hl2))
        have heq : x = y → ∀ j, j < i + 1 → l1[j]? = l2[j]? := fun he j hj => by
          by_cases hji : j < i
          · exact hsame j hji
          · obtain rfl : j = i := by omega
            rw [hl1, hl2, he]
        have Hne := Lib.hid hne
        have Heq := Lib.hid heq
        have hBd := hB.drew
        clear hne heq hl1 hl2 hsame hc1 hc2
        go_wp2_with fail
        refine sch_start [(0, true), (1, true), (2, true), (3, true), (4, true), (5, true), (6, true), (7, true), (8, true)]
          (fun W => W = wr.drew) (by kernel_rfl) rfl (by kernel_rfl) (fun _ _ _ _ _ h => h) rfl (fun hH => ?_)
        repeat (first | (refine sch_yes (v := ?_) rfl rfl ?_ hH ?_; rotate_left; (focus ((intro W hW; go_simp) <;> with_reducible rfl)); simp only [Act.put, List.setIfInBounds_toArray, List.set_cons_zero, List.set_cons_succ]) | (refine sch_no rfl rfl hH ?_; simp only [Act.put, List.setIfInBounds_toArray, List.set_cons_zero, List.set_cons_succ]))
        refine sch_done ?_
        by_cases he : x = y
        · have Hq := Lib.hid (Heq.out he)
          subst he
          go_wp2
          go_roundw
          case rel => exact ⟨i + 1, by omega, by go_num, Hq.out, hBd⟩
          case measure => simp [intOf]; omega
        · have Hq := Lib.hid (Hne.out he)
          have hd : ((x : Int) != (y : Int)) = true := by rw [bne_iff_ne]; omega
          have hd' : (x != y) = true := by rw [bne_iff_ne]; omega
          clear he
          go_wp2
          go_ret
          exact ⟨by rw [Hq.out]; rfl, hBd⟩
      · obtain rfl : i = n := by omega
        have heq : l1 = l2 := List.ext_getElem? fun j => by
          by_cases hj : j < i
          · exact hsame j hj
          · rw [List.getElem?_eq_none (by omega), List.getElem?_eq_none (by omega)]
        have hd : decide (l1 = l2) = true := decide_eq_true heq
        have Hd := Lib.hid hd
        clear hd hsame heq
        go_wp2
        go_ret
        exact ⟨by rw [Hd.out]; rfl, hB⟩
  · have hd : decide (l1 = l2) = false := decide_eq_false fun e => hnm (by subst e; omega)
    have hne : ((n : Int) != (m : Int)) = true := by rw [bne_iff_ne]; omega
    rw [hd]
    go_enter Tryd.func19, Tryd.ntmps19
    go_wp2
    go_ret
    exact ⟨rfl, Below.refl _ _⟩

set_option maxRecDepth 100000 in
set_option maxHeartbeats 1000000 in
theorem rfsame_any (A B : Option Addr) (n c m d : Nat) (f g : Flo) (w : World) (h1 : rPts (All w) w [.slice A n c] f.2) (h2 : rPts (All w) w [.slice B m d] g.2) :
    Calls Tryd.prog 18 #[.agg #[.int .u32 f.1, .slice A n c], .agg #[.int .u32 g.1, .slice B m d]] w fun e w' => e = .returned (.bool (decide (f = g))) ∧ Below w.heap.size w w' := by
  obtain ⟨hn, hnc, hcm⟩ := pts_len h1
  obtain ⟨hm, hmd, hdm⟩ := pts_len h2
  simp only [maxLen] at hcm hdm
  have hB0 : Below w.heap.size w ((w.alloc (.cells #[.int .u32 f.1, .slice A n c] 25)).alloc (.cells #[.int .u32 g.1, .slice B m d] 25)) := ((Below.refl _ w).alloc (Nat.le_refl _) _).alloc (by simp) _
  have b1 := (Blk.new w 25 [.int .u32 f.1, .slice A n c]).alloc (.cells #[.int .u32 g.1, .slice B m d] 25)
  have b2 := Blk.new (w.alloc (.cells #[.int .u32 f.1, .slice A n c] 25)) 25 [.int .u32 g.1, .slice B m d]
  rw [World.size_alloc] at b2
  by_cases hgo : f.1 = g.1 ∧ n = m
  · obtain ⟨hb, rfl⟩ := hgo
    have hb' : (f.1 != g.1) = false := by rw [bne_eq_false_iff_eq]; exact hb
    have hnn : ((n : Int) != (n : Int)) = false := by simp
    have hdec : decide (f = g) = decide (f.2 = g.2) := by
      by_cases he : f.2 = g.2
      · rw [decide_eq_true he, decide_eq_true (Prod.ext hb he)]
      · rw [decide_eq_false he, decide_eq_false fun e => he (by rw [e])]
    rw [hdec]
    clear hdec hb
    generalize f.2 = l1 at *
    generalize g.2 = l2 at *
    go_enter Tryd.func18, Tryd.ntmps18
    go_wp2
    generalize hW0 : (w.alloc (.cells #[.int .u32 f.1, .slice A n c] 25)).alloc (.cells #[.int .u32 g.1, .slice B n d] 25) = w0 at *
    have hs0 : w.heap.size + 1 < w0.heap.size := b2.lt
    clear hW0
    go_loopw [5] (fun iv wr => ∃ i : Nat, i ≤ n ∧ iv = .int .i64 (i : Int) ∧ (∀ j, j < i → l1[j]? = l2[j]?) ∧ Below w0.heap.size w0 wr) (fun iv _ => n - (intOf iv).toNat)
    case atStart => exact ⟨0, by omega, rfl, fun j hj => by omega, Below.refl _ _⟩
    case round =>
      obtain ⟨i, hi, rfl, hsame, hB⟩ := hrel
      have x1 := (b1.below (by omega) hB).cell (j := 1) rfl
      have x2 := (b2.below hs0 hB).cell (j := 1) rfl
      have hBw := hB0.trans (hB.mono hB0.size)
      by_cases hin : i < n
      · obtain ⟨p, hl1⟩ : ∃ p, l1[i]? = some p := ⟨l1[i], List.getElem?_eq_getElem (by omega)⟩
        obtain ⟨q, hl2⟩ : ∃ q, l2[i]? = some q := ⟨l2[i], List.getElem?_eq_getElem (by omega)⟩
        obtain ⟨c1, off1, A1, d1, rfl, hc1, hx1, _, _, hby1, hr1⟩ := pts_at h1 hl1
        obtain ⟨c2, off2, A2, d2, rfl, hc2, hx2, _, _, hby2, hr2⟩ := pts_at h2 hl2
        have hBd := hBw.drew
        have y1 : wr.drew.cell? ⟨w.heap.size, 1, none⟩ = some (.slice (some ⟨c1, off1, none⟩) n c) := x1
        have y2 : wr.drew.cell? ⟨w.heap.size + 1, 1, none⟩ = some (.slice (some ⟨c2, off2, none⟩) n d) := x2
        have g1 := (hBd.cell (p := ⟨c1, off1 + i, none⟩) hc1).trans hx1
        have g2 := (hBd.cell (p := ⟨c2, off2 + i, none⟩) hc2).trans hx2
        have t1 := conv_B A1 p p.length d1 wr.drew rfl ((RdIn.rd hr1).below hBd)
        have t2 := conv_B A2 q q.length d2 wr.drew rfl ((RdIn.rd hr2).below hBd)
        have hstr := str_eq hby1 hby2
        have hil : (i : Int) < (n : Int) := by omega
        have hi0 : (0 : Int) ≤ (i : Int) := by omega
        have hne : p ≠ q → decide (l1 = l2) = false := fun he => decide_eq_false fun e => he (by subst e; exact Option.some.inj (hl1.symm.trans hl2))
        have heq : p = q → ∀ j, j < i + 1 → l1[j]? = l2[j]? := fun he j hj => by
          by_cases hji : j < i
          · exact hsame j hji
          · obtain rfl : j = i := by omega
            rw [hl1, hl2, he]
        have Hne := Lib.hid hne
        have Heq := Lib.hid heq
        have hBd0 := hB.drew
        have hbne : ((strB p).toList != (strB q).toList) = !(p == q) := by rw [bne, hstr]
        clear hne heq hl1 hl2 hsame hr1 hr2 hby1 hby2 hx1 hx2
        by_cases he : p = q
        · have Hq := Lib.hid (Heq.out he)
          have hd2 : ((strB p).toList != (strB q).toList) = false := by rw [hbne]; simp [he]
          have hd1 : ((strB p).toList == (strB q).toList) = true := by rw [hstr]; simp [he]
          clear he hstr hbne
          go_wp2_with fail
          refine sch_start [(0, true), (1, true), (2, true), (3, true), (4, true), (5, true), (6, true), (7, true), (8, true), (9, true), (10, true), (11, true), (12, true)]
            (fun W => W = wr.drew) (by kernel_rfl) rfl (by kernel_rfl) (fun _ _ _ _ _ h => h) rfl (fun hH => ?_)
          repeat (first | (refine sch_yes (v := ?_) rfl rfl ?_ hH ?_; rotate_left; (focus ((intro W hW; go_simp) <;> with_reducible rfl)); simp only [Act.put, List.setIfInBounds_toArray, List.set_cons_zero, List.set_cons_succ]) | (refine sch_no rfl rfl hH ?_; simp only [Act.put, List.setIfInBounds_toArray, List.set_cons_zero, List.set_cons_succ]))
          refine sch_done ?_
          go_wp2
          go_roundw
          case rel => exact ⟨i + 1, by omega, by go_num, Hq.out, hBd0⟩
          case measure => simp [intOf]; omega
        · have Hq := Lib.hid (Hne.out he)
          have hd2 : ((strB p).toList != (strB q).toList) = true := by rw [hbne]; simp [he]
          have hd1 : ((strB p).toList == (strB q).toList) = false := by rw [hstr]; simp [he]
          clear he hstr hbne
          go_wp2_with fail
          refine sch_start [(0, true), (1, true), (2, true), (3, true), (4, true), (5, true), (6, true), (7, true), (8, true), (9, true), (10, true), (11, true), (12, true)]
            (fun W => W = wr.drew) (by kernel_rfl) rfl (by kernel_rfl) (fun _ _ _ _ _ h => h) rfl (fun hH => ?_)
          repeat (first | (refine sch_yes (v := ?_) rfl rfl ?_ hH ?_; rotate_left; (focus ((intro W hW; go_simp) <;> with_reducible rfl)); simp only [Act.put, List.setIfInBounds_toArray, List.set_cons_zero, List.set_cons_succ]) | (refine sch_no rfl rfl hH ?_; simp only [Act.put, List.setIfInBounds_toArray, List.set_cons_zero, List.set_cons_succ]))
          refine sch_done ?_
          go_wp2
          go_ret
          exact ⟨by rw [Hq.out]; rfl, hBd⟩
      · obtain rfl : i = n := by omega
        have heq : l1 = l2 := List.ext_getElem? fun j => by
          by_cases hj : j < i
          · exact hsame j hj
          · rw [List.getElem?_eq_none (by omega), List.getElem?_eq_none (by omega)]
        have hd : decide (l1 = l2) = true := decide_eq_true heq
        have Hd := Lib.hid hd
        clear hd hsame heq
        go_wp2
        go_ret
        exact ⟨by rw [Hd.out]; rfl, hBw⟩
  · have hd : decide (f = g) = false := decide_eq_false fun e => hgo (by subst e; exact ⟨rfl, by omega⟩)
    rw [hd]
    have hor : (f.1 != g.1) = true ∨ ((f.1 != g.1) = false ∧ ((n : Int) != (m : Int)) = true) := by
      simp only [bne_iff_ne, bne_eq_false_iff_eq]
      by_cases h : f.1 = g.1
      · exact .inr ⟨h, fun e => hgo ⟨h, by omega⟩⟩
      · exact .inl h
    rcases hor with h | ⟨h, h'⟩
    all_goals
      go_enter Tryd.func18, Tryd.ntmps18
      go_wp2
      go_ret
      exact ⟨rfl, hB0⟩
end Go.Proofs.YthhkkiegfcofjaaDoor
