/- The contracts of the document's own Same and Lists: are two frames, two lists of frames the same. Nothing that was there is changed. No condition. -/
import Derived.Test.YtikpgacapaebkaaFrAll
namespace Go.Proofs.Ytikpgacapaebkaa
open Go.RowKit

set_option maxRecDepth 100000 in
set_option maxHeartbeats 400000 in
theorem rsame_any (A B : Option Addr) (k l : Int) (n c m d : Nat) (xs ys : List Nat) (w : World) (hn : xs.length = n) (hm : ys.length = m) (hxb : ∀ x ∈ xs, x < 256) (hyb : ∀ x ∈ ys, x < 256) (hx : Rd w A (u8s xs)) (hy : Rd w B (u8s ys)) :
    Calls Try.prog 17 #[.agg #[.int .i64 k, .slice A n c], .agg #[.int .i64 l, .slice B m d]] w fun e w' => e = .returned (.bool (k == l && xs == ys)) ∧ Below w.heap.size w w' := by
  have hB : ∀ u v, Below w.heap.size w ((w.alloc (.cells u 24)).alloc (.cells v 24)) := fun u v => ((Below.refl _ w).alloc (Nat.le_refl _) _).alloc (by simp) _
  have h1 := fun W h => conv_str (P := Try.prog) W _ _ _ Try.underlying22 Try.underlying5 Try.underlying9 A xs n c hn h
  have h2 := fun W h => conv_str (P := Try.prog) W _ _ _ Try.underlying22 Try.underlying5 Try.underlying9 B ys m d hm h
  have h3 := str_eq hxb hyb
  by_cases h : k = l
  · subst h
    have hh : (k == k && xs == ys) = (xs == ys) := by simp
    rw [hh]
    have c1 := h1 _ (hx.below (hB #[.int .i64 k, .slice A n c] #[.int .i64 k, .slice B m d]))
    have c2 := h2 _ (hy.below (hB #[.int .i64 k, .slice A n c] #[.int .i64 k, .slice B m d]))
    go_enter Try.func17, Try.ntmps17
    go_wp2
    go_ret
    exact ⟨rfl, hB _ _⟩
  · have hh : (k == l && xs == ys) = false := by simp [h]
    rw [hh]
    go_enter Try.func17, Try.ntmps17
    go_wp2
    go_ret
    exact ⟨rfl, hB _ _⟩

/-- The frame at i of a slice of frames: its two cells. -/
theorem fra_at {S : Nat → Prop} {w : World} {A0 : Option Addr} {n c : Nat} {l : List Fra} {i : Nat} {f : Fra} (h : rSlice 2 rFra S w [.slice A0 n c] l) (hi : l[i]? = some f) : ∃ b off A c', A0 = some ⟨b, off, none⟩ ∧ S b ∧ w.cell? ⟨b, off + i * 2, none⟩ = some (.int .i64 f.1) ∧ w.cell? ⟨b, off + i * 2 + 1, none⟩ = some (.slice A f.2.length c') ∧ (∀ x ∈ f.2, x < 256) ∧ (Lit.int .i64 f.1).wf = true ∧ RdIn S w A (u8s f.2) := by
  obtain ⟨A1, c1, xs, hv, hlc, hcm, hr, hl, hch⟩ := h
  obtain ⟨A, c', hcs, _, _, hby, hwf, hrd⟩ := rFra_open (hch i f hi)
  have hlt := (List.getElem?_eq_some_iff.1 hi).1
  have hA : A0 = A1 := by simp at hv; exact hv.1
  subst hA
  rcases hr with h | ⟨b, off, rfl, hb, hc⟩
  · rw [h] at hl; simp at hl; omega
  · have h0 : xs[i * 2]? = some (.int .i64 f.1) := by
      have := congrArg (fun l : List Value => l[0]?) hcs
      simpa [List.getElem?_take, List.getElem?_drop] using this
    have h1 : xs[i * 2 + 1]? = some (.slice A f.2.length c') := by
      have := congrArg (fun l : List Value => l[1]?) hcs
      simpa [List.getElem?_take, List.getElem?_drop] using this
    exact ⟨b, off, A, c', rfl, hb, hc _ _ h0, by rw [Nat.add_assoc]; exact hc _ _ h1, hby, hwf, hrd⟩
theorem rows_len {S : Nat → Prop} {w : World} {A0 : Option Addr} {n c : Nat} {l : List Fra} (h : rSlice 2 rFra S w [.slice A0 n c] l) : l.length = n ∧ n ≤ c ∧ c ≤ maxLen := by
  obtain ⟨A1, c1, xs, hv, hlc, hcm, _⟩ := h
  simp at hv
  omega

set_option maxRecDepth 100000 in
set_option maxHeartbeats 1000000 in
theorem lists_any (A B : Option Addr) (n c m d : Nat) (l1 l2 : List Fra) (w : World) (h1 : rSlice 2 rFra (All w) w [.slice A n c] l1) (h2 : rSlice 2 rFra (All w) w [.slice B m d] l2) :
    Calls Try.prog 18 #[.slice A n c, .slice B m d] w fun e w' => e = .returned (.bool (decide (l1 = l2))) ∧ Below w.heap.size w w' := by
  obtain ⟨hn, hnc, hcm⟩ := rows_len h1
  obtain ⟨hm, hmd, hdm⟩ := rows_len h2
  simp only [maxLen] at hcm hdm
  by_cases hnm : n = m
  · subst hnm
    have hnn : ((n : Int) != (n : Int)) = false := by simp
    go_enter Try.func18, Try.ntmps18
    go_wp2
    go_loopw [5] (fun iv wr => ∃ i : Nat, i ≤ n ∧ iv = .int .i64 (i : Int) ∧ (∀ j, j < i → l1[j]? = l2[j]?) ∧ Below w.heap.size w wr) (fun iv _ => n - (intOf iv).toNat)
    case atStart => exact ⟨0, by omega, rfl, fun j hj => by omega, Below.refl _ _⟩
    case round =>
      obtain ⟨i, hi, rfl, hsame, hB⟩ := hrel
      by_cases hin : i < n
      · have hl1 : l1[i]? = some l1[i] := List.getElem?_eq_getElem (by omega)
        have hl2 : l2[i]? = some l2[i] := List.getElem?_eq_getElem (by omega)
        obtain ⟨b1, off1, A1, c1, rfl, hb1, hx1, hy1, hby1, _, hr1⟩ := fra_at h1 hl1
        obtain ⟨b2, off2, A2, c2, rfl, hb2, hx2, hy2, hby2, _, hr2⟩ := fra_at h2 hl2
        have S1 := Lib.hid (rsame_any A1 A2 l1[i].1 l2[i].1 l1[i].2.length c1 l2[i].2.length c2 l1[i].2 l2[i].2 wr.drew rfl rfl hby1 hby2 ((RdIn.rd hr1).below hB.drew) ((RdIn.rd hr2).below hB.drew))
        have hx1' := (hB.cell (p := ⟨b1, off1 + i * 2, none⟩) hb1).trans hx1
        have hy1' := (hB.cell (p := ⟨b1, off1 + i * 2 + 1, none⟩) hb1).trans hy1
        have hx2' := (hB.cell (p := ⟨b2, off2 + i * 2, none⟩) hb2).trans hx2
        have hy2' := (hB.cell (p := ⟨b2, off2 + i * 2 + 1, none⟩) hb2).trans hy2
        have hres : (l1[i].1 == l2[i].1 && l1[i].2 == l2[i].2) = decide (l1[i] = l2[i]) := by
          by_cases he : l1[i] = l2[i]
          · rw [decide_eq_true he, he]; simp
          · rw [decide_eq_false he]
            have : ¬ (l1[i].1 = l2[i].1 ∧ l1[i].2 = l2[i].2) := fun h => he (Prod.ext h.1 h.2)
            simpa using this
        rw [hres] at S1
        have hil : (i : Int) < (n : Int) := by omega
        have hi0 : (0 : Int) ≤ (i : Int) := by omega
        have hne : l1[i] ≠ l2[i] → decide (l1 = l2) = false := fun he => decide_eq_false fun e => he (by subst e; rfl)
        have heq : l1[i] = l2[i] → ∀ j, j < i + 1 → l1[j]? = l2[j]? := fun he j hj => by
          by_cases hji : j < i
          · exact hsame j hji
          · obtain rfl : j = i := by omega
            rw [hl1, hl2, he]
        have Hne := Lib.hid hne
        have Heq := Lib.hid heq
        clear hres hne heq hx1 hx2 hy1 hy2 hr1 hr2 hl1 hl2 hsame
        have hb1w : b1 < wr.heap.size := Nat.lt_of_lt_of_le hb1 hB.size
        have hb2w : b2 < wr.heap.size := Nat.lt_of_lt_of_le hb2 hB.size
        generalize l1[i] = f1 at *
        generalize l2[i] = f2 at *
        go_wp2_with fail
        refine sch_start [(0, true), (1, true), (2, true), (3, true), (4, true), (5, true), (6, true), (7, true), (8, false), (9, true)]
          (fun W => W.cell? ⟨b1, off1 + i * 2, none⟩ = some (.int .i64 f1.1) ∧ W.cell? ⟨b1, off1 + i * 2 + 1, none⟩ = some (.slice A1 f1.2.length c1) ∧ W.cell? ⟨b2, off2 + i * 2, none⟩ = some (.int .i64 f2.1) ∧ W.cell? ⟨b2, off2 + i * 2 + 1, none⟩ = some (.slice A2 f2.2.length c2)) (by kernel_rfl) rfl (by kernel_rfl) (fun _ _ _ _ _ h => h) ⟨hx1', hy1', hx2', hy2'⟩ (fun hH => ?_)
        repeat (first | (refine sch_yes (v := ?_) rfl rfl ?_ hH ?_; rotate_left; (focus ((rintro W ⟨hW1, hW2, hW3, hW4⟩; go_simp) <;> with_reducible rfl)); simp only [Act.put, List.setIfInBounds_toArray, List.set_cons_zero, List.set_cons_succ]) | (refine sch_no rfl rfl hH ?_; simp only [Act.put, List.setIfInBounds_toArray, List.set_cons_zero, List.set_cons_succ]))
        refine sch_call rfl rfl (fun K hK => ?_)
        go_wp2_with (go_at_call 17; refine S1.out.mono ?_; rintro e w5 ⟨rfl, hB5⟩)
        have hH5 := And.intro ((hB5.cell (p := ⟨b1, off1 + i * 2, none⟩) hb1w).trans hH.1) (And.intro ((hB5.cell (p := ⟨b1, off1 + i * 2 + 1, none⟩) hb1w).trans hH.2.1) (And.intro ((hB5.cell (p := ⟨b2, off2 + i * 2, none⟩) hb2w).trans hH.2.2.1) ((hB5.cell (p := ⟨b2, off2 + i * 2 + 1, none⟩) hb2w).trans hH.2.2.2)))
        refine hK.out _ _ hH5 ?_
        clear hK hH
        have hH := hH5
        clear hH5
        repeat (first | (refine sch_yes (v := ?_) rfl rfl ?_ hH ?_; rotate_left; (focus ((rintro W ⟨hW1, hW2, hW3, hW4⟩; go_simp) <;> with_reducible rfl)); simp only [Act.put, List.setIfInBounds_toArray, List.set_cons_zero, List.set_cons_succ]) | (refine sch_no rfl rfl hH ?_; simp only [Act.put, List.setIfInBounds_toArray, List.set_cons_zero, List.set_cons_succ]))
        refine sch_done ?_
        have hB5' : Below w.heap.size w w5 := hB.drew.trans (hB5.mono hB.size)
        clear hH hB5 hB S1
        by_cases he : f1 = f2
        · have hd : decide (f1 = f2) = true := decide_eq_true he
          rw [hd]
          have Hq := Lib.hid (Heq.out he)
          go_wp2
          go_roundw
          case rel => exact ⟨i + 1, by omega, by go_num, Hq.out, hB5'⟩
          case measure => simp [intOf]; omega
        · have hd : decide (f1 = f2) = false := decide_eq_false he
          rw [hd]
          have Hq := Lib.hid (Hne.out he)
          go_wp2
          go_ret
          exact ⟨by rw [Hq.out]; rfl, hB5'⟩
      · obtain rfl : i = n := by omega
        have heq : l1 = l2 := List.ext_getElem? fun j => by
          by_cases hj : j < i
          · exact hsame j hj
          · rw [List.getElem?_eq_none (by omega), List.getElem?_eq_none (by omega)]
        have hd : decide (l1 = l2) = true := decide_eq_true heq
        have Hd := Lib.hid hd
        clear hd hsame heq
        go_wp2
        go_ret
        exact ⟨by rw [Hd.out]; rfl, hB⟩
  · have hd : decide (l1 = l2) = false := decide_eq_false fun e => hnm (by subst e; omega)
    have hne : ((n : Int) != (m : Int)) = true := by rw [bne_iff_ne]; omega
    rw [hd]
    go_enter Try.func18, Try.ntmps18
    go_wp2
    go_ret
    exact ⟨rfl, Below.refl _ _⟩
end Go.Proofs.Ytikpgacapaebkaa
