/- The contracts of the document's own fields and Same (layer 6): what the plain functions tell; nothing that was there is changed. -/
import Derived.Test.YteafbdebmhpffaaScRef1
import Derived.Test.YteafbdebmhpffaaScSame
import Derived.Test.YteafbdebmhpffaaForkLAll
namespace Go.Proofs.Yteafbdebmhpffaa
open Go.RowKit

set_option maxRecDepth 100000 in
set_option maxHeartbeats 2000000 in
theorem rfields_any (A B : Option Addr) (n c m d : Nat) (l1 l2 : List Fld) (w : World) (h1 : rFlds (All w) w [.slice A n c] l1) (h2 : rFlds (All w) w [.slice B m d] l2) :
    Calls Try.prog 59 #[.slice A n c, .slice B m d] w fun e w' => e = .returned (.bool (decide (l1 = l2))) ∧ Below w.heap.size w w' := by
  obtain ⟨hn, hnc, hcm⟩ := flds_len h1
  obtain ⟨hm, hmd, hdm⟩ := flds_len h2
  simp only [maxLen] at hcm hdm
  by_cases hnm : n = m
  · subst hnm
    have hnn : ((n : Int) != (n : Int)) = false := by simp
    go_enter Try.func59, Try.ntmps59
    go_wp2
    go_loopw [5] (fun iv w' => ∃ i : Nat, i ≤ n ∧ iv = .int .i64 (i : Int) ∧ Below w.heap.size w w' ∧ (∀ j, j < i → l1[j]? = l2[j]?)) (fun iv _ => n - (intOf iv).toNat)
    case atStart => exact ⟨0, by omega, rfl, Below.refl _ _, fun j hj => by omega⟩
    case round =>
      rename_i iv wr
      obtain ⟨i, hi, rfl, hB, hsame⟩ := hrel
      by_cases hin : i < n
      · have hl1 : l1[i]? = some l1[i] := List.getElem?_eq_getElem (by omega)
        have hl2 : l2[i]? = some l2[i] := List.getElem?_eq_getElem (by omega)
        obtain ⟨b1, off1, x1, y1, rfl, hb1, p1, p2, p3, e1, e2, -, -, -⟩ := fld_at (flds_below hB h1) hl1
        obtain ⟨b2, off2, x2, y2, rfl, hb2, q1, q2, q3, f1, f2, -, -, -⟩ := fld_at (flds_below hB h2) hl2
        have hil : (i : Int) < (n : Int) := by omega
        have hi0 : (0 : Int) ≤ (i : Int) := by omega
        have hq : ∀ W, (binOp .neq 48 (.agg #[.string x1, .int .i64 l1[i].2.1, .string y1]) (.agg #[.string x2, .int .i64 l2[i].2.1, .string y2])).run Try.prog W = .ok (.bool (!decide (l1[i] = l2[i]))) W := fun W => by rw [fld_neq, fld_is e1 e2 f1 f2]
        have heg := sfld_guard
        have hne : l1[i] ≠ l2[i] → decide (l1 = l2) = false := fun he => decide_eq_false fun e => he (by subst e; rfl)
        have heq : l1[i] = l2[i] → ∀ j, j < i + 1 → l1[j]? = l2[j]? := fun he j hj => by
          by_cases hji : j < i
          · exact hsame j hji
          · obtain rfl : j = i := by omega
            rw [hl1, hl2, he]
        have Hne := Lib.hid hne
        have Heq := Lib.hid heq
        have HB := Lib.hid hB
        clear hne heq hl1 hl2 hsame e1 e2 f1 f2 hB h1 h2
        generalize l1[i] = F1 at *
        generalize l2[i] = F2 at *
        by_cases he : F1 = F2
        · rw [decide_eq_true he] at hq
          have Hq := Lib.hid (Heq.out he)
          clear Heq Hne he
          generalize F1.2.1 = k1 at *
          generalize F2.2.1 = k2 at *
          go_wp2
          go_quiet (fail)
          go_wp2
          go_roundw
          case rel => exact ⟨i + 1, by omega, by go_num, below_drewN HB.out _, Hq.out⟩
          case measure => simp [intOf]; omega
        · rw [decide_eq_false he] at hq
          have Hq := Lib.hid (Hne.out he)
          clear Heq Hne he
          generalize F1.2.1 = k1 at *
          generalize F2.2.1 = k2 at *
          go_wp2
          go_quiet (fail)
          go_wp2
          go_ret
          exact ⟨by rw [Hq.out]; rfl, below_drewN HB.out _⟩
      · obtain rfl : i = n := by omega
        have heq : l1 = l2 := List.ext_getElem? fun j => by
          by_cases hj : j < i
          · exact hsame j hj
          · rw [List.getElem?_eq_none (by omega), List.getElem?_eq_none (by omega)]
        have hd : decide (l1 = l2) = true := decide_eq_true heq
        have Hd := Lib.hid hd
        clear hd hsame heq
        go_wp2
        go_ret
        exact ⟨by rw [Hd.out]; rfl, hB⟩
  · have hd : decide (l1 = l2) = false := decide_eq_false fun e => hnm (by subst e; omega)
    have hne : ((n : Int) != (m : Int)) = true := by rw [bne_iff_ne]; omega
    rw [hd]
    go_enter Try.func59, Try.ntmps59
    go_wp2
    go_ret
    exact ⟨rfl, Below.refl _ _⟩

theorem typ_is {x y : Typ} : decide (x = y) = (decide (x.2 = y.2) && decide (x.1 = y.1)) := by
  obtain ⟨a, b⟩ := x
  obtain ⟨a', b'⟩ := y
  simp only [Prod.mk.injEq]
  by_cases e1 : a = a' <;> by_cases e2 : b = b' <;> simp [e1, e2]

set_option maxRecDepth 100000 in
set_option maxHeartbeats 4000000 in
theorem rssame_any (A B : Option Addr) (n c m d : Nat) (l1 l2 : Sch) (w : World) (h1 : rSch (All w) w [.slice A n c] l1) (h2 : rSch (All w) w [.slice B m d] l2) :
    Calls Try.prog 35 #[.agg #[.slice A n c], .agg #[.slice B m d]] w fun e w' => e = .returned (.bool (decide (l1 = l2))) ∧ Below w.heap.size w w' := by
  obtain ⟨hn, hnc, hcm⟩ := sch_len h1
  obtain ⟨hm, hmd, hdm⟩ := sch_len h2
  simp only [maxLen] at hcm hdm
  have hB0 : Below w.heap.size w ((w.alloc (.cells #[.slice A n c] 24)).alloc (.cells #[.slice B m d] 24)) := ((Below.refl _ w).alloc (Nat.le_refl _) _).alloc (by simp) _
  by_cases hnm : n = m
  · subst hnm
    have hnn : ((n : Int) != (n : Int)) = false := by simp
    have bA := (Blk.new w 24 [.slice A n c]).alloc (.cells #[.slice B n d] 24)
    have bB := Blk.new (w.alloc (.cells #[.slice A n c] 24)) 24 [.slice B n d]
    simp only [World.size_alloc] at bB
    go_enter Try.func35, Try.ntmps35
    go_wp2
    go_loopw [5] (fun iv w' => ∃ i : Nat, i ≤ n ∧ iv = .int .i64 (i : Int) ∧ Below w.heap.size w w' ∧ Blk w' w.heap.size 24 [.slice A n c] ∧ Blk w' (w.heap.size + 1) 24 [.slice B n d] ∧ (∀ j, j < i → l1[j]? = l2[j]?)) (fun iv _ => n - (intOf iv).toNat)
    case atStart => exact ⟨0, by omega, rfl, hB0, bA, bB, fun j hj => by omega⟩
    case round =>
      rename_i iv wr
      obtain ⟨i, hi, rfl, hB, b1, b2, hsame⟩ := hrel
      have c1 := b1.cell (j := 0) rfl
      have c2 := b2.cell (j := 0) rfl
      clear hB0 bA bB
      by_cases hin : i < n
      · have hl1 : l1[i]? = some l1[i] := List.getElem?_eq_getElem (by omega)
        have hl2 : l2[i]? = some l2[i] := List.getElem?_eq_getElem (by omega)
        obtain ⟨g1, off1, x1, A1, cc1, rfl, hb1, p1, p2, e1, -, r1⟩ := typ_at (sch_below hB h1) hl1
        obtain ⟨g2, off2, x2, A2, cc2, rfl, hb2, q1, q2, f1, -, r2⟩ := typ_at (sch_below hB h2) hl2
        have hil : (i : Int) < (n : Int) := by omega
        have hi0 : (0 : Int) ≤ (i : Int) := by omega
        have hne : l1[i] ≠ l2[i] → decide (l1 = l2) = false := fun he => decide_eq_false fun e => he (by subst e; rfl)
        have heq : l1[i] = l2[i] → ∀ j, j < i + 1 → l1[j]? = l2[j]? := fun he j hj => by
          by_cases hji : j < i
          · exact hsame j hji
          · obtain rfl : j = i := by omega
            rw [hl1, hl2, he]
        have Hne := Lib.hid hne
        have Heq := Lib.hid heq
        have HB := Lib.hid hB
        clear hne heq hl1 hl2 hsame h1 h2 hB
        generalize l1[i] = F1 at *
        generalize l2[i] = F2 at *
        have hty := typ_is (x := F1) (y := F2)
        have hsb := str_beq x1 x2
        rw [e1, f1] at hsb
        have hdr : Below wr.heap.size wr wr.drew := (Below.refl _ wr).drew
        have S1 := Lib.hid (rfields_any A1 A2 F1.2.length cc1 F2.2.length cc2 F1.2 F2.2 wr.drew (flds_below hdr r1) (flds_below hdr r2))
        clear r1 r2 e1 f1
        have Hd : Hid (F1 = F2 ↔ (decide (F1.2 = F2.2) && decide (F1.1 = F2.1)) = true) := Lib.hid (by rw [← hty, decide_eq_true_iff])
        clear hty
        generalize decide (F1.2 = F2.2) = m1 at *
        generalize decide (F1.1 = F2.1) = m2 at *
        generalize F1.2.length = k1 at *
        generalize F2.2.length = k2 at *
        go_wp2
        refine sch_start [(0, true), (1, true), (2, true), (3, true), (4, true), (5, true), (6, true), (7, true), (8, true), (9, true), (10, true), (11, true), (12, false), (13, true)]
          (fun W => W.cell? ⟨w.heap.size, 0, none⟩ = some (.slice (some ⟨g1, off1, none⟩) n c) ∧ W.cell? ⟨w.heap.size + 1, 0, none⟩ = some (.slice (some ⟨g2, off2, none⟩) n d) ∧ W.cell? ⟨g1, off1 + i * 2 + 1, none⟩ = some (.slice A1 k1 cc1) ∧ W.cell? ⟨g2, off2 + i * 2 + 1, none⟩ = some (.slice A2 k2 cc2)) (by kernel_rfl) rfl (by kernel_rfl) (fun _ _ _ _ _ h => h) ⟨c1, c2, p2, q2⟩ (fun hH => ?_)
        repeat (first | (refine sch_yes (v := ?_) rfl rfl ?_ hH ?_; rotate_left; (focus ((rintro W ⟨hW1, hW2, hW3, hW4⟩; go_simp) <;> with_reducible rfl)); simp only [Act.put, List.setIfInBounds_toArray, List.set_cons_zero, List.set_cons_succ]) | (refine sch_no rfl rfl hH ?_; simp only [Act.put, List.setIfInBounds_toArray, List.set_cons_zero, List.set_cons_succ]))
        refine sch_call rfl rfl (fun K hK => ?_)
        go_wp2_with (go_at_call 59; refine S1.out.mono ?_; rintro e v1 ⟨rfl, hE1⟩)
        have hE : Below wr.heap.size wr v1 := hdr.trans hE1
        have c1' := (hE.cell (p := ⟨w.heap.size, 0, none⟩) b1.lt).trans c1
        have c2' := (hE.cell (p := ⟨w.heap.size + 1, 0, none⟩) b2.lt).trans c2
        have p1' := (hE.cell (p := ⟨g1, off1 + i * 2, none⟩) hb1).trans p1
        have p2' := (hE.cell (p := ⟨g1, off1 + i * 2 + 1, none⟩) hb1).trans p2
        have q1' := (hE.cell (p := ⟨g2, off2 + i * 2, none⟩) hb2).trans q1
        have q2' := (hE.cell (p := ⟨g2, off2 + i * 2 + 1, none⟩) hb2).trans q2
        have hH1 := And.intro c1' (And.intro c2' (And.intro p2' q2'))
        refine hK.out _ _ hH1 ?_
        clear hK hH
        have hH := hH1
        repeat (first | (refine sch_yes (v := ?_) rfl rfl ?_ hH ?_; rotate_left; (focus ((rintro W ⟨hW1, hW2, hW3, hW4⟩; go_simp) <;> with_reducible rfl)); simp only [Act.put, List.setIfInBounds_toArray, List.set_cons_zero, List.set_cons_succ]) | (refine sch_no rfl rfl hH ?_; simp only [Act.put, List.setIfInBounds_toArray, List.set_cons_zero, List.set_cons_succ]))
        refine sch_done ?_
        clear hH hH1
        have HE := Lib.hid (HB.out.trans (hE.mono HB.out.size))
        have b1' := b1.to hE
        have b2' := b2.to hE
        clear hE1 hdr S1
        cases m1
        · have Hq := Lib.hid (Hne.out (fun e => by have := Hd.out.1 e; simp at this))
          clear Hne Heq Hd
          go_wp2
          go_quiet (fail)
          go_wp2
          go_ret
          exact ⟨by rw [Hq.out]; rfl, below_drewN HE.out _⟩
        · cases m2
          · have Hq := Lib.hid (Hne.out (fun e => by have := Hd.out.1 e; simp at this))
            clear Hne Heq Hd
            go_wp2
            go_quiet (fail)
            go_wp2
            go_ret
            exact ⟨by rw [Hq.out]; rfl, below_drewN HE.out _⟩
          · have Hq := Lib.hid (Heq.out (Hd.out.2 (by simp)))
            clear Hne Heq Hd
            go_wp2
            go_quiet (fail)
            go_wp2
            go_roundw
            case rel => exact ⟨i + 1, by omega, by go_num, below_drewN HE.out _, b1'.to (below_drewN (Below.refl _ _) _), b2'.to (below_drewN (Below.refl _ _) _), Hq.out⟩
            case measure => simp [intOf]; omega
      · obtain rfl : i = n := by omega
        have heq : l1 = l2 := List.ext_getElem? fun j => by
          by_cases hj : j < i
          · exact hsame j hj
          · rw [List.getElem?_eq_none (by omega), List.getElem?_eq_none (by omega)]
        have hd : decide (l1 = l2) = true := decide_eq_true heq
        have Hd := Lib.hid hd
        clear hd hsame heq
        go_wp2
        go_ret
        exact ⟨by rw [Hd.out]; rfl, hB⟩
  · have hd : decide (l1 = l2) = false := decide_eq_false fun e => hnm (by subst e; omega)
    have hne : ((n : Int) != (m : Int)) = true := by rw [bne_iff_ne]; omega
    rw [hd]
    go_enter Try.func35, Try.ntmps35
    go_wp2
    go_ret
    exact ⟨rfl, hB0⟩

end Go.Proofs.Yteafbdebmhpffaa
