/- CanonRoots: the first object that is met is the first root that is none no more; roots of a Canon rise but for those that were met. No condition. -/
import Derived.Test.YteafbdebmhpffaaCaAwake
import Derived.Test.YteafbdebmhpffaaCaQAll
import Derived.Test.YteafbdebmhpffaaGrFew
namespace Go.Proofs.Yteafbdebmhpffaa
open Go.RowKit

set_option maxRecDepth 100000 in
set_option maxHeartbeats 8000000 in
theorem canonRoots_walk (w : World) (cs : Array Value) (g : Gr) (h : rGr (All w) w cs.toList g) :
    Calls Try.prog 8 #[.agg cs] w fun e w' => e = .returned (.bool true) ∧ Below w.heap.size w w' := by
  obtain ⟨A, c, B, d, C, e, rfl, h⟩ := gr_arg h
  have hB0 : Below w.heap.size w (w.alloc (.cells #[.slice A g.1.length c, .slice B g.2.1.length d, .slice C g.2.2.length e] 28)) := (Below.refl _ w).alloc (Nat.le_refl _) _
  have p1 := Blk.new w 28 [.slice A g.1.length c, .slice B g.2.1.length d, .slice C g.2.2.length e]
  have TF := Lib.hid (fun W (hW : Below w.heap.size w W) => gfew_any A B C g.1.length c g.2.1.length d g.2.2.length e g W (gr_below hW h))
  have TM := Lib.hid (fun W (hW : Below w.heap.size w W) => gmay_any A B C g.1.length c g.2.1.length d g.2.2.length e g W (gr_below hW h))
  have TO := Lib.hid (fun W (hW : Below w.heap.size w W) => order_any A B C g.1.length c g.2.1.length d g.2.2.length e g W (gr_below hW h))
  have TC := Lib.hid (fun W (hW : Below w.heap.size w W) => canon_any A B C g.1.length c g.2.1.length d g.2.2.length e g W (gr_below hW h))
  have Hrt := Lib.hid (fun W (hW : Below w.heap.size w W) => (rGr_open (gr_below hW h)).2.2)
  clear h
  have H0 := Lib.hid hB0
  clear hB0
  generalize fewG g = few at *
  go_enter Try.func8, Try.ntmps8
  go_wp2_with fail
  refine (cawake_any _).mono ?_
  rintro e w1 ⟨rfl, hB1⟩
  have H1 := Lib.hid (H0.out.trans (hB1.mono H0.out.size))
  replace p1 := p1.to hB1
  clear hB1 H0 
  have c0 := p1.cell (j := 0) rfl
  have c1 := p1.cell (j := 1) rfl
  have c2 := p1.cell (j := 2) rfl
  go_wp2_with fail
  refine (TF.out _ H1.out).mono ?_
  rintro e w2 ⟨rfl, hB2⟩
  have H2 := Lib.hid (H1.out.trans (hB2.mono H1.out.size))
  replace p1 := p1.to hB2
  clear hB2 H1 c0 c1 c2 TF
  cases few
  · go_wp2
    go_ret
    exact ⟨rfl, H2.out⟩
  have c0 := p1.cell (j := 0) rfl
  have c1 := p1.cell (j := 1) rfl
  have c2 := p1.cell (j := 2) rfl
  go_wp2_with fail
  refine (TM.out _ H2.out).mono ?_
  rintro e w3 ⟨rfl, hB3⟩
  have H3 := Lib.hid (H2.out.trans (hB3.mono H2.out.size))
  replace p1 := p1.to hB3
  clear hB3 H2 c0 c1 c2 TM
  by_cases hm : mayG g = true
  rotate_left
  · replace hm : mayG g = false := by simpa using hm
    rw [hm]
    go_wp2
    go_ret
    exact ⟨rfl, H3.out⟩
  rw [hm]
  have hck : (canonG g).2.2.length = g.2.2.length := by rw [canonG_yes hm]; exact List.length_map ..
  rw [hck] at TC
  have c0 := p1.cell (j := 0) rfl
  have c1 := p1.cell (j := 1) rfl
  have c2 := p1.cell (j := 2) rfl
  go_wp2_with fail
  refine (TO.out _ H3.out).mono ?_
  rintro e w4 ⟨A4, c4, rfl, h4, hB4⟩
  have H4 := Lib.hid (H3.out.trans (hB4.mono H3.out.size))
  replace p1 := p1.to hB4
  clear hB4 H3 c0 c1 c2 TO
  have c0 := p1.cell (j := 0) rfl
  have c1 := p1.cell (j := 1) rfl
  have c2 := p1.cell (j := 2) rfl
  go_wp2_with fail
  refine (TC.out _ H4.out).mono ?_
  rintro e w5 ⟨A5, c5, B5, d5, C5, e5, rfl, h5, hB5⟩
  have hB6 : Below w5.heap.size w5 (w5.alloc (.cells #[.slice A5 (canonG g).1.length c5, .slice B5 (canonG g).2.1.length d5, .slice C5 g.2.2.length e5] 28)) := (Below.refl _ w5).alloc (Nat.le_refl _) _
  have hB56 := hB5.trans (hB6.mono hB5.size)
  have p6 := Blk.new w5 28 [.slice A5 (canonG g).1.length c5, .slice B5 (canonG g).2.1.length d5, .slice C5 g.2.2.length e5]
  have H6 := Lib.hid (H4.out.trans (hB56.mono H4.out.size))
  replace p1 := p1.to hB56
  have Hl := Lib.hid (ids_below hB56 (rIds_stays.to (S' := All _) (Keeps.mono fun b hb => hb.2) h4))
  have Hc := Lib.hid (rGr_open (gr_below hB6 h5)).2.2
  have Hr := Lib.hid (Hrt.out _ H6.out)
  have hL8 := ordG_few hm
  have hK3 := (mayG_parts hm).2.2.2.1
  clear h4 h5 hB5 hB6 hB56 H4 Hrt c0 c1 c2 TC hck
  generalize g.1.length = N at *
  generalize g.2.1.length = M at *
  generalize hK : g.2.2.length = K at *
  generalize (canonG g).1.length = N5 at *
  generalize (canonG g).2.1.length = M5 at *
  generalize hL : (ordG g).length = L at *
  have P1 := Lib.hid p1
  have P6 := Lib.hid p6
  have c2 := p1.cell (j := 2) rfl
  have k2 := p6.cell (j := 2) rfl
  clear p1 p6
  go_wp2
  generalize w5.alloc (.cells #[.slice A5 N5 c5, .slice B5 M5 d5, .slice C5 K e5] 28) = w6 at *
  clear c2 k2
  go_loopw [7, 8] (fun nv iv w' => ∃ i : Nat, i ≤ K ∧ iv = .int .i64 (i : Int) ∧ nv = .int .i64 ((preR g i).length : Int) ∧ Hid (Below w6.heap.size w6 w')) (fun _ iv _ => K - (intOf iv).toNat)
  case atStart => exact ⟨0, by omega, rfl, rfl, Lib.hid (Below.refl _ _)⟩
  case round =>
    rename World => wr
    obtain ⟨i, hi, rfl, rfl, hBr⟩ := hrel
    have q1 := P1.out.to hBr.out
    have q6 := P6.out.to hBr.out
    have c2 := q1.cell (j := 2) rfl
    have k2 := q6.cell (j := 2) rfl
    by_cases hin : i < K
    · obtain ⟨r, hr⟩ : ∃ r, g.2.2[i]? = some r := ⟨_, List.getElem?_eq_getElem (by omega)⟩
      have hrc : (canonG g).2.2[i]? = some (atL (ordG g) r) := by
        rw [canonG_yes hm]
        show (g.2.2.map (atL (ordG g)))[i]? = _
        rw [List.getElem?_map, hr]
        rfl
      obtain ⟨b, off, rfl, hb, x1, xb⟩ := id_at (ids_below hBr.out Hr.out) hr
      obtain ⟨b5, off5, rfl, hb5, y1, yb⟩ := id_at (ids_below hBr.out Hc.out) hrc
      have hil : (i : Int) < (K : Int) := by omega
      have hi0 : (0 : Int) ≤ (i : Int) := by omega
      have hnext := preR_next hr
      have Hbr := Lib.hid (Below.refl wr.heap.size wr).drew
      have HBn := Lib.hid (fun (W : World) (hW : Below wr.heap.size wr W) => hBr.out.trans (hW.mono hBr.out.size))
      have l1 := q1.lt
      have hcase : r < 0 ∨ (0 ≤ r ∧ r ∈ preR g i) ∨ (0 ≤ r ∧ r ∉ preR g i) := by
        by_cases h0 : r < 0
        · exact .inl h0
        · by_cases h1 : r ∈ preR g i
          · exact .inr (.inl ⟨by omega, h1⟩)
          · exact .inr (.inr ⟨by omega, h1⟩)
      rcases hcase with h0 | ⟨h0, h1⟩ | ⟨h0, h1⟩
      · have hpre : (preR g (i + 1)).length = (preR g i).length := by rw [preR_same hr (.inl h0)]
        rw [root_neg hm h0] at y1
        have hn8 : (preR g i).length ≤ 8 := by
          obtain ⟨m, hm'⟩ := ordG_pre hm i
          rw [hm', List.length_append] at hL
          omega
        generalize (preR g i).length = n at *
        have f1 : decide ((n : Int) < -1) = false := decide_eq_false (by omega)
        have f2 : decide (r < 0) = true := decide_eq_true (by omega)
        have f3 : decide ((L : Int) ≤ -1) = false := decide_eq_false (by omega)
        have f4 : ((-1 : Int) == (n : Int)) = false := beq_eq_false_iff_ne.2 (by omega)
        clear h0
        have HS := Lib.hid (fun (W : World) (hW : Below wr.heap.size wr W) => And.intro ((hW.cell (p := ⟨w.heap.size, 2, none⟩) l1).trans c2) ((hW.cell (p := ⟨b, off + i, none⟩) hb).trans x1))
        have hPr := Lib.hid hpre
        clear hr hrc hpre hnext hin xb yb hb hb5 q1 q6 
        go_wp2
        refine sch_start [(0, true), (1, true), (2, true), (3, true), (4, true), (5, true), (6, true), (7, true), (8, true), (9, true), (10, true), (11, true), (12, true), (13, true), (14, true), (15, true), (16, true), (17, true), (18, true), (19, true), (20, true), (21, true), (22, true), (23, true), (24, true), (25, true), (26, true), (27, true), (28, true), (29, true), (30, true), (31, true), (32, true), (33, true), (34, true), (35, true)] (fun W => Below wr.heap.size wr W) (by kernel_rfl) rfl (by kernel_rfl) (fun _ _ _ _ _ h => h) Hbr.out (fun hH => ?_)
        repeat (first | (refine sch_yes (v := ?_) rfl rfl ?_ hH ?_; rotate_left; (focus ((intro W hW; obtain ⟨a0, a1⟩ := HS.out W hW; go_simp) <;> with_reducible rfl)); simp only [Act.put, List.setIfInBounds_toArray, List.set_cons_zero, List.set_cons_succ]) | (refine sch_no rfl rfl hH ?_; simp only [Act.put, List.setIfInBounds_toArray, List.set_cons_zero, List.set_cons_succ]))
        refine sch_done ?_
        go_wp2
        go_roundw
        case rel => exact ⟨i + 1, by omega, by go_num, by rw [hPr.out], Lib.hid (HBn.out _ hH)⟩
        case measure => simp [intOf]; omega
      · have hpre : (preR g (i + 1)).length = (preR g i).length := by rw [preR_same hr (.inr h1)]
        obtain ⟨jj, e1, e2, e3⟩ := root_old hm h1
        obtain ⟨b4, off4, rfl, hb4, z1, -⟩ := id_at (ids_below hBr.out Hl.out) e3
        have hjL : jj < L := by have := (List.getElem?_eq_some_iff.1 e3).1; omega
        rw [e1] at y1
        have hn8 : (preR g i).length ≤ 8 := by
          obtain ⟨m, hm'⟩ := ordG_pre hm i
          rw [hm', List.length_append] at hL
          omega
        generalize (preR g i).length = n at *
        have f1 : decide ((n : Int) < (jj : Int)) = false := decide_eq_false (by omega)
        have f2 : decide (r < 0) = false := decide_eq_false (by omega)
        have f3 : decide ((L : Int) ≤ (jj : Int)) = false := decide_eq_false (by omega)
        have f4 : ((jj : Int) == (n : Int)) = false := beq_eq_false_iff_ne.2 (by omega)
        have f5 : (jj == n) = false := beq_eq_false_iff_ne.2 (by omega)
        have f6 : decide ((jj : Int) < 0) = false := decide_eq_false (by omega)
        have f7 : decide ((0 : Int) ≤ (jj : Int)) = true := decide_eq_true (by omega)
        have f8 : (jj : Int) < (L : Int) := by omega
        have f9 : (0 : Int) ≤ (jj : Int) := by omega
        have g1 : decide (n < jj) = false := decide_eq_false (by omega)
        have g2 : decide (L ≤ jj) = false := decide_eq_false (by omega)
        clear h0 h1 e1 e3
        have HS := Lib.hid (fun (W : World) (hW : Below wr.heap.size wr W) => And.intro ((hW.cell (p := ⟨w.heap.size, 2, none⟩) l1).trans c2) (And.intro ((hW.cell (p := ⟨b, off + i, none⟩) hb).trans x1) ((hW.cell (p := ⟨b4, off4 + jj, none⟩) hb4).trans z1)))
        have hPr := Lib.hid hpre
        clear hr hrc hpre hnext hin xb yb hb hb5 q1 q6 hb4 z1 
        go_wp2
        refine sch_start [(0, true), (1, true), (2, true), (3, true), (4, true), (5, true), (6, true), (7, true), (8, true), (9, true), (10, true), (11, true), (12, true), (13, true), (14, true), (15, true), (16, true), (17, true), (18, true), (19, true), (20, true), (21, true), (22, true), (23, true), (24, true), (25, true), (26, true), (27, true), (28, true), (29, true), (30, true), (31, true), (32, true), (33, true), (34, true), (35, true)] (fun W => Below wr.heap.size wr W) (by kernel_rfl) rfl (by kernel_rfl) (fun _ _ _ _ _ h => h) Hbr.out (fun hH => ?_)
        repeat (first | (refine sch_yes (v := ?_) rfl rfl ?_ hH ?_; rotate_left; (focus ((intro W hW; obtain ⟨a0, a1, a2⟩ := HS.out W hW; go_simp) <;> with_reducible rfl)); simp only [Act.put, List.setIfInBounds_toArray, List.set_cons_zero, List.set_cons_succ]) | (refine sch_no rfl rfl hH ?_; simp only [Act.put, List.setIfInBounds_toArray, List.set_cons_zero, List.set_cons_succ]))
        refine sch_done ?_
        go_wp2
        go_roundw
        case rel => exact ⟨i + 1, by omega, by go_num, by rw [hPr.out], Lib.hid (HBn.out _ hH)⟩
        case measure => simp [intOf]; omega
      · obtain ⟨e1, e3, hpl⟩ := root_next hm hr h0 h1
        have hpre : (preR g (i + 1)).length = (preR g i).length + 1 := hpl
        have hn8 : (preR g i).length ≤ 8 := by
          obtain ⟨m, hm'⟩ := ordG_pre hm i
          rw [hm', List.length_append] at hL
          omega
        rw [e1] at y1
        generalize hjj : (preR g i).length = jj at *
        obtain ⟨b4, off4, rfl, hb4, z1, -⟩ := id_at (ids_below hBr.out Hl.out) e3
        have hjL : jj < L := by have := (List.getElem?_eq_some_iff.1 e3).1; omega
        have f1 : decide ((jj : Int) < (jj : Int)) = false := decide_eq_false (by omega)
        have f2 : decide (r < 0) = false := decide_eq_false (by omega)
        have f3 : decide ((L : Int) ≤ (jj : Int)) = false := decide_eq_false (by omega)
        have f6 : decide ((jj : Int) < 0) = false := decide_eq_false (by omega)
        have f7 : decide ((0 : Int) ≤ (jj : Int)) = true := decide_eq_true (by omega)
        have f8 : (jj : Int) < (L : Int) := by omega
        have f9 : (0 : Int) ≤ (jj : Int) := by omega
        have g2 : decide (L ≤ jj) = false := decide_eq_false (by omega)
        clear h0 h1 e1 e3 hpl hjj
        have HS := Lib.hid (fun (W : World) (hW : Below wr.heap.size wr W) => And.intro ((hW.cell (p := ⟨w.heap.size, 2, none⟩) l1).trans c2) (And.intro ((hW.cell (p := ⟨b, off + i, none⟩) hb).trans x1) ((hW.cell (p := ⟨b4, off4 + jj, none⟩) hb4).trans z1)))
        have hPr := Lib.hid hpre
        clear hr hrc hpre hnext hin xb yb hb hb5 q1 q6 hb4 z1 
        go_wp2
        refine sch_start [(0, true), (1, true), (2, true), (3, true), (4, true), (5, true), (6, true), (7, true), (8, true), (9, true), (10, true), (11, true), (12, true), (13, true), (14, true), (15, true), (16, true), (17, true), (18, true), (19, true), (20, true), (21, true), (22, true), (23, true), (24, true), (25, true), (26, true), (27, true), (28, true), (29, true), (30, true), (31, true), (32, true), (33, true), (34, true), (35, true)] (fun W => Below wr.heap.size wr W) (by kernel_rfl) rfl (by kernel_rfl) (fun _ _ _ _ _ h => h) Hbr.out (fun hH => ?_)
        repeat (first | (refine sch_yes (v := ?_) rfl rfl ?_ hH ?_; rotate_left; (focus ((intro W hW; obtain ⟨a0, a1, a2⟩ := HS.out W hW; go_simp) <;> with_reducible rfl)); simp only [Act.put, List.setIfInBounds_toArray, List.set_cons_zero, List.set_cons_succ]) | (refine sch_no rfl rfl hH ?_; simp only [Act.put, List.setIfInBounds_toArray, List.set_cons_zero, List.set_cons_succ]))
        refine sch_done ?_
        go_wp2
        go_roundw
        case rel => exact ⟨i + 1, by omega, by go_num, by rw [hPr.out]; go_num, Lib.hid (HBn.out _ hH)⟩
        case measure => simp [intOf]; omega
    · go_wp2
      go_ret
      exact ⟨rfl, H6.out.trans (hBr.out.mono H6.out.size)⟩
end Go.Proofs.Yteafbdebmhpffaa
