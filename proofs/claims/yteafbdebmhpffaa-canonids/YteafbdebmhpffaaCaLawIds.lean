/- CanonIds: with other Ids a graph has the same Canon, and is alike. No condition. -/
import Derived.Test.YteafbdebmhpffaaCaAwake
import Derived.Test.YteafbdebmhpffaaGrFew
import Derived.Test.YteafbdebmhpffaaCaRenum
namespace Go.Proofs.Yteafbdebmhpffaa
open Go.RowKit

set_option maxRecDepth 100000 in
set_option maxHeartbeats 8000000 in
theorem canonIds_walk (w : World) (cs : Array Value) (g : Gr) (h : rGr (All w) w cs.toList g) (Ab : Option Addr) (nb cb : Nat) (by' : List Int) (hb : rIds (All w) w [.slice Ab nb cb] by') :
    Calls Try.prog 5 #[.agg cs, .slice Ab nb cb] w fun e w' => e = .returned (.bool true) ∧ Below w.heap.size w w' := by
  obtain ⟨A, c, B, d, C, e, rfl, h⟩ := gr_arg h
  have hB0 : Below w.heap.size w (w.alloc (.cells #[.slice A g.1.length c, .slice B g.2.1.length d, .slice C g.2.2.length e] 28)) := (Below.refl _ w).alloc (Nat.le_refl _) _
  have p1 := Blk.new w 28 [.slice A g.1.length c, .slice B g.2.1.length d, .slice C g.2.2.length e]
  have TF := Lib.hid (fun W (hW : Below w.heap.size w W) => gfew_any A B C g.1.length c g.2.1.length d g.2.2.length e g W (gr_below hW h))
  have TM := Lib.hid (fun W (hW : Below w.heap.size w W) => gmay_any A B C g.1.length c g.2.1.length d g.2.2.length e g W (gr_below hW h))
  have TC := Lib.hid (fun W (hW : Below w.heap.size w W) => canon_any A B C g.1.length c g.2.1.length d g.2.2.length e g W (gr_below hW h))
  have Hg0 := Lib.hid (fun W (hW : Below w.heap.size w W) => gr_below hW h)
  have TT := Lib.hid (fun W (hW : Below w.heap.size w W) hm => renum_any A B C g.1.length c g.2.1.length d g.2.2.length e Ab nb cb g by' W hm (gr_below hW h) (ids_below hW hb))
  clear h
  have H0 := Lib.hid hB0
  clear hB0
  generalize fewG g = few at *
  go_enter Try.func5, Try.ntmps5
  go_wp2_with fail
  refine (cawake_any _).mono ?_
  rintro e w1 ⟨rfl, hB1⟩
  have H1 := Lib.hid (H0.out.trans (hB1.mono H0.out.size))
  replace p1 := p1.to hB1
  clear hB1 H0 
  have c0 := p1.cell (j := 0) rfl
  have c1 := p1.cell (j := 1) rfl
  have c2 := p1.cell (j := 2) rfl
  go_wp2_with fail
  refine (TF.out _ H1.out).mono ?_
  rintro e w2 ⟨rfl, hB2⟩
  have H2 := Lib.hid (H1.out.trans (hB2.mono H1.out.size))
  replace p1 := p1.to hB2
  clear hB2 H1 c0 c1 c2 TF
  cases few
  · go_wp2
    go_ret
    exact ⟨rfl, H2.out⟩
  have c0 := p1.cell (j := 0) rfl
  have c1 := p1.cell (j := 1) rfl
  have c2 := p1.cell (j := 2) rfl
  go_wp2_with fail
  refine (TM.out _ H2.out).mono ?_
  rintro e w3 ⟨rfl, hB3⟩
  have H3 := Lib.hid (H2.out.trans (hB3.mono H2.out.size))
  replace p1 := p1.to hB3
  clear hB3 H2 c0 c1 c2 TM
  by_cases hm : mayG g = true
  rotate_left
  · replace hm : mayG g = false := by simpa using hm
    rw [hm]
    go_wp2
    go_ret
    exact ⟨rfl, H3.out⟩
  rw [hm]
  have R := renamed_relab hm by'
  have c0 := p1.cell (j := 0) rfl
  have c1 := p1.cell (j := 1) rfl
  have c2 := p1.cell (j := 2) rfl
  go_wp2_with fail
  refine (TT.out _ H3.out hm).mono ?_
  rintro e w4 ⟨B4, d4, C4, e4, rfl, h4, hB4⟩
  have hB5 : Below w4.heap.size w4 (w4.alloc (.cells #[.slice A g.1.length c, .slice B4 g.2.1.length d4, .slice C4 g.2.2.length e4] 28)) := (Below.refl _ w4).alloc (Nat.le_refl _) _
  have hB45 := hB4.trans (hB5.mono hB4.size)
  have p5 := Blk.new w4 28 [.slice A g.1.length c, .slice B4 g.2.1.length d4, .slice C4 g.2.2.length e4]
  have H5 := Lib.hid (H3.out.trans (hB45.mono H3.out.size))
  replace p1 := p1.to hB45
  have h5 := gr_below hB5 h4
  clear c0 c1 c2 H3 hB4 hB5 hB45 h4
  go_wp2
  generalize w4.alloc (.cells #[.slice A g.1.length c, .slice B4 g.2.1.length d4, .slice C4 g.2.2.length e4] 28) = w5 at *
  have hm4 := R.may hm
  have hc4 := R.canon hm
  have T1 := Lib.hid (fun W (hW : Below w5.heap.size w5 W) => gmay_any A B4 C4 g.1.length c g.2.1.length d4 g.2.2.length e4 (renamedG g by') W (gr_below hW h5))
  rw [hm4] at T1
  have T2 := Lib.hid (fun W (hW : Below w5.heap.size w5 W) => canon_any A B4 C4 g.1.length c g.2.1.length d4 g.2.2.length e4 (renamedG g by') W (gr_below hW h5))
  rw [hc4] at T2
  have T3 := Lib.hid (fun A1 B1 C1 c1 d1 e1 A2 B2 C2 c2 d2 e2 W hq hr => gsame_any A1 B1 C1 (canonG g).1.length c1 (canonG g).2.1.length d1 (canonG g).2.2.length e1 A2 B2 C2 (canonG g).1.length c2 (canonG g).2.1.length d2 (canonG g).2.2.length e2 (canonG g) (canonG g) W hq hr)
  rw [decide_eq_true rfl] at T3
  have T4 := Lib.hid (fun W (hW : Below w5.heap.size w5 W) => iso_any A B C g.1.length c g.2.1.length d g.2.2.length e A B4 C4 g.1.length c g.2.1.length d4 g.2.2.length e4 g (renamedG g by') W (Hg0.out W (H5.out.trans (hW.mono H5.out.size))) (gr_below hW h5))
  rw [R.iso hm] at T4
  have l1 := p1.lt
  have l5 := p5.lt
  have HS := Lib.hid (fun (W : World) (hW : Below w5.heap.size w5 W) => And.intro ((hW.cell (p := ⟨w.heap.size, 0, none⟩) l1).trans (p1.cell (j := 0) rfl)) (And.intro ((hW.cell (p := ⟨w.heap.size, 1, none⟩) l1).trans (p1.cell (j := 1) rfl)) (And.intro ((hW.cell (p := ⟨w.heap.size, 2, none⟩) l1).trans (p1.cell (j := 2) rfl))
    (And.intro ((hW.cell (p := ⟨w4.heap.size, 0, none⟩) l5).trans (p5.cell (j := 0) rfl)) (And.intro ((hW.cell (p := ⟨w4.heap.size, 1, none⟩) l5).trans (p5.cell (j := 1) rfl)) ((hW.cell (p := ⟨w4.heap.size, 2, none⟩) l5).trans (p5.cell (j := 2) rfl)))))))
  clear p1 p5 h5 hm4 hc4 R Hg0
  generalize g.1.length = N at *
  generalize g.2.1.length = M at *
  generalize g.2.2.length = K at *
  generalize hcg : canonG g = cg at *
  clear hcg
  refine sch_start [(0, true), (1, false), (2, true), (3, true), (5, true), (4, false), (6, false), (7, false), (8, true), (9, true), (10, true), (11, true), (12, false), (13, true), (14, true)] (fun W => Below w5.heap.size w5 W) (by kernel_rfl) rfl (by kernel_rfl) (fun _ _ _ _ _ h => h) ((Below.refl _ w5).drew) (fun hH => ?_)
  repeat (first | (refine sch_yes (v := ?_) rfl rfl ?_ hH ?_; rotate_left; (focus ((intro W hW; obtain ⟨a0, a1, a2, a3, a4, a5⟩ := HS.out W hW; go_simp) <;> with_reducible rfl)); simp only [Act.put, List.setIfInBounds_toArray, List.set_cons_zero, List.set_cons_succ]) | (refine sch_no rfl rfl hH ?_; simp only [Act.put, List.setIfInBounds_toArray, List.set_cons_zero, List.set_cons_succ]))
  refine sch_call rfl rfl (fun K' hK => ?_)
  go_wp2_with (go_at_call 20; refine (T1.out _ hH).mono ?_; rintro e wa ⟨rfl, hB⟩)
  have hD := hH.trans (hB.mono hH.size)
  refine hK.out _ _ hD ?_
  clear hK hH
  have hH := hD
  clear hD hB
  repeat (first | (refine sch_yes (v := ?_) rfl rfl ?_ hH ?_; rotate_left; (focus ((intro W hW; obtain ⟨a0, a1, a2, a3, a4, a5⟩ := HS.out W hW; go_simp) <;> with_reducible rfl)); simp only [Act.put, List.setIfInBounds_toArray, List.set_cons_zero, List.set_cons_succ]) | (refine sch_no rfl rfl hH ?_; simp only [Act.put, List.setIfInBounds_toArray, List.set_cons_zero, List.set_cons_succ]))
  refine sch_call rfl rfl (fun K' hK => ?_)
  go_wp2_with (go_at_call 16; refine (TC.out _ (H5.out.trans (hH.mono H5.out.size))).mono ?_; rintro e wb ⟨A6, c6, B6, d6, C6, e6, rfl, h6, hB⟩)
  have hD := hH.trans (hB.mono hH.size)
  refine hK.out _ _ hD ?_
  clear hK hH
  have hH := hD
  clear hD hB
  refine sch_call rfl rfl (fun K' hK => ?_)
  go_wp2_with (go_at_call 16; refine (T2.out _ hH).mono ?_; rintro e wc ⟨A7, c7, B7, d7, C7, e7, rfl, h7, hB⟩)
  have hD := hH.trans (hB.mono hH.size)
  have TQ := Lib.hid (T3.out A6 B6 C6 c6 d6 e6 A7 B7 C7 c7 d7 e7 wc (gr_below hB h6) h7)
  clear h6 h7
  refine hK.out _ _ hD ?_
  clear hK hH
  have hH := hD
  clear hD hB
  refine sch_call rfl rfl (fun K' hK => ?_)
  go_wp2_with (go_at_call 23; refine (TQ.out).mono ?_; rintro e wd ⟨rfl, hB⟩)
  have hD := hH.trans (hB.mono hH.size)
  clear TQ
  refine hK.out _ _ hD ?_
  clear hK hH
  have hH := hD
  clear hD hB
  repeat (first | (refine sch_yes (v := ?_) rfl rfl ?_ hH ?_; rotate_left; (focus ((intro W hW; obtain ⟨a0, a1, a2, a3, a4, a5⟩ := HS.out W hW; go_simp) <;> with_reducible rfl)); simp only [Act.put, List.setIfInBounds_toArray, List.set_cons_zero, List.set_cons_succ]) | (refine sch_no rfl rfl hH ?_; simp only [Act.put, List.setIfInBounds_toArray, List.set_cons_zero, List.set_cons_succ]))
  refine sch_call rfl rfl (fun K' hK => ?_)
  go_wp2_with (go_at_call 19; refine (T4.out _ hH).mono ?_; rintro e we ⟨rfl, hB⟩)
  have hD := hH.trans (hB.mono hH.size)
  refine hK.out _ _ hD ?_
  clear hK hH
  have hH := hD
  clear hD hB
  repeat (first | (refine sch_yes (v := ?_) rfl rfl ?_ hH ?_; rotate_left; (focus ((intro W hW; obtain ⟨a0, a1, a2, a3, a4, a5⟩ := HS.out W hW; go_simp) <;> with_reducible rfl)); simp only [Act.put, List.setIfInBounds_toArray, List.set_cons_zero, List.set_cons_succ]) | (refine sch_no rfl rfl hH ?_; simp only [Act.put, List.setIfInBounds_toArray, List.set_cons_zero, List.set_cons_succ]))
  refine sch_done ?_
  go_wp2
  go_ret
  exact ⟨rfl, H5.out.trans (hH.mono H5.out.size)⟩
end Go.Proofs.Yteafbdebmhpffaa
