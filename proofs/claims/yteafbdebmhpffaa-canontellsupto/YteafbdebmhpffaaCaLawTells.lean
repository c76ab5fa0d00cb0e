/- CanonTells: any graph's objects are met in the order, and it has the Canon, that the document says; any two are alike, or not. Condition of the walk: texts of both graphs of at most 1048576 bytes, which the row's second form has. -/
import Derived.Test.YteafbdebmhpffaaCaAwake
import Derived.Test.YteafbdebmhpffaaCaRef4
import Derived.Test.YteafbdebmhpffaaGrShort
namespace Go.Proofs.Yteafbdebmhpffaa
open Go.RowKit

set_option maxRecDepth 100000 in
set_option maxHeartbeats 8000000 in
theorem canonTells_walk (w : World) (cs : Array Value) (g : Gr) (h : rGr (All w) w cs.toList g) (hshort : shortG g) (cs1 : Array Value) (g1 : Gr) (hh : rGr (All w) w cs1.toList g1) (hshort1 : shortG g1) :
    Calls Try.prog 3 #[.agg cs, .agg cs1] w fun e w' => e = .returned (.bool true) ∧ Below w.heap.size w w' := by
  obtain ⟨A, c, B, d, C, e, rfl, h⟩ := gr_arg h
  obtain ⟨A1, c1, B1, d1, C1, e1, rfl, hh⟩ := gr_arg hh
  have hB0 : Below w.heap.size w ((w.alloc (.cells #[.slice A g.1.length c, .slice B g.2.1.length d, .slice C g.2.2.length e] 28)).alloc (.cells #[.slice A1 g1.1.length c1, .slice B1 g1.2.1.length d1, .slice C1 g1.2.2.length e1] 28)) := ((Below.refl _ w).alloc (Nat.le_refl _) _).alloc (by simp) _
  obtain ⟨pa, pb⟩ := blk_two w 28 28 [.slice A g.1.length c, .slice B g.2.1.length d, .slice C g.2.2.length e] [.slice A1 g1.1.length c1, .slice B1 g1.2.1.length d1, .slice C1 g1.2.2.length e1]
  have H0 := Lib.hid hB0
  have Fa := Lib.hid (fun W (hW : Below w.heap.size w W) => gfew_any A B C g.1.length c g.2.1.length d g.2.2.length e g W (gr_below hW h))
  have Fb := Lib.hid (fun W (hW : Below w.heap.size w W) => gfew_any A1 B1 C1 g1.1.length c1 g1.2.1.length d1 g1.2.2.length e1 g1 W (gr_below hW hh))
  have O1 := Lib.hid (fun W (hW : Below w.heap.size w W) => order_any A B C g.1.length c g.2.1.length d g.2.2.length e g W (gr_below hW h))
  have O2 := Lib.hid (fun W (hW : Below w.heap.size w W) ht => rorder_any A B C g.1.length c g.2.1.length d g.2.2.length e g W (gr_below hW h) ht)
  have C9 := Lib.hid (fun W (hW : Below w.heap.size w W) => canon_any A B C g.1.length c g.2.1.length d g.2.2.length e g W (gr_below hW h))
  have C8 := Lib.hid (fun W (hW : Below w.heap.size w W) ht => rcanon_any A B C g.1.length c g.2.1.length d g.2.2.length e g W (gr_below hW h) ht)
  have I1 := Lib.hid (fun W (hW : Below w.heap.size w W) => iso_any A B C g.1.length c g.2.1.length d g.2.2.length e A1 B1 C1 g1.1.length c1 g1.2.1.length d1 g1.2.2.length e1 g g1 W (gr_below hW h) (gr_below hW hh))
  have I2 := Lib.hid (fun W (hW : Below w.heap.size w W) ht1 ht2 => riso_any A B C g.1.length c g.2.1.length d g.2.2.length e A1 B1 C1 g1.1.length c1 g1.2.1.length d1 g1.2.2.length e1 g g1 W (gr_below hW h) (gr_below hW hh) ht1 ht2)
  have Ht1 := Lib.hid (fun hf => (short_tame (g := g) hf hshort).2)
  have Ht2 := Lib.hid (fun hf => (short_tame (g := g1) hf hshort1).2)
  clear h hh hB0 hshort hshort1
  generalize hfa : fewG g = fa at *
  generalize hfb : fewG g1 = fb at *
  generalize g.1.length = N at *
  generalize g.2.1.length = M at *
  generalize g.2.2.length = K at *
  generalize g1.1.length = N1 at *
  generalize g1.2.1.length = M1 at *
  generalize g1.2.2.length = K1 at *
  go_enter Try.func3, Try.ntmps3
  go_wp2_with fail
  refine (cawake_any _).mono ?_
  rintro ee w1 ⟨rfl, hB1⟩
  have H1 := Lib.hid (H0.out.trans (hB1.mono H0.out.size))
  replace pa := pa.to hB1
  replace pb := pb.to hB1
  clear hB1 H0 
  have a0 := pa.cell (j := 0) rfl
  have a1 := pa.cell (j := 1) rfl
  have a2 := pa.cell (j := 2) rfl
  go_wp2_with fail
  refine (Fa.out _ H1.out).mono ?_
  rintro ee w2 ⟨rfl, hB2⟩
  have H2 := Lib.hid (H1.out.trans (hB2.mono H1.out.size))
  replace pa := pa.to hB2
  replace pb := pb.to hB2
  clear hB2 H1 a0 a1 a2
  have b0 := pb.cell (j := 0) rfl
  have b1 := pb.cell (j := 1) rfl
  have b2 := pb.cell (j := 2) rfl
  go_wp2_with fail
  refine (Fb.out _ H2.out).mono ?_
  rintro ee w3 ⟨rfl, hB3⟩
  have H3 := Lib.hid (H2.out.trans (hB3.mono H2.out.size))
  replace pa := pa.to hB3
  replace pb := pb.to hB3
  clear hB3 H2 b0 b1 b2
  cases fa
  · go_wp2
    go_ret
    exact ⟨rfl, H3.out⟩
  cases fb
  · go_wp2
    go_ret
    exact ⟨rfl, H3.out⟩
  have t1 := Ht1.out (by trivial)
  have t2 := Ht2.out (by trivial)
  have O2 := Lib.hid (fun W hW => O2.out W hW t1)
  have C8 := Lib.hid (fun W hW => C8.out W hW t1)
  have I2 := Lib.hid (fun W hW => I2.out W hW t1 t2)
  clear Fa Fb Ht1 Ht2 t1 t2 hfa hfb
  have HS := Lib.hid (fun (W : World) (hW : Below w3.heap.size w3 W) => And.intro ((pa.to hW).cell (j := 0) rfl) (And.intro ((pa.to hW).cell (j := 1) rfl) (And.intro ((pa.to hW).cell (j := 2) rfl) (And.intro ((pb.to hW).cell (j := 0) rfl) (And.intro ((pb.to hW).cell (j := 1) rfl) ((pb.to hW).cell (j := 2) rfl))))))
  clear pa pb
  generalize hcg : canonG g = cg at *
  generalize hog : ordG g = og at *
  generalize hig : isoG g g1 = ig at *
  clear hcg hog hig
  go_wp2
  refine sch_start [(0, true), (2, true), (1, false), (3, false), (4, false), (5, true)] (fun W => Below w3.heap.size w3 W) (by kernel_rfl) rfl (by kernel_rfl) (fun _ _ _ _ _ h => h) ((Below.refl _ w3).drew) (fun hH => ?_)
  repeat (first | (refine sch_yes (v := ?_) rfl rfl ?_ hH ?_; rotate_left; (focus ((intro W hW; obtain ⟨q0, q1, q2, q3, q4, q5⟩ := HS.out W hW; go_simp) <;> with_reducible rfl)); simp only [Act.put, List.setIfInBounds_toArray, List.set_cons_zero, List.set_cons_succ]) | (refine sch_no rfl rfl hH ?_; simp only [Act.put, List.setIfInBounds_toArray, List.set_cons_zero, List.set_cons_succ]))
  refine sch_call rfl rfl (fun K' hK => ?_)
  go_wp2_with (go_at_call 13; refine (O1.out _ (H3.out.trans (hH.mono H3.out.size))).mono ?_; rintro ee wa ⟨A4, c4, rfl, h4, hB⟩)
  have hD := hH.trans (hB.mono hH.size)
  refine hK.out _ _ hD ?_
  clear hK hH
  have hH := hD
  clear hD hB
  refine sch_call rfl rfl (fun K' hK => ?_)
  go_wp2_with (go_at_call 14; refine (O2.out _ (H3.out.trans (hH.mono H3.out.size))).mono ?_; rintro ee wb ⟨A5, c5, rfl, h5, hB⟩)
  have hD := hH.trans (hB.mono hH.size)
  have TQ := Lib.hid (rints_any A4 A5 og.length c4 og.length c5 og og wb (ids_below hB (rIds_stays.to (S' := All _) (Keeps.mono fun b hb => hb.2) h4)) (rIds_stays.to (S' := All _) (Keeps.mono fun b hb => hb.2) h5))
  rw [decide_eq_true rfl] at TQ
  clear h4 h5
  refine hK.out _ _ hD ?_
  clear hK hH
  have hH := hD
  clear hD hB
  refine sch_call rfl rfl (fun K' hK => ?_)
  go_wp2_with (go_at_call 12; refine (TQ.out).mono ?_; rintro ee wc ⟨rfl, hB⟩)
  have hD := hH.trans (hB.mono hH.size)
  clear TQ
  refine hK.out _ _ hD ?_
  clear hK hH
  have hH := hD
  clear hD hB
  repeat (first | (refine sch_yes (v := ?_) rfl rfl ?_ hH ?_; rotate_left; (focus ((intro W hW; obtain ⟨q0, q1, q2, q3, q4, q5⟩ := HS.out W hW; go_simp) <;> with_reducible rfl)); simp only [Act.put, List.setIfInBounds_toArray, List.set_cons_zero, List.set_cons_succ]) | (refine sch_no rfl rfl hH ?_; simp only [Act.put, List.setIfInBounds_toArray, List.set_cons_zero, List.set_cons_succ]))
  refine sch_done ?_
  have X1 := Lib.hid hH
  clear hH
  go_wp2
  refine sch_start [(0, true), (2, true), (1, false), (3, false), (4, false), (5, true)] (fun W => Below w3.heap.size w3 W) (by kernel_rfl) rfl (by kernel_rfl) (fun _ _ _ _ _ h => h) (X1.out.drew) (fun hH => ?_)
  repeat (first | (refine sch_yes (v := ?_) rfl rfl ?_ hH ?_; rotate_left; (focus ((intro W hW; obtain ⟨q0, q1, q2, q3, q4, q5⟩ := HS.out W hW; go_simp) <;> with_reducible rfl)); simp only [Act.put, List.setIfInBounds_toArray, List.set_cons_zero, List.set_cons_succ]) | (refine sch_no rfl rfl hH ?_; simp only [Act.put, List.setIfInBounds_toArray, List.set_cons_zero, List.set_cons_succ]))
  refine sch_call rfl rfl (fun K' hK => ?_)
  go_wp2_with (go_at_call 16; refine (C9.out _ (H3.out.trans (hH.mono H3.out.size))).mono ?_; rintro ee wd ⟨A4, c4, B4, d4, C4, e4, rfl, h4, hB⟩)
  have hD := hH.trans (hB.mono hH.size)
  refine hK.out _ _ hD ?_
  clear hK hH
  have hH := hD
  clear hD hB
  refine sch_call rfl rfl (fun K' hK => ?_)
  go_wp2_with (go_at_call 17; refine (C8.out _ (H3.out.trans (hH.mono H3.out.size))).mono ?_; rintro ee we ⟨A5, c5, B5, d5, C5, e5, rfl, h5, hB⟩)
  have hD := hH.trans (hB.mono hH.size)
  have TQ := Lib.hid (rgsame_any A4 B4 C4 cg.1.length c4 cg.2.1.length d4 cg.2.2.length e4 A5 B5 C5 cg.1.length c5 cg.2.1.length d5 cg.2.2.length e5 cg cg we (gr_below hB h4) h5)
  rw [decide_eq_true rfl] at TQ
  clear h4 h5
  refine hK.out _ _ hD ?_
  clear hK hH
  have hH := hD
  clear hD hB
  refine sch_call rfl rfl (fun K' hK => ?_)
  go_wp2_with (go_at_call 15; refine (TQ.out).mono ?_; rintro ee wf ⟨rfl, hB⟩)
  have hD := hH.trans (hB.mono hH.size)
  clear TQ
  refine hK.out _ _ hD ?_
  clear hK hH
  have hH := hD
  clear hD hB
  repeat (first | (refine sch_yes (v := ?_) rfl rfl ?_ hH ?_; rotate_left; (focus ((intro W hW; obtain ⟨q0, q1, q2, q3, q4, q5⟩ := HS.out W hW; go_simp) <;> with_reducible rfl)); simp only [Act.put, List.setIfInBounds_toArray, List.set_cons_zero, List.set_cons_succ]) | (refine sch_no rfl rfl hH ?_; simp only [Act.put, List.setIfInBounds_toArray, List.set_cons_zero, List.set_cons_succ]))
  refine sch_done ?_
  have X2 := Lib.hid hH
  obtain ⟨q0, q1, q2, q3, q4, q5⟩ := HS.out _ hH
  clear hH
  go_wp2_with fail
  refine (I2.out _ (H3.out.trans (X2.out.mono H3.out.size))).mono ?_
  rintro ee wg ⟨rfl, hBg⟩
  have X3 := Lib.hid (X2.out.trans (hBg.mono X2.out.size))
  clear q0 q1 q2 q3 q4 q5 hBg
  obtain ⟨q0, q1, q2, q3, q4, q5⟩ := HS.out _ X3.out
  go_wp2_with fail
  refine (I1.out _ (H3.out.trans (X3.out.mono H3.out.size))).mono ?_
  rintro ee wh ⟨rfl, hBh⟩
  have X4 := Lib.hid (X3.out.trans (hBh.mono X3.out.size))
  clear q0 q1 q2 q3 q4 q5 hBh HS
  cases ig
  · go_wp2
    go_ret
    exact ⟨rfl, H3.out.trans (X4.out.mono H3.out.size)⟩
  · go_wp2
    go_ret
    exact ⟨rfl, H3.out.trans (X4.out.mono H3.out.size)⟩
end Go.Proofs.Yteafbdebmhpffaa
