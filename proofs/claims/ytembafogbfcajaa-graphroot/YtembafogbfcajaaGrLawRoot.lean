/- GraphRoot: a root that is set is come to; with more roots no less is; without roots nothing. No condition. -/
import Derived.Test.YtembafogbfcajaaGrAwake
import Derived.Test.YtembafogbfcajaaGrRootPlain
namespace Go.Proofs.Ytembafogbfcajaa
open Go.RowKit

set_option maxRecDepth 100000 in
set_option maxHeartbeats 8000000 in
theorem graphRoot_walk (w : World) (cs : Array Value) (g : Gr) (h : rGr (All w) w cs.toList g) (i : Int) (_hi0 : -9223372036854775808 ≤ i) (_hi1 : i ≤ 9223372036854775807) (id : Int) (hd0 : -9223372036854775808 ≤ id) (hd1 : id ≤ 9223372036854775807) :
    Calls Try.prog 9 #[.agg cs, .int .i64 i, .int .i64 id] w fun e w' => e = .returned (.bool true) ∧ Below w.heap.size w w' := by
  obtain ⟨A, c, B, d, C, e, rfl, h⟩ := gr_arg h
  have hid : (Lit.int .i64 id).wf = true := WalkArith.wf_i64 ⟨hd0, hd1⟩
  have hB0 : Below w.heap.size w (w.alloc (.cells #[.slice A g.1.length c, .slice B g.2.1.length d, .slice C g.2.2.length e] 28)) := (Below.refl _ w).alloc (Nat.le_refl _) _
  have p1 := Blk.new w 28 [.slice A g.1.length c, .slice B g.2.1.length d, .slice C g.2.2.length e]
  have TF := Lib.hid (fun W (hW : Below w.heap.size w W) => gfew_any A B C g.1.length c g.2.1.length d g.2.2.length e g W (gr_below hW h))
  have TM := Lib.hid (fun W (hW : Below w.heap.size w W) => gmay_any A B C g.1.length c g.2.1.length d g.2.2.length e g W (gr_below hW h))
  have TR := Lib.hid (fun W (hW : Below w.heap.size w W) j hm => groot_any A B C g.1.length c g.2.1.length d g.2.2.length e g j id W (gr_below hW h) (tame_may h hm) hid)
  have TC := Lib.hid (fun W (hW : Below w.heap.size w W) => greach_any A B C g.1.length c g.2.1.length d g.2.2.length e g W (gr_below hW h))
  have TN := Lib.hid (fun W (hW : Below w.heap.size w W) => greach_any A B none g.1.length c g.2.1.length d 0 0 (g.1, g.2.1, []) W (rGr_mk (rGr_open (gr_below hW h)).1 (rGr_open (gr_below hW h)).2.1 ⟨none, 0, [], rfl, Nat.le_refl _, Nat.zero_le _, .inl rfl, Chunks.nil⟩))
  rw [reach_none] at TN
  have HB0 := Lib.hid hB0
  have Hmore := Lib.hid (fun h => root_more (g := g) (id := id) h)
  have Hhere := Lib.hid (fun h1 h2 => root_here (g := g) (i := i) (id := id) h1 h2)
  clear hB0 h
  generalize g.1.length = N at *
  generalize g.2.1.length = M at *
  generalize g.2.2.length = K at *
  generalize fewG g = few at *
  generalize hm : mayG g = may at *
  go_enter Try.func9, Try.ntmps9
  go_wp2_with fail
  refine (gawake_any _).mono ?_
  rintro e w1 ⟨rfl, hB1⟩
  have H1 := Lib.hid (HB0.out.trans (hB1.mono HB0.out.size))
  replace p1 := p1.to hB1
  clear hB1 HB0
  have c0 := p1.cell (j := 0) rfl
  have c1 := p1.cell (j := 1) rfl
  have c2 := p1.cell (j := 2) rfl
  go_wp2_with fail
  refine (TF.out _ H1.out).mono ?_
  rintro e w2 ⟨rfl, hB2⟩
  have H2 := Lib.hid (H1.out.trans (hB2.mono H1.out.size))
  replace p1 := p1.to hB2
  clear hB2 H1 c0 c1 c2 TF
  cases few
  · go_wp2
    go_ret
    exact ⟨rfl, H2.out⟩
  have c0 := p1.cell (j := 0) rfl
  have c1 := p1.cell (j := 1) rfl
  have c2 := p1.cell (j := 2) rfl
  go_wp2_with fail
  refine (TM.out _ H2.out).mono ?_
  rintro e w3 ⟨rfl, hB3⟩
  have H3 := Lib.hid (H2.out.trans (hB3.mono H2.out.size))
  replace p1 := p1.to hB3
  clear hB3 H2 c0 c1 c2 TM
  cases may
  · go_wp2
    go_ret
    exact ⟨rfl, H3.out⟩
  -- none: the graph without roots
  have T2 := Lib.hid (fun W hW j => TR.out W hW j (by trivial))
  clear TR
  have c0 := p1.cell (j := 0) rfl
  have c1 := p1.cell (j := 1) rfl
  have c2 := p1.cell (j := 2) rfl
  have p9 := Blk.new w3 28 [.slice A N c, .slice B M d, .slice none 0 0]
  have hB4 : Below w3.heap.size w3 (w3.alloc (.cells #[.slice A N c, .slice B M d, .slice none 0 0] 28)) := (Below.refl _ w3).alloc (Nat.le_refl _) _
  have H4 := Lib.hid (H3.out.trans (hB4.mono H3.out.size))
  replace p1 := p1.to hB4
  have d0 := p1.cell (j := 0) rfl
  have d1 := p1.cell (j := 1) rfl
  have d2 := p1.cell (j := 2) rfl
  clear hB4 H3
  go_wp2_with fail
  refine (T2.out _ H4.out (K : Int)).mono ?_
  rintro e w5 ⟨A5, c5, B5, d5, C5, e5, rfl, h5, hB5⟩
  have hB6 : Below w5.heap.size w5 (w5.alloc (.cells #[.slice A5 (rootN g K id).1.length c5, .slice B5 (rootN g K id).2.1.length d5, .slice C5 (rootN g K id).2.2.length e5] 28)) := (Below.refl _ w5).alloc (Nat.le_refl _) _
  have hB46 := hB5.trans (hB6.mono hB5.size)
  have H6 := Lib.hid (H4.out.trans (hB46.mono H4.out.size))
  have p10 := Blk.new w5 28 [.slice A5 (rootN g K id).1.length c5, .slice B5 (rootN g K id).2.1.length d5, .slice C5 (rootN g K id).2.2.length e5]
  replace p1 := p1.to hB46
  replace p9 := p9.to hB46
  have TD := Lib.hid (fun W (hW : Below w5.heap.size w5 W) => greach_any A5 B5 C5 (rootN g K id).1.length c5 (rootN g K id).2.1.length d5 (rootN g K id).2.2.length e5 (rootN g K id) W (gr_below hW h5))
  have HB6 := Lib.hid hB6
  clear c0 c1 c2 d0 d1 d2 hB5 hB46 h5 hB6 H4
  generalize (rootN g K id).1.length = N5 at *
  generalize (rootN g K id).2.1.length = M5 at *
  generalize (rootN g K id).2.2.length = K5 at *
  generalize reachG (rootN g K id) = R5 at *
  generalize reachG g = R1 at *
  go_wp2
  generalize w5.alloc (.cells #[.slice A5 N5 c5, .slice B5 M5 d5, .slice C5 K5 e5] 28) = w6 at *
  have HS := Lib.hid (fun (W : World) (hW : Below w6.heap.size w6 W) => And.intro ((p9.to hW).cell (j := 0) rfl) (And.intro ((p9.to hW).cell (j := 1) rfl) (And.intro ((p9.to hW).cell (j := 2) rfl) (And.intro ((p10.to hW).cell (j := 0) rfl) (And.intro ((p10.to hW).cell (j := 1) rfl) (And.intro ((p10.to hW).cell (j := 2) rfl) (And.intro ((p1.to hW).cell (j := 0) rfl) (And.intro ((p1.to hW).cell (j := 1) rfl) ((p1.to hW).cell (j := 2) rfl)))))))))
  by_cases he : rootE g K id = 0
  · have hle := Hmore.out he
    rw [he]
    clear he
    refine sch_start [(0, true), (1, false), (2, true), (3, true), (4, true), (5, true), (6, true), (7, true), (8, true), (11, true), (9, false), (10, true), (12, false), (13, true), (14, true), (15, true), (16, true)]
      (fun W => W.cell? ⟨w3.heap.size, 0, none⟩ = some (.slice A N c) ∧ W.cell? ⟨w3.heap.size, 1, none⟩ = some (.slice B M d) ∧ W.cell? ⟨w3.heap.size, 2, none⟩ = some (.slice none 0 0) ∧ W.cell? ⟨w5.heap.size, 0, none⟩ = some (.slice A5 N5 c5) ∧ W.cell? ⟨w5.heap.size, 1, none⟩ = some (.slice B5 M5 d5) ∧ W.cell? ⟨w5.heap.size, 2, none⟩ = some (.slice C5 K5 e5) ∧ W.cell? ⟨w.heap.size, 0, none⟩ = some (.slice A N c) ∧ W.cell? ⟨w.heap.size, 1, none⟩ = some (.slice B M d) ∧ W.cell? ⟨w.heap.size, 2, none⟩ = some (.slice C K e)) (by kernel_rfl) rfl (by kernel_rfl) (fun _ _ _ _ _ h => h) (HS.out _ (Below.refl _ w6).drew) (fun hH => ?_)
    have hCx : Below w6.heap.size w6 w6.drew := (Below.refl w6.heap.size w6).drew
    repeat (first | (refine sch_yes (v := ?_) rfl rfl ?_ hH ?_; rotate_left; (focus ((rintro W ⟨hW0, hW1, hW2, hW3, hW4, hW5, hW6, hW7, hW8⟩; go_simp) <;> with_reducible rfl)); simp only [Act.put, List.setIfInBounds_toArray, List.set_cons_zero, List.set_cons_succ]) | (refine sch_no rfl rfl hH ?_; simp only [Act.put, List.setIfInBounds_toArray, List.set_cons_zero, List.set_cons_succ]))
    refine sch_call rfl rfl (fun K' hK => ?_)
    go_wp2_with (go_at_call 22; refine (TN.out _ (H6.out.trans (hCx.mono H6.out.size))).mono ?_; rintro e wa ⟨Aa, ca, rfl, -, -, hBa⟩)
    have hCa := hCx.trans (hBa.mono hCx.size)
    refine hK.out _ _ (HS.out _ hCa) ?_
    clear hK hH
    have hH := HS.out _ hCa
    repeat (first | (refine sch_yes (v := ?_) rfl rfl ?_ hH ?_; rotate_left; (focus ((rintro W ⟨hW0, hW1, hW2, hW3, hW4, hW5, hW6, hW7, hW8⟩; go_simp) <;> with_reducible rfl)); simp only [Act.put, List.setIfInBounds_toArray, List.set_cons_zero, List.set_cons_succ]) | (refine sch_no rfl rfl hH ?_; simp only [Act.put, List.setIfInBounds_toArray, List.set_cons_zero, List.set_cons_succ]))
    refine sch_call rfl rfl (fun K' hK => ?_)
    go_wp2_with (go_at_call 22; refine (TD.out _ (HB6.out.trans (hCa.mono HB6.out.size))).mono ?_; rintro e wb ⟨Ab, cb, rfl, -, -, hBb⟩)
    have hCb := hCa.trans (hBb.mono hCa.size)
    refine hK.out _ _ (HS.out _ hCb) ?_
    clear hK hH
    have hH := HS.out _ hCb
    repeat (first | (refine sch_yes (v := ?_) rfl rfl ?_ hH ?_; rotate_left; (focus ((rintro W ⟨hW0, hW1, hW2, hW3, hW4, hW5, hW6, hW7, hW8⟩; go_simp) <;> with_reducible rfl)); simp only [Act.put, List.setIfInBounds_toArray, List.set_cons_zero, List.set_cons_succ]) | (refine sch_no rfl rfl hH ?_; simp only [Act.put, List.setIfInBounds_toArray, List.set_cons_zero, List.set_cons_succ]))
    refine sch_call rfl rfl (fun K' hK => ?_)
    go_wp2_with (go_at_call 22; refine (TC.out _ (H6.out.trans (hCb.mono H6.out.size))).mono ?_; rintro e wc ⟨Ac, cc, rfl, -, -, hBc⟩)
    have hCz := hCb.trans (hBc.mono hCb.size)
    refine hK.out _ _ (HS.out _ hCz) ?_
    clear hK hH
    have hH := HS.out _ hCz
    have hlt : decide ((R5.length : Int) < (R1.length : Int)) = false := decide_eq_false (by omega)
    repeat (first | (refine sch_yes (v := ?_) rfl rfl ?_ hH ?_; rotate_left; (focus ((rintro W ⟨hW0, hW1, hW2, hW3, hW4, hW5, hW6, hW7, hW8⟩; go_simp) <;> with_reducible rfl)); simp only [Act.put, List.setIfInBounds_toArray, List.set_cons_zero, List.set_cons_succ]) | (refine sch_no rfl rfl hH ?_; simp only [Act.put, List.setIfInBounds_toArray, List.set_cons_zero, List.set_cons_succ]))
    refine sch_done ?_
    clear hH hBa hBb hBc hCx hCa hCb
    replace p1 := p1.to hCz
    have H8 := Lib.hid (H6.out.trans (hCz.mono H6.out.size))
    clear HS p9 p10 hCz H6
    have k0 := p1.cell (j := 0) rfl
    have k1 := p1.cell (j := 1) rfl
    have k2 := p1.cell (j := 2) rfl
    go_wp2_with fail
    refine (T2.out _ H8.out i).mono ?_
    rintro e w9 ⟨A9, c9, B9, d9, C9, e9, rfl, h9, hB9⟩
    have hB10 : Below w9.heap.size w9 (w9.alloc (.cells #[.slice A9 (rootN g i id).1.length c9, .slice B9 (rootN g i id).2.1.length d9, .slice C9 (rootN g i id).2.2.length e9] 28)) := (Below.refl _ w9).alloc (Nat.le_refl _) _
    have p12 := Blk.new w9 28 [.slice A9 (rootN g i id).1.length c9, .slice B9 (rootN g i id).2.1.length d9, .slice C9 (rootN g i id).2.2.length e9]
    have TX := Lib.hid (greach_any A9 B9 C9 (rootN g i id).1.length c9 (rootN g i id).2.1.length d9 (rootN g i id).2.2.length e9 (rootN g i id) _ (gr_below hB10 h9))
    have hB810 := hB9.trans (hB10.mono hB9.size)
    have H10 := Lib.hid (H8.out.trans (hB810.mono H8.out.size))
    clear k0 k1 k2 p1 hB9 h9 T2 H8 hB10 hB810 TC TN TD Hmore
    generalize (rootN g i id).1.length = N9 at *
    generalize (rootN g i id).2.1.length = M9 at *
    generalize (rootN g i id).2.2.length = K9 at *
    generalize reachG (rootN g i id) = R9 at *
    have k0 := p12.cell (j := 0) rfl
    have k1 := p12.cell (j := 1) rfl
    have k2 := p12.cell (j := 2) rfl
    by_cases he2 : rootE g i id = 0
    · by_cases hneg : id < 0
      · have hneg' : decide (id < 0) = true := decide_eq_true hneg
        rw [he2]
        clear Hhere TX hneg he2
        go_wp2
        go_ret
        exact ⟨rfl, H10.out⟩
      · have hneg' : decide (id < 0) = false := decide_eq_false hneg
        have Hm := Lib.hid (Hhere.out he2 (by omega))
        rw [he2]
        clear Hhere hneg he2
        go_wp2_with fail
        refine TX.out.mono ?_
        rintro e w10 ⟨AX, cX, rfl, hX, -, hBX⟩
        have H11 := Lib.hid (H10.out.trans (hBX.mono H10.out.size))
        clear hBX
        have hXr := (own_slice hX)
        obtain ⟨AX', cX', hv, hcap, hrd, -⟩ := hXr
        injection hv with hv1 _ hv2
        subst hv1 hv2
        obtain ⟨j, hj⟩ := List.getElem?_of_mem Hm.out
        have hjl := (List.getElem?_eq_some_iff.1 hj).1
        have Hj := Lib.hid hj
        have hcm : R9.length ≤ 9223372036854775807 := by
          rcases hX.2 with ⟨h1, h2⟩ | ⟨_, _, _, h1, _, _, h2, h3, _⟩
          · omega
          · unfold maxLen at h3; omega
        clear hX hj Hm
        generalize hRl : R9.length = L at *
        go_wp2
        go_loopw [15] (fun iv w' => ∃ q : Nat, q ≤ j ∧ iv = .int .i64 (q : Int) ∧ w' = w10) (fun iv _ => L - (intOf iv).toNat)
        case atStart => exact ⟨0, Nat.zero_le _, rfl, rfl⟩
        case round =>
          obtain ⟨q, hq, rfl, rfl⟩ := hrel
          obtain ⟨b, off, rfl, hb, hcc⟩ := hrd.at (k := q) (by rw [ints_length]; omega)
          obtain ⟨x, hx⟩ : ∃ x, R9[q]? = some x := ⟨_, List.getElem?_eq_getElem (by omega)⟩
          have hxc := hcc q (.int .i64 x) (by simp [ints, hx])
          have hql : (q : Int) < (L : Int) := by omega
          have hq0 : (0 : Int) ≤ (q : Int) := by omega
          by_cases hxe : x = id
          · have hxe' : (x == id) = true := by simp [hxe]
            clear hxe hcc hx
            go_wp2
            go_ret
            exact ⟨rfl, H11.out⟩
          · have hxe' : (x == id) = false := by simp [hxe]
            have hqj : q + 1 ≤ j := by
              rcases Nat.lt_or_ge q j with h | h
              · exact h
              · obtain rfl : q = j := by omega
                have := Hj.out
                rw [hx] at this
                injection this with this
                exact absurd this hxe
            clear hxe hcc hx
            go_wp2
            go_roundw
            case rel => exact ⟨q + 1, hqj, by go_num, by trivial⟩
            case measure => simp [intOf]; omega
    · have he2' : (rootE g i id != 0) = true := by simp [he2]
      clear Hhere TX he2
      generalize rootE g i id = er2 at *
      go_wp2
      go_ret
      exact ⟨rfl, H10.out⟩
  · have he' : (rootE g K id == 0) = false := by simp [he]
    clear he
    generalize rootE g K id = er at *
    refine sch_start [(0, true), (1, false), (2, true), (3, true), (4, true), (5, true), (6, true), (7, true), (8, true), (11, true), (9, false), (10, true), (12, false), (13, true), (14, true), (15, true), (16, true)]
      (fun W => W.cell? ⟨w3.heap.size, 0, none⟩ = some (.slice A N c) ∧ W.cell? ⟨w3.heap.size, 1, none⟩ = some (.slice B M d) ∧ W.cell? ⟨w3.heap.size, 2, none⟩ = some (.slice none 0 0) ∧ W.cell? ⟨w5.heap.size, 0, none⟩ = some (.slice A5 N5 c5) ∧ W.cell? ⟨w5.heap.size, 1, none⟩ = some (.slice B5 M5 d5) ∧ W.cell? ⟨w5.heap.size, 2, none⟩ = some (.slice C5 K5 e5) ∧ W.cell? ⟨w.heap.size, 0, none⟩ = some (.slice A N c) ∧ W.cell? ⟨w.heap.size, 1, none⟩ = some (.slice B M d) ∧ W.cell? ⟨w.heap.size, 2, none⟩ = some (.slice C K e)) (by kernel_rfl) rfl (by kernel_rfl) (fun _ _ _ _ _ h => h) (HS.out _ (Below.refl _ w6).drew) (fun hH => ?_)
    have hCx : Below w6.heap.size w6 w6.drew := (Below.refl w6.heap.size w6).drew
    repeat (first | (refine sch_yes (v := ?_) rfl rfl ?_ hH ?_; rotate_left; (focus ((rintro W ⟨hW0, hW1, hW2, hW3, hW4, hW5, hW6, hW7, hW8⟩; go_simp) <;> with_reducible rfl)); simp only [Act.put, List.setIfInBounds_toArray, List.set_cons_zero, List.set_cons_succ]) | (refine sch_no rfl rfl hH ?_; simp only [Act.put, List.setIfInBounds_toArray, List.set_cons_zero, List.set_cons_succ]))
    refine sch_call rfl rfl (fun K' hK => ?_)
    go_wp2_with (go_at_call 22; refine (TN.out _ (H6.out.trans (hCx.mono H6.out.size))).mono ?_; rintro e wa ⟨Aa, ca, rfl, -, -, hBa⟩)
    have hCz := hCx.trans (hBa.mono hCx.size)
    refine hK.out _ _ (HS.out _ hCz) ?_
    clear hK hH
    have hH := HS.out _ hCz
    repeat (first | (refine sch_yes (v := ?_) rfl rfl ?_ hH ?_; rotate_left; (focus ((rintro W ⟨hW0, hW1, hW2, hW3, hW4, hW5, hW6, hW7, hW8⟩; go_simp) <;> with_reducible rfl)); simp only [Act.put, List.setIfInBounds_toArray, List.set_cons_zero, List.set_cons_succ]) | (refine sch_no rfl rfl hH ?_; simp only [Act.put, List.setIfInBounds_toArray, List.set_cons_zero, List.set_cons_succ]))
    refine sch_call_no rfl rfl hH ?_
    repeat (first | (refine sch_yes (v := ?_) rfl rfl ?_ hH ?_; rotate_left; (focus ((rintro W ⟨hW0, hW1, hW2, hW3, hW4, hW5, hW6, hW7, hW8⟩; go_simp) <;> with_reducible rfl)); simp only [Act.put, List.setIfInBounds_toArray, List.set_cons_zero, List.set_cons_succ]) | (refine sch_no rfl rfl hH ?_; simp only [Act.put, List.setIfInBounds_toArray, List.set_cons_zero, List.set_cons_succ]))
    refine sch_call_no rfl rfl hH ?_
    repeat (first | (refine sch_yes (v := ?_) rfl rfl ?_ hH ?_; rotate_left; (focus ((rintro W ⟨hW0, hW1, hW2, hW3, hW4, hW5, hW6, hW7, hW8⟩; go_simp) <;> with_reducible rfl)); simp only [Act.put, List.setIfInBounds_toArray, List.set_cons_zero, List.set_cons_succ]) | (refine sch_no rfl rfl hH ?_; simp only [Act.put, List.setIfInBounds_toArray, List.set_cons_zero, List.set_cons_succ]))
    refine sch_done ?_
    clear hH hBa hCx
    replace p1 := p1.to hCz
    have H8 := Lib.hid (H6.out.trans (hCz.mono H6.out.size))
    clear HS p9 p10 hCz H6
    have k0 := p1.cell (j := 0) rfl
    have k1 := p1.cell (j := 1) rfl
    have k2 := p1.cell (j := 2) rfl
    go_wp2_with fail
    refine (T2.out _ H8.out i).mono ?_
    rintro e w9 ⟨A9, c9, B9, d9, C9, e9, rfl, h9, hB9⟩
    have hB10 : Below w9.heap.size w9 (w9.alloc (.cells #[.slice A9 (rootN g i id).1.length c9, .slice B9 (rootN g i id).2.1.length d9, .slice C9 (rootN g i id).2.2.length e9] 28)) := (Below.refl _ w9).alloc (Nat.le_refl _) _
    have p12 := Blk.new w9 28 [.slice A9 (rootN g i id).1.length c9, .slice B9 (rootN g i id).2.1.length d9, .slice C9 (rootN g i id).2.2.length e9]
    have TX := Lib.hid (greach_any A9 B9 C9 (rootN g i id).1.length c9 (rootN g i id).2.1.length d9 (rootN g i id).2.2.length e9 (rootN g i id) _ (gr_below hB10 h9))
    have hB810 := hB9.trans (hB10.mono hB9.size)
    have H10 := Lib.hid (H8.out.trans (hB810.mono H8.out.size))
    clear k0 k1 k2 p1 hB9 h9 T2 H8 hB10 hB810 TC TN TD Hmore
    generalize (rootN g i id).1.length = N9 at *
    generalize (rootN g i id).2.1.length = M9 at *
    generalize (rootN g i id).2.2.length = K9 at *
    generalize reachG (rootN g i id) = R9 at *
    have k0 := p12.cell (j := 0) rfl
    have k1 := p12.cell (j := 1) rfl
    have k2 := p12.cell (j := 2) rfl
    by_cases he2 : rootE g i id = 0
    · by_cases hneg : id < 0
      · have hneg' : decide (id < 0) = true := decide_eq_true hneg
        rw [he2]
        clear Hhere TX hneg he2
        go_wp2
        go_ret
        exact ⟨rfl, H10.out⟩
      · have hneg' : decide (id < 0) = false := decide_eq_false hneg
        have Hm := Lib.hid (Hhere.out he2 (by omega))
        rw [he2]
        clear Hhere hneg he2
        go_wp2_with fail
        refine TX.out.mono ?_
        rintro e w10 ⟨AX, cX, rfl, hX, -, hBX⟩
        have H11 := Lib.hid (H10.out.trans (hBX.mono H10.out.size))
        clear hBX
        have hXr := (own_slice hX)
        obtain ⟨AX', cX', hv, hcap, hrd, -⟩ := hXr
        injection hv with hv1 _ hv2
        subst hv1 hv2
        obtain ⟨j, hj⟩ := List.getElem?_of_mem Hm.out
        have hjl := (List.getElem?_eq_some_iff.1 hj).1
        have Hj := Lib.hid hj
        have hcm : R9.length ≤ 9223372036854775807 := by
          rcases hX.2 with ⟨h1, h2⟩ | ⟨_, _, _, h1, _, _, h2, h3, _⟩
          · omega
          · unfold maxLen at h3; omega
        clear hX hj Hm
        generalize hRl : R9.length = L at *
        go_wp2
        go_loopw [15] (fun iv w' => ∃ q : Nat, q ≤ j ∧ iv = .int .i64 (q : Int) ∧ w' = w10) (fun iv _ => L - (intOf iv).toNat)
        case atStart => exact ⟨0, Nat.zero_le _, rfl, rfl⟩
        case round =>
          obtain ⟨q, hq, rfl, rfl⟩ := hrel
          obtain ⟨b, off, rfl, hb, hcc⟩ := hrd.at (k := q) (by rw [ints_length]; omega)
          obtain ⟨x, hx⟩ : ∃ x, R9[q]? = some x := ⟨_, List.getElem?_eq_getElem (by omega)⟩
          have hxc := hcc q (.int .i64 x) (by simp [ints, hx])
          have hql : (q : Int) < (L : Int) := by omega
          have hq0 : (0 : Int) ≤ (q : Int) := by omega
          by_cases hxe : x = id
          · have hxe' : (x == id) = true := by simp [hxe]
            clear hxe hcc hx
            go_wp2
            go_ret
            exact ⟨rfl, H11.out⟩
          · have hxe' : (x == id) = false := by simp [hxe]
            have hqj : q + 1 ≤ j := by
              rcases Nat.lt_or_ge q j with h | h
              · exact h
              · obtain rfl : q = j := by omega
                have := Hj.out
                rw [hx] at this
                injection this with this
                exact absurd this hxe
            clear hxe hcc hx
            go_wp2
            go_roundw
            case rel => exact ⟨q + 1, hqj, by go_num, by trivial⟩
            case measure => simp [intOf]; omega
    · have he2' : (rootE g i id != 0) = true := by simp [he2]
      clear Hhere TX he2
      generalize rootE g i id = er2 at *
      go_wp2
      go_ret
      exact ⟨rfl, H10.out⟩
end Go.Proofs.Ytembafogbfcajaa
