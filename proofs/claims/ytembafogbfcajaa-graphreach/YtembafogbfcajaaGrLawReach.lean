/- GraphReach: roots are come to; what a Ref of what is come to leads to is; a sweep keeps just these, and swept again nothing changes. No condition. -/
import Derived.Test.YtembafogbfcajaaGrAwake
import Derived.Test.YtembafogbfcajaaGrRefS
import Derived.Test.YtembafogbfcajaaGrStayPlain
import Derived.Test.YtembafogbfcajaaSched
import Derived.BigQuiet
namespace Go.Proofs.Ytembafogbfcajaa
open Go.RowKit

theorem reach_root {g : Gr} (hm : mayG g = true) {r : Int} (hr : r ∈ g.2.2) (h0 : 0 ≤ r) : r ∈ reachG g :=
  (reach_mem hm).2 ⟨⟨r, hr, by omega, .here⟩, come_is hm ⟨r, hr, by omega, .here⟩⟩
theorem reach_ref {g : Gr} (hm : mayG g = true) {o : Ob} (ho : o ∈ g.2.1) {k : Nat} {f : Fld} {v : Vl} (hf : (fldsG g.1 o.2.1)[k]? = some f) (hv : o.2.2[k]? = some v) (h5 : f.2.1 = 5) (h0 : 0 ≤ v.2.2) (h : o.1 ∈ reachG g) : v.2.2 ∈ reachG g := by
  obtain ⟨a, b⟩ := come_ref hm ho ((reach_mem hm).1 h).1 hf hv h5 (by omega)
  exact (reach_mem hm).2 ⟨a, b⟩
theorem reach_len (g : Gr) : (sweepG g).2.1.length = (reachG g).length := by rw [reachG, List.length_map]

set_option maxRecDepth 100000 in
set_option maxHeartbeats 4000000 in
theorem graphReach_walk (w : World) (cs : Array Value) (g : Gr) (h : rGr (All w) w cs.toList g) (i : Int) (hi0 : -9223372036854775808 ≤ i) (hi1 : i ≤ 9223372036854775807) (k : Int) (hk0 : -9223372036854775808 ≤ k) (hk1 : k ≤ 9223372036854775807) :
    Calls Try.prog 5 #[.agg cs, .int .i64 i, .int .i64 k] w fun e w' => e = .returned (.bool true) ∧ Below w.heap.size w w' := by
  obtain ⟨A, c, B, d, C, e, rfl, h⟩ := gr_arg h
  have hB0 : Below w.heap.size w (w.alloc (.cells #[.slice A g.1.length c, .slice B g.2.1.length d, .slice C g.2.2.length e] 28)) := (Below.refl _ w).alloc (Nat.le_refl _) _
  have p1 := Blk.new w 28 [.slice A g.1.length c, .slice B g.2.1.length d, .slice C g.2.2.length e]
  have TF := Lib.hid (fun W (hW : Below w.heap.size w W) => gfew_any A B C g.1.length c g.2.1.length d g.2.2.length e g W (gr_below hW h))
  have TM := Lib.hid (fun W (hW : Below w.heap.size w W) => gmay_any A B C g.1.length c g.2.1.length d g.2.2.length e g W (gr_below hW h))
  have TC := Lib.hid (fun W (hW : Below w.heap.size w W) => greach_any A B C g.1.length c g.2.1.length d g.2.2.length e g W (gr_below hW h))
  have TW := Lib.hid (fun W (hW : Below w.heap.size w W) => gsweep_any A B C g.1.length c g.2.1.length d g.2.2.length e g W (gr_below hW h))
  have Hg := Lib.hid (fun W (hW : Below w.heap.size w W) => gr_below hW h)
  have HB0 := Lib.hid hB0
  have hMn : g.2.1.length ≤ 9223372036854775807 := by have := (slice_len (rGr_open h).2.1).2; simp only [maxLen] at this; omega
  have hKn : g.2.2.length ≤ 9223372036854775807 := by have := (slice_len (rGr_open h).2.2).2; simp only [maxLen] at this; omega
  clear hB0 h
  generalize hN : g.1.length = N at *
  generalize hM : g.2.1.length = M at *
  generalize hK : g.2.2.length = K at *
  have HN := Lib.hid hN
  have HM := Lib.hid hM
  have HK := Lib.hid hK
  clear hN hM hK
  generalize fewG g = few at *
  by_cases hm : mayG g = true
  · rw [hm] at TM
    have Hroot := Lib.hid (fun r h1 h2 => reach_root (g := g) (r := r) hm h1 h2)
    have Href := Lib.hid (fun o ho k f v h1 h2 h3 h4 h5 => reach_ref (g := g) (o := o) hm ho (k := k) (f := f) (v := v) h1 h2 h3 h4 h5)
    have Hobj := Lib.hid (fun o ho => mayG_obj (g := g) hm (o := o) ho)
    have Htw := sweep_twice hm
    have Hrt := reach_twice hm
    have Hln := reach_len g
    clear hm
    go_enter Try.func5, Try.ntmps5
    go_wp2_with fail
    refine (gawake_any _).mono ?_
    rintro e w1 ⟨rfl, hB1⟩
    have H1 := Lib.hid (HB0.out.trans (hB1.mono HB0.out.size))
    replace p1 := p1.to hB1
    clear hB1 HB0
    have c0 := p1.cell (j := 0) rfl
    have c1 := p1.cell (j := 1) rfl
    have c2 := p1.cell (j := 2) rfl
    go_wp2_with fail
    refine (TF.out _ H1.out).mono ?_
    rintro e w2 ⟨rfl, hB2⟩
    have H2 := Lib.hid (H1.out.trans (hB2.mono H1.out.size))
    replace p1 := p1.to hB2
    clear hB2 H1 c0 c1 c2 TF
    cases few
    · go_wp2
      go_ret
      exact ⟨rfl, H2.out⟩
    have c0 := p1.cell (j := 0) rfl
    have c1 := p1.cell (j := 1) rfl
    have c2 := p1.cell (j := 2) rfl
    go_wp2_with fail
    refine (TM.out _ H2.out).mono ?_
    rintro e w3 ⟨rfl, hB3⟩
    have H3 := Lib.hid (H2.out.trans (hB3.mono H2.out.size))
    replace p1 := p1.to hB3
    clear hB3 H2 c0 c1 c2 TM
    have c0 := p1.cell (j := 0) rfl
    have c1 := p1.cell (j := 1) rfl
    have c2 := p1.cell (j := 2) rfl
    go_wp2_with fail
    refine (TC.out _ H3.out).mono ?_
    rintro e w4 ⟨Al, cl, rfl, hl, hlw, hB4⟩
    have H4 := Lib.hid (H3.out.trans (hB4.mono H3.out.size))
    replace p1 := p1.to hB4
    have HL := Lib.hid (rIds_stays.to (S' := All w4) (w' := w4) (Keeps.mono fun b hb => hb.2) (ids_own hl rfl hlw))
    clear hB4 H3 c0 c1 c2 TC hl hlw
    have c0 := p1.cell (j := 0) rfl
    have c1 := p1.cell (j := 1) rfl
    have c2 := p1.cell (j := 2) rfl
    go_wp2_with fail
    refine (TW.out _ H4.out).mono ?_
    rintro e w5 ⟨As, cs, Bs, ds, Cs, es, rfl, hsr, hB5⟩
    have hB6 : Below w5.heap.size w5 (w5.alloc (.cells #[.slice As (sweepG g).1.length cs, .slice Bs (sweepG g).2.1.length ds, .slice Cs (sweepG g).2.2.length es] 28)) := (Below.refl _ w5).alloc (Nat.le_refl _) _
    have p10 := Blk.new w5 28 [.slice As (sweepG g).1.length cs, .slice Bs (sweepG g).2.1.length ds, .slice Cs (sweepG g).2.2.length es]
    have hX := hB5.trans (hB6.mono hB5.size)
    have H6 := Lib.hid (H4.out.trans (hX.mono H4.out.size))
    replace p1 := p1.to hX
    have HL6 := Lib.hid (fun W (hW : Below w5.heap.size w5 W) => ids_below hW (ids_below hB5 HL.out))
    have HS6 := Lib.hid (fun W (hW : Below w5.heap.size w5 W) => gr_below hW hsr)
    have HB6 := Lib.hid hB6
    have TR2 := Lib.hid (fun W (hW : Below w5.heap.size w5 W) => greach_any As Bs Cs (sweepG g).1.length cs (sweepG g).2.1.length ds (sweepG g).2.2.length es (sweepG g) W (gr_below hW hsr))
    have TW2 := Lib.hid (fun W (hW : Below w5.heap.size w5 W) => gsweep_any As Bs Cs (sweepG g).1.length cs (sweepG g).2.1.length ds (sweepG g).2.2.length es (sweepG g) W (gr_below hW hsr))
    rw [Hrt] at TR2
    rw [Htw] at TW2
    have TE2 := Lib.hid (fun A1 B1 C1 c1 d1 e1 W hq (hW : Below w5.heap.size w5 W) => gsame_any A1 B1 C1 (sweepG g).1.length c1 (sweepG g).2.1.length d1 (sweepG g).2.2.length e1 As Bs Cs (sweepG g).1.length cs (sweepG g).2.1.length ds (sweepG g).2.2.length es (sweepG g) (sweepG g) W hq (gr_below hW hsr))
    rw [decide_eq_true rfl] at TE2
    clear hB5 hB6 hX H4 c0 c1 c2 HL hsr Htw Hrt TW
    have c2 := p1.cell (j := 2) rfl
    generalize hR : reachG g = R at *
    clear hR
    generalize (sweepG g).2.1.length = S2 at *
    generalize (sweepG g).1.length = S1 at *
    generalize (sweepG g).2.2.length = S3 at *
    subst Hln
    go_wp2
    generalize hw6 : w5.alloc (.cells #[.slice As S1 cs, .slice Bs R.length ds, .slice Cs S3 es] 28) = w6 at *
    clear hw6
    go_loopw [11] (fun iv W => ∃ q : Nat, q ≤ K ∧ iv = .int .i64 (q : Int) ∧ W = w6) (fun iv _ => K - (intOf iv).toNat)
    case atStart => exact ⟨0, by omega, rfl, rfl⟩
    case round =>
      obtain ⟨q, hq, rfl, rfl⟩ := hrel
      by_cases hqK : q < K
      · obtain ⟨r, hr⟩ : ∃ r, g.2.2[q]? = some r := ⟨_, List.getElem?_eq_getElem (by have := HK.out; omega)⟩
        obtain ⟨b, off, rfl, hb, hrc, -⟩ := id_at (rGr_open (Hg.out _ H6.out)).2.2 hr
        have hql : (q : Int) < (K : Int) := by omega
        have hq0 : (0 : Int) ≤ (q : Int) := by omega
        have T1 := Lib.hid (rhas_any Al R.length cl R r _ (HL6.out _ HB6.out))
        by_cases hr0 : 0 ≤ r
        · have hr0' : decide (0 ≤ r) = true := decide_eq_true hr0
          rw [decide_eq_true (Hroot.out r (List.mem_of_getElem? hr) hr0)] at T1
          clear hr hr0
          go_wp2_with fail
          refine T1.out.mono ?_
          rintro e w7 ⟨rfl, rfl⟩
          go_wp2
          go_roundw
          case rel => exact ⟨q + 1, by omega, by go_num, by trivial⟩
          case measure => simp [intOf]; omega
        · have hr0' : decide (0 ≤ r) = false := decide_eq_false hr0
          generalize decide (r ∈ R) = bb at *
          clear hr hr0
          go_wp2_with fail
          refine T1.out.mono ?_
          rintro e w7 ⟨rfl, rfl⟩
          go_wp2
          go_roundw
          case rel => exact ⟨q + 1, by omega, by go_num, by trivial⟩
          case measure => simp [intOf]; omega
      · obtain rfl : q = K := by omega
        have s0 := p10.cell (j := 0) rfl
        have s1 := p10.cell (j := 1) rfl
        have s2 := p10.cell (j := 2) rfl
        go_wp2_with fail
        refine (TR2.out _ HB6.out).mono ?_
        rintro e w7 ⟨A7, c7, rfl, h7, h7w, hB7⟩
        have hC7 := HB6.out.trans (hB7.mono HB6.out.size)
        have r7 := rIds_stays.to (S' := All w7) (w' := w7) (Keeps.mono fun b hb => hb.2) (ids_own h7 rfl h7w)
        have T2 := Lib.hid (rints_any A7 Al R.length c7 R.length cl R R w7 r7 (HL6.out _ hC7))
        rw [decide_eq_true rfl] at T2
        have H7 := Lib.hid (H6.out.trans (hB7.mono H6.out.size))
        replace p1 := p1.to hB7
        replace p10 := p10.to hB7
        clear h7 h7w hB7 r7 s0 s1 s2 c2 TR2 H6
        go_wp2_with fail
        refine T2.out.mono ?_
        rintro e w8 ⟨rfl, hB8⟩
        have hC8 := Lib.hid (hC7.trans (hB8.mono hC7.size))
        have H8 := Lib.hid (H7.out.trans (hB8.mono H7.out.size))
        replace p1 := p1.to hB8
        replace p10 := p10.to hB8
        clear hB8 hC7 H7
        have HSc := Lib.hid (fun (W : World) (hW : Below w8.heap.size w8 W) => And.intro ((p10.to hW).cell (j := 0) rfl) (And.intro ((p10.to hW).cell (j := 1) rfl) ((p10.to hW).cell (j := 2) rfl)))
        have hnn : ((R.length : Int) != (R.length : Int)) = false := by simp
        go_wp2
        refine sch_start [(0, true), (1, true), (2, true), (3, true), (4, true), (5, true), (6, true), (7, true), (8, true), (9, true), (10, true), (11, true), (13, true), (12, false), (14, false), (15, true), (16, true)]
          (fun W => W.cell? ⟨w5.heap.size, 0, none⟩ = some (.slice As S1 cs) ∧ W.cell? ⟨w5.heap.size, 1, none⟩ = some (.slice Bs R.length ds) ∧ W.cell? ⟨w5.heap.size, 2, none⟩ = some (.slice Cs S3 es)) (by kernel_rfl) rfl (by kernel_rfl) (fun _ _ _ _ _ h => h) (HSc.out _ (Below.refl _ w8).drew) (fun hH => ?_)
        have hCx : Below w8.heap.size w8 w8.drew := (Below.refl w8.heap.size w8).drew
        repeat (first | (refine sch_yes (v := ?_) rfl rfl ?_ hH ?_; rotate_left; (focus ((rintro W ⟨hW0, hW1, hW2⟩; go_simp) <;> with_reducible rfl)); simp only [Act.put, List.setIfInBounds_toArray, List.set_cons_zero, List.set_cons_succ]) | (refine sch_no rfl rfl hH ?_; simp only [Act.put, List.setIfInBounds_toArray, List.set_cons_zero, List.set_cons_succ]))
        refine sch_call rfl rfl (fun K' hK' => ?_)
        go_wp2_with (go_at_call 19; refine (TW2.out _ (hC8.out.trans (hCx.mono hC8.out.size))).mono ?_; rintro e w9 ⟨A9, c9, B9, d9, C9, e9, rfl, h9, hB9⟩)
        have hC9 := hCx.trans (hB9.mono hCx.size)
        refine hK'.out _ _ (HSc.out _ hC9) ?_
        clear hK' hH
        have hH := HSc.out _ hC9
        repeat (first | (refine sch_yes (v := ?_) rfl rfl ?_ hH ?_; rotate_left; (focus ((rintro W ⟨hW0, hW1, hW2⟩; go_simp) <;> with_reducible rfl)); simp only [Act.put, List.setIfInBounds_toArray, List.set_cons_zero, List.set_cons_succ]) | (refine sch_no rfl rfl hH ?_; simp only [Act.put, List.setIfInBounds_toArray, List.set_cons_zero, List.set_cons_succ]))
        refine sch_call rfl rfl (fun K' hK' => ?_)
        go_wp2_with (go_at_call 26; refine (TE2.out A9 B9 C9 c9 d9 e9 _ h9 (hC8.out.trans (hC9.mono hC8.out.size))).mono ?_; rintro e w10 ⟨rfl, hB10⟩)
        have hC10 := hC9.trans (hB10.mono hC9.size)
        refine hK'.out _ _ (HSc.out _ hC10) ?_
        clear hK' hH
        have hH := HSc.out _ hC10
        repeat (first | (refine sch_yes (v := ?_) rfl rfl ?_ hH ?_; rotate_left; (focus ((rintro W ⟨hW0, hW1, hW2⟩; go_simp) <;> with_reducible rfl)); simp only [Act.put, List.setIfInBounds_toArray, List.set_cons_zero, List.set_cons_succ]) | (refine sch_no rfl rfl hH ?_; simp only [Act.put, List.setIfInBounds_toArray, List.set_cons_zero, List.set_cons_succ]))
        refine sch_done ?_
        clear hH
        have H10 := Lib.hid (H8.out.trans (hC10.mono H8.out.size))
        have hC5 := Lib.hid (hC8.out.trans (hC10.mono hC8.out.size))
        replace p1 := p1.to hC10
        clear hC10 hC9 hB9 hB10 hCx h9 H8 TW2 TE2 HSc p10 hC8
        have c0 := p1.cell (j := 0) rfl
        have c1 := p1.cell (j := 1) rfl
        have c2 := p1.cell (j := 2) rfl
        by_cases hi : i < 0
        · have hi' : decide (i < 0) = true := decide_eq_true hi
          clear hi
          go_wp2
          refine sch_start [(0, true), (1, true), (2, true), (3, true), (4, true), (5, true), (6, true), (7, true), (8, true), (9, true), (10, true), (11, true), (12, true), (13, true), (14, true), (15, true), (16, true), (17, true), (18, true), (19, true), (20, true), (21, true), (22, true), (23, true), (24, true), (25, true), (26, true), (27, true), (28, true), (29, true), (30, true), (31, true), (32, true), (33, true), (34, true), (35, true), (36, true), (37, true), (38, true), (39, true), (40, true), (41, true), (42, true), (43, true), (44, true), (45, true), (46, true), (47, true), (48, true), (49, true), (50, true), (51, true), (52, true), (53, true), (54, true), (55, true)]
            (fun W => W.cell? ⟨w.heap.size, 0, none⟩ = some (.slice A N c) ∧ W.cell? ⟨w.heap.size, 1, none⟩ = some (.slice B M d)) (by kernel_rfl) rfl (by kernel_rfl) (fun _ _ _ _ _ h => h) (And.intro (c0) (c1)) (fun hH => ?_)
          repeat (first | (refine sch_yes (v := ?_) rfl rfl ?_ hH ?_; rotate_left; (focus ((rintro W ⟨hW0, hW1⟩; go_simp) <;> with_reducible rfl)); simp only [Act.put, List.setIfInBounds_toArray, List.set_cons_zero, List.set_cons_succ]) | (refine sch_no rfl rfl hH ?_; simp only [Act.put, List.setIfInBounds_toArray, List.set_cons_zero, List.set_cons_succ]))
          refine sch_done ?_
          clear hH
          go_wp2
          go_ret
          exact ⟨rfl, H10.out.drew⟩
        have hi' : decide (i < 0) = false := decide_eq_false hi
        by_cases hiM : (M : Int) ≤ i
        · have hiM' : decide ((M : Int) ≤ i) = true := decide_eq_true hiM
          clear hi hiM
          go_wp2
          refine sch_start [(0, true), (1, true), (2, true), (3, true), (4, true), (5, true), (6, true), (7, true), (8, true), (9, true), (10, true), (11, true), (12, true), (13, true), (14, true), (15, true), (16, true), (17, true), (18, true), (19, true), (20, true), (21, true), (22, true), (23, true), (24, true), (25, true), (26, true), (27, true), (28, true), (29, true), (30, true), (31, true), (32, true), (33, true), (34, true), (35, true), (36, true), (37, true), (38, true), (39, true), (40, true), (41, true), (42, true), (43, true), (44, true), (45, true), (46, true), (47, true), (48, true), (49, true), (50, true), (51, true), (52, true), (53, true), (54, true), (55, true)]
            (fun W => W.cell? ⟨w.heap.size, 0, none⟩ = some (.slice A N c) ∧ W.cell? ⟨w.heap.size, 1, none⟩ = some (.slice B M d)) (by kernel_rfl) rfl (by kernel_rfl) (fun _ _ _ _ _ h => h) (And.intro (c0) (c1)) (fun hH => ?_)
          repeat (first | (refine sch_yes (v := ?_) rfl rfl ?_ hH ?_; rotate_left; (focus ((rintro W ⟨hW0, hW1⟩; go_simp) <;> with_reducible rfl)); simp only [Act.put, List.setIfInBounds_toArray, List.set_cons_zero, List.set_cons_succ]) | (refine sch_no rfl rfl hH ?_; simp only [Act.put, List.setIfInBounds_toArray, List.set_cons_zero, List.set_cons_succ]))
          refine sch_done ?_
          clear hH
          go_wp2
          go_ret
          exact ⟨rfl, H10.out.drew⟩
        have hiM' : decide ((M : Int) ≤ i) = false := decide_eq_false hiM
        obtain ⟨I, rfl⟩ : ∃ I : Nat, i = (I : Int) := ⟨i.toNat, by omega⟩
        have hIM : I < M := by omega
        have hiM5 : decide (M ≤ I) = false := decide_eq_false (by omega)
        have hi5 : decide ((I : Int) < 0) = false := decide_eq_false (by omega)
        by_cases hk : k < 0
        · have hk' : decide (k < 0) = true := decide_eq_true hk
          clear hk hi hiM
          go_wp2
          refine sch_start [(0, true), (1, true), (2, true), (3, true), (4, true), (5, true), (6, true), (7, true), (8, true), (9, true), (10, true), (11, true), (12, true), (13, true), (14, true), (15, true), (16, true), (17, true), (18, true), (19, true), (20, true), (21, true), (22, true), (23, true), (24, true), (25, true), (26, true), (27, true), (28, true), (29, true), (30, true), (31, true), (32, true), (33, true), (34, true), (35, true), (36, true), (37, true), (38, true), (39, true), (40, true), (41, true), (42, true), (43, true), (44, true), (45, true), (46, true), (47, true), (48, true), (49, true), (50, true), (51, true), (52, true), (53, true), (54, true), (55, true)]
            (fun W => W.cell? ⟨w.heap.size, 0, none⟩ = some (.slice A N c) ∧ W.cell? ⟨w.heap.size, 1, none⟩ = some (.slice B M d)) (by kernel_rfl) rfl (by kernel_rfl) (fun _ _ _ _ _ h => h) (And.intro (c0) (c1)) (fun hH => ?_)
          repeat (first | (refine sch_yes (v := ?_) rfl rfl ?_ hH ?_; rotate_left; (focus ((rintro W ⟨hW0, hW1⟩; go_simp) <;> with_reducible rfl)); simp only [Act.put, List.setIfInBounds_toArray, List.set_cons_zero, List.set_cons_succ]) | (refine sch_no rfl rfl hH ?_; simp only [Act.put, List.setIfInBounds_toArray, List.set_cons_zero, List.set_cons_succ]))
          refine sch_done ?_
          clear hH
          go_wp2
          go_ret
          exact ⟨rfl, H10.out.drew⟩
        have hk' : decide (k < 0) = false := decide_eq_false hk
        obtain ⟨kn, rfl⟩ : ∃ kn : Nat, k = (kn : Int) := ⟨k.toNat, by omega⟩
        obtain ⟨o, hoi⟩ : ∃ o, g.2.1[I]? = some o := ⟨_, List.getElem?_eq_getElem (by have := HM.out; omega)⟩
        obtain ⟨b, off, A2, c2', rfl, hb, x0, x1, x2, hvs, -, -⟩ := ob_at (rGr_open (Hg.out _ H10.out)).2.1 hoi
        have hom := List.mem_of_getElem? hoi
        have mo := Hobj.out o hom
        have hil : (I : Int) < (M : Int) := by omega
        have hi00 : (0 : Int) ≤ (I : Int) := by omega
        have hk00 : (0 : Int) ≤ (kn : Int) := by omega
        by_cases hkl : o.2.2.length ≤ kn
        · have hkl' : decide ((o.2.2.length : Int) ≤ (kn : Int)) = true := decide_eq_true (by omega)
          have hkl5 : decide (o.2.2.length ≤ kn) = true := decide_eq_true (by omega)
          clear hkl hk hi hiM mo hvs hoi
          generalize o.2.2.length = vl at *
          go_wp2
          refine sch_start [(0, true), (1, true), (2, true), (3, true), (4, true), (5, true), (6, true), (7, true), (8, true), (9, true), (10, true), (11, true), (12, true), (13, true), (14, true), (15, true), (16, true), (17, true), (18, true), (19, true), (20, true), (21, true), (22, true), (23, true), (24, true), (25, true), (26, true), (27, true), (28, true), (29, true), (30, true), (31, true), (32, true), (33, true), (34, true), (35, true), (36, true), (37, true), (38, true), (39, true), (40, true), (41, true), (42, true), (43, true), (44, true), (45, true), (46, true), (47, true), (48, true), (49, true), (50, true), (51, true), (52, true), (53, true), (54, true), (55, true)]
            (fun W => W.cell? ⟨w.heap.size, 0, none⟩ = some (.slice A N c) ∧ W.cell? ⟨w.heap.size, 1, none⟩ = some (.slice (some ⟨b, off, none⟩) M d) ∧ W.cell? ⟨b, off + I * 3 + 2, none⟩ = some (.slice A2 vl c2')) (by kernel_rfl) rfl (by kernel_rfl) (fun _ _ _ _ _ h => h) (And.intro (c0) (And.intro (c1) ((x2)))) (fun hH => ?_)
          repeat (first | (refine sch_yes (v := ?_) rfl rfl ?_ hH ?_; rotate_left; (focus ((rintro W ⟨hW0, hW1, hW2⟩; go_simp) <;> with_reducible rfl)); simp only [Act.put, List.setIfInBounds_toArray, List.set_cons_zero, List.set_cons_succ]) | (refine sch_no rfl rfl hH ?_; simp only [Act.put, List.setIfInBounds_toArray, List.set_cons_zero, List.set_cons_succ]))
          refine sch_done ?_
          clear hH
          go_wp2
          go_ret
          exact ⟨rfl, H10.out.drew⟩
        have hkl' : decide ((o.2.2.length : Int) ≤ (kn : Int)) = false := decide_eq_false (by omega)
        have hkl5 : decide (o.2.2.length ≤ kn) = false := decide_eq_false (by omega)
        have hk5 : decide ((kn : Int) < 0) = false := decide_eq_false (by omega)
        obtain ⟨t, ht⟩ : ∃ t : Nat, o.2.1 = (t : Int) := ⟨o.2.1.toNat, by have := mo.t0; omega⟩
        have htN : t < N := by have := mo.t1; have := HN.out; omega
        obtain ⟨ty, hty⟩ : ∃ ty, g.1[t]? = some ty := ⟨_, List.getElem?_eq_getElem (by have := HN.out; omega)⟩
        have hfe := fldsG_at ht hty
        obtain ⟨bt, offt, st, AF, cF, rfl, hbt, -, y1, -, -, hfs⟩ := typ_at (rGr_open (Hg.out _ H10.out)).1 hty
        have hlen := mo.len
        rw [hfe] at hlen
        obtain ⟨f, hfk⟩ : ∃ f, ty.2[kn]? = some f := ⟨_, List.getElem?_eq_getElem (by omega)⟩
        obtain ⟨bf, offf, sx, tx, rfl, hbf, z0, z1, z2, -, -, -, -, -⟩ := fld_at hfs hfk
        obtain ⟨v, hvk⟩ : ∃ v, o.2.2[kn]? = some v := ⟨_, List.getElem?_eq_getElem (by omega)⟩
        obtain ⟨bv, offv, sv, rfl, hbv, u0, u1, u2, -, -, -, -⟩ := val_at hvs hvk
        have htl : (t : Int) < (N : Int) := by omega
        have ht00 : (0 : Int) ≤ (t : Int) := by omega
        have hkf : (kn : Int) < (ty.2.length : Int) := by omega
        have hkv : (kn : Int) < (o.2.2.length : Int) := by omega
        rw [ht] at x1
        have Hcl := Lib.hid (fun h5 h0 hin => Href.out o hom kn f v (by rw [hfe]; exact hfk) hvk h5 h0 hin)
        have T3 := Lib.hid (fun W hW => rhas_any Al R.length cl R o.1 W (HL6.out W hW))
        have T4 := Lib.hid (fun W hW => rhas_any Al R.length cl R v.2.2 W (HL6.out W hW))
        clear hfk hvk hfs hvs mo hoi hom hty hfe hlen ht
        generalize o.2.2.length = vl at *
        generalize ty.2.length = fl at *
        generalize o.1 = oid at *
        generalize f.2.1 = kk at *
        generalize v.2.2 = rr at *
        by_cases h5 : kk = 5
        · have h5' : (kk != 5) = false := by simp [h5]
          by_cases hrr : rr < 0
          · have hrr' : decide (rr < 0) = true := decide_eq_true hrr
            clear hrr h5 hkl hk hi hiM Hcl T3 T4
            go_wp2
            refine sch_start [(0, true), (1, true), (2, true), (3, true), (4, true), (5, true), (6, true), (7, true), (8, true), (9, true), (10, true), (11, true), (12, true), (13, true), (14, true), (15, true), (16, true), (17, true), (18, true), (19, true), (20, true), (21, true), (22, true), (23, true), (24, true), (25, true), (26, true), (27, true), (28, true), (29, true), (30, true), (31, true), (32, true), (33, true), (34, true), (35, true), (36, true), (37, true), (38, true), (39, true), (40, true), (41, true), (42, true), (43, true), (44, true), (45, true), (46, true), (47, true), (48, true), (49, true), (50, true), (51, true), (52, true), (53, true), (54, true), (55, true)]
              (fun W => W.cell? ⟨w.heap.size, 0, none⟩ = some (.slice (some ⟨bt, offt, none⟩) N c) ∧ W.cell? ⟨w.heap.size, 1, none⟩ = some (.slice (some ⟨b, off, none⟩) M d) ∧ W.cell? ⟨b, off + I * 3 + 1, none⟩ = some (.int .i64 (t : Int)) ∧ W.cell? ⟨b, off + I * 3 + 2, none⟩ = some (.slice (some ⟨bv, offv, none⟩) vl c2') ∧ W.cell? ⟨bt, offt + t * 2 + 1, none⟩ = some (.slice (some ⟨bf, offf, none⟩) fl cF) ∧ W.cell? ⟨bf, offf + kn * 3 + 1, none⟩ = some (.int .i64 kk) ∧ W.cell? ⟨bv, offv + kn * 3 + 2, none⟩ = some (.int .i64 rr)) (by kernel_rfl) rfl (by kernel_rfl) (fun _ _ _ _ _ h => h) (And.intro (c0) (And.intro (c1) ((And.intro (x1) (And.intro (x2) (And.intro (y1) (And.intro (z1) (u2)))))))) (fun hH => ?_)
            repeat (first | (refine sch_yes (v := ?_) rfl rfl ?_ hH ?_; rotate_left; (focus ((rintro W ⟨hW0, hW1, hW2, hW3, hW4, hW5, hW6⟩; go_simp) <;> with_reducible rfl)); simp only [Act.put, List.setIfInBounds_toArray, List.set_cons_zero, List.set_cons_succ]) | (refine sch_no rfl rfl hH ?_; simp only [Act.put, List.setIfInBounds_toArray, List.set_cons_zero, List.set_cons_succ]))
            refine sch_done ?_
            clear hH
            go_wp2
            go_ret
            exact ⟨rfl, H10.out.drew⟩
          have hrr' : decide (rr < 0) = false := decide_eq_false hrr
          have Hcl2 := Lib.hid (fun hin => Hcl.out h5 (by omega) hin)
          clear hrr h5 hkl hk hi hiM Hcl
          go_wp2
          refine sch_start [(0, true), (1, true), (2, true), (3, true), (4, true), (5, true), (6, true), (7, true), (8, true), (9, true), (10, true), (11, true), (12, true), (13, true), (14, true), (15, true), (16, true), (17, true), (18, true), (19, true), (20, true), (21, true), (22, true), (23, true), (24, true), (25, true), (26, true), (27, true), (28, true), (29, true), (30, true), (31, true), (32, true), (33, true), (34, true), (35, true), (36, true), (37, true), (38, true), (39, true), (40, true), (41, true), (42, true), (43, true), (44, true), (45, true), (46, true), (47, true), (48, true), (49, true), (50, true), (51, true), (52, true), (53, true), (54, true), (55, true)]
            (fun W => W.cell? ⟨w.heap.size, 0, none⟩ = some (.slice (some ⟨bt, offt, none⟩) N c) ∧ W.cell? ⟨w.heap.size, 1, none⟩ = some (.slice (some ⟨b, off, none⟩) M d) ∧ W.cell? ⟨b, off + I * 3 + 1, none⟩ = some (.int .i64 (t : Int)) ∧ W.cell? ⟨b, off + I * 3 + 2, none⟩ = some (.slice (some ⟨bv, offv, none⟩) vl c2') ∧ W.cell? ⟨bt, offt + t * 2 + 1, none⟩ = some (.slice (some ⟨bf, offf, none⟩) fl cF) ∧ W.cell? ⟨bf, offf + kn * 3 + 1, none⟩ = some (.int .i64 kk) ∧ W.cell? ⟨bv, offv + kn * 3 + 2, none⟩ = some (.int .i64 rr)) (by kernel_rfl) rfl (by kernel_rfl) (fun _ _ _ _ _ h => h) (And.intro (c0) (And.intro (c1) ((And.intro (x1) (And.intro (x2) (And.intro (y1) (And.intro (z1) (u2)))))))) (fun hH => ?_)
          repeat (first | (refine sch_yes (v := ?_) rfl rfl ?_ hH ?_; rotate_left; (focus ((rintro W ⟨hW0, hW1, hW2, hW3, hW4, hW5, hW6⟩; go_simp) <;> with_reducible rfl)); simp only [Act.put, List.setIfInBounds_toArray, List.set_cons_zero, List.set_cons_succ]) | (refine sch_no rfl rfl hH ?_; simp only [Act.put, List.setIfInBounds_toArray, List.set_cons_zero, List.set_cons_succ]))
          refine sch_done ?_
          clear hH
          go_wp2_with fail
          refine (T3.out _ (hC5.out.drew)).mono ?_
          rintro e w11 ⟨rfl, rfl⟩
          go_wp2_with fail
          refine (T4.out _ (hC5.out.drew)).mono ?_
          rintro e w12 ⟨rfl, rfl⟩
          by_cases hin : oid ∈ R
          · rw [decide_eq_true hin, decide_eq_true (Hcl2.out hin)]
            go_wp2
            go_ret
            exact ⟨rfl, H10.out.drew⟩
          · rw [decide_eq_false hin]
            generalize decide (rr ∈ R) = bb at *
            go_wp2
            go_ret
            exact ⟨rfl, H10.out.drew⟩
        · have h5' : (kk != 5) = true := by simp [h5]
          clear h5 hkl hk hi hiM Hcl T3 T4
          go_wp2
          refine sch_start [(0, true), (1, true), (2, true), (3, true), (4, true), (5, true), (6, true), (7, true), (8, true), (9, true), (10, true), (11, true), (12, true), (13, true), (14, true), (15, true), (16, true), (17, true), (18, true), (19, true), (20, true), (21, true), (22, true), (23, true), (24, true), (25, true), (26, true), (27, true), (28, true), (29, true), (30, true), (31, true), (32, true), (33, true), (34, true), (35, true), (36, true), (37, true), (38, true), (39, true), (40, true), (41, true), (42, true), (43, true), (44, true), (45, true), (46, true), (47, true), (48, true), (49, true), (50, true), (51, true), (52, true), (53, true), (54, true), (55, true)]
            (fun W => W.cell? ⟨w.heap.size, 0, none⟩ = some (.slice (some ⟨bt, offt, none⟩) N c) ∧ W.cell? ⟨w.heap.size, 1, none⟩ = some (.slice (some ⟨b, off, none⟩) M d) ∧ W.cell? ⟨b, off + I * 3 + 1, none⟩ = some (.int .i64 (t : Int)) ∧ W.cell? ⟨b, off + I * 3 + 2, none⟩ = some (.slice (some ⟨bv, offv, none⟩) vl c2') ∧ W.cell? ⟨bt, offt + t * 2 + 1, none⟩ = some (.slice (some ⟨bf, offf, none⟩) fl cF) ∧ W.cell? ⟨bf, offf + kn * 3 + 1, none⟩ = some (.int .i64 kk) ∧ W.cell? ⟨bv, offv + kn * 3 + 2, none⟩ = some (.int .i64 rr)) (by kernel_rfl) rfl (by kernel_rfl) (fun _ _ _ _ _ h => h) (And.intro (c0) (And.intro (c1) ((And.intro (x1) (And.intro (x2) (And.intro (y1) (And.intro (z1) (u2)))))))) (fun hH => ?_)
          repeat (first | (refine sch_yes (v := ?_) rfl rfl ?_ hH ?_; rotate_left; (focus ((rintro W ⟨hW0, hW1, hW2, hW3, hW4, hW5, hW6⟩; go_simp) <;> with_reducible rfl)); simp only [Act.put, List.setIfInBounds_toArray, List.set_cons_zero, List.set_cons_succ]) | (refine sch_no rfl rfl hH ?_; simp only [Act.put, List.setIfInBounds_toArray, List.set_cons_zero, List.set_cons_succ]))
          refine sch_done ?_
          clear hH
          go_wp2
          go_ret
          exact ⟨rfl, H10.out.drew⟩
  · replace hm : mayG g = false := by simpa using hm
    rw [hm] at TM
    go_enter Try.func5, Try.ntmps5
    go_wp2_with fail
    refine (gawake_any _).mono ?_
    rintro e w1 ⟨rfl, hB1⟩
    have H1 := Lib.hid (HB0.out.trans (hB1.mono HB0.out.size))
    replace p1 := p1.to hB1
    clear hB1 HB0 hm
    have c0 := p1.cell (j := 0) rfl
    have c1 := p1.cell (j := 1) rfl
    have c2 := p1.cell (j := 2) rfl
    go_wp2_with fail
    refine (TF.out _ H1.out).mono ?_
    rintro e w2 ⟨rfl, hB2⟩
    have H2 := Lib.hid (H1.out.trans (hB2.mono H1.out.size))
    replace p1 := p1.to hB2
    clear hB2 H1 c0 c1 c2 TF
    cases few
    · go_wp2
      go_ret
      exact ⟨rfl, H2.out⟩
    have c0 := p1.cell (j := 0) rfl
    have c1 := p1.cell (j := 1) rfl
    have c2 := p1.cell (j := 2) rfl
    go_wp2_with fail
    refine (TM.out _ H2.out).mono ?_
    rintro e w3 ⟨rfl, hB3⟩
    go_wp2
    go_ret
    exact ⟨rfl, H2.out.trans (hB3.mono H2.out.size)⟩
end Go.Proofs.Ytembafogbfcajaa
