/- DeltaBase: to a graph of another sum a delta is not applied; what it makes is its own Canon, and of as many objects as it has items. Condition: the table of kinds' texts is laid. -/
import Derived.Test.YtclbjbhpncpmbaaGreatDoorDeAwake
import Derived.Test.YtclbjbhpncpmbaaGreatDoorDeFew
import Derived.Test.YtclbjbhpncpmbaaGreatDoorGCanon
namespace Go.Proofs.YtclbjbhpncpmbaaGreatDoor
open Go.RowKit


set_option maxRecDepth 100000 in
set_option maxHeartbeats 8000000 in
theorem deltaBase_walk (w : World) (hL : Kt w) (cs : Array Value) (g : Gr) (hg : rGr (All w) w cs.toList g) (cs1 : Array Value) (q : Dlt) (hq : rDlt (All w) w cs1.toList q) :
    Calls Tryz.prog 5 #[.agg cs, .agg cs1] w fun e w' => e = .returned (.bool true) ∧ Below w.heap.size w w' := by
  obtain ⟨A, c, B, d, C, e, rfl, hg⟩ := gr_arg hg
  obtain ⟨R1, rc1, L1, lc1, rfl, hq⟩ := dlt_arg hq
  have hB0 : Below w.heap.size w ((w.alloc (.cells #[.slice A g.1.length c, .slice B g.2.1.length d, .slice C g.2.2.length e] 28)).alloc (.cells #[.int .u32 q.1, .slice R1 q.2.1.length rc1, .slice L1 q.2.2.length lc1] 32)) := (((Below.refl _ w).alloc (Nat.le_refl _) _).alloc (by simp) _)
  obtain ⟨pg, pq⟩ := blk_two w 28 32 [.slice A g.1.length c, .slice B g.2.1.length d, .slice C g.2.2.length e] [.int .u32 q.1, .slice R1 q.2.1.length rc1, .slice L1 q.2.2.length lc1]
  have Fg := Lib.hid (fun W (hW : Below w.heap.size w W) => gfew_any A B C g.1.length c g.2.1.length d g.2.2.length e g W (gr_below hW hg))
  have Rg := Lib.hid (fun W (hW : Below w.heap.size w W) => gr_below hW hg)
  have Fq := Lib.hid (fun W (hW : Below w.heap.size w W) => dfew_any R1 L1 q.2.1.length rc1 q.2.2.length lc1 q W (dlt_below hW hq))
  have Rq := Lib.hid (fun W (hW : Below w.heap.size w W) => dlt_below hW hq)
  have Lq : Hid (fewD q = true → q.2.2.length ≤ 1000000) := Lib.hid (fun e => by rw [fewD, Bool.and_eq_true, Bool.and_eq_true, decide_eq_true_eq] at e; omega)
  have HK := Lib.hid (fun W (hW : Below w.heap.size w W) => hL.below hW)
  have Pg := Lib.hid pg
  have Pq := Lib.hid pq
  have H0 := Lib.hid hB0
  clear hL hB0 hg pg hq pq
  generalize hfg : fewG g = fg at *
  have HFg := Lib.hid hfg
  clear hfg
  generalize hNg : g.1.length = N at *
  have HNg := Lib.hid hNg
  clear hNg
  generalize hMg : g.2.1.length = M at *
  have HMg := Lib.hid hMg
  clear hMg
  generalize hKg : g.2.2.length = K at *
  have HKg := Lib.hid hKg
  clear hKg
  generalize hfq : fewD q = fq at *
  have HFq := Lib.hid hfq
  clear hfq
  generalize hrnq : q.2.1.length = rn1 at *
  have Hrnq := Lib.hid hrnq
  clear hrnq
  generalize hlnq : q.2.2.length = ln1 at *
  have Hlnq := Lib.hid hlnq
  clear hlnq
  generalize huq : q.1 = u1 at *
  have Huq := Lib.hid huq
  clear huq
  go_enter Tryz.func5, Tryz.ntmps5
  go_wp2_with fail
  generalize ((w.alloc (.cells #[.slice A N c, .slice B M d, .slice C K e] 28)).alloc (.cells #[.int .u32 u1, .slice R1 rn1 rc1, .slice L1 ln1 lc1] 32)) = w1 at *
  refine (dawake_any _ (HK.out _ H0.out)).mono ?_
  rintro r wk ⟨rfl, hBk⟩
  have HA := Lib.hid (H0.out.trans (hBk.mono H0.out.size))
  replace Pg := Lib.hid (Pg.out.to hBk)
  replace Pq := Lib.hid (Pq.out.to hBk)
  clear hBk H0
  have a0 := Pg.out.cell (j := 0) rfl
  have a1 := Pg.out.cell (j := 1) rfl
  have a2 := Pg.out.cell (j := 2) rfl
  go_wp2_with fail
  refine (Fg.out _ HA.out).mono ?_
  rintro r wf0 ⟨rfl, hBk⟩
  have HA0 := Lib.hid (HA.out.trans (hBk.mono HA.out.size))
  replace Pg := Lib.hid (Pg.out.to hBk)
  replace Pq := Lib.hid (Pq.out.to hBk)
  clear a0 a1 a2 hBk HA
  have HA := HA0
  clear HA0
  have a0 := Pq.out.cell (j := 0) rfl
  have a1 := Pq.out.cell (j := 1) rfl
  have a2 := Pq.out.cell (j := 2) rfl
  go_wp2_with fail
  refine (Fq.out _ HA.out).mono ?_
  rintro r wf1 ⟨rfl, hBk⟩
  have HA1 := Lib.hid (HA.out.trans (hBk.mono HA.out.size))
  replace Pg := Lib.hid (Pg.out.to hBk)
  replace Pq := Lib.hid (Pq.out.to hBk)
  clear a0 a1 a2 hBk HA
  have HA := HA1
  clear HA1
  cases fg
  · go_wp2
    go_ret
    exact ⟨rfl, HA.out⟩
  cases fq
  · go_wp2
    go_ret
    exact ⟨rfl, HA.out⟩
  have hln := Lq.out (by simp)
  have hq := Rq.out _ HA.out
  have TA := Lib.hid (dapply_any A B C N c M d K e g R1 L1 rn1 rc1 ln1 lc1 q wf1 (HK.out _ HA.out) (Rg.out _ HA.out) (by rw [Huq.out]; exact hq) hln)
  rw [Huq.out] at TA
  have a0 := Pg.out.cell (j := 0) rfl
  have a1 := Pg.out.cell (j := 1) rfl
  have a2 := Pg.out.cell (j := 2) rfl
  have b0 := Pq.out.cell (j := 0) rfl
  have b1 := Pq.out.cell (j := 1) rfl
  have b2 := Pq.out.cell (j := 2) rfl
  clear hq hln Fg Fq
  go_wp2_with fail
  refine TA.out.mono ?_
  rintro r w5 ⟨A5, c5, B5, d5, C5, e5, rfl, h5, hB5⟩
  have hBe : Below w5.heap.size w5 (w5.alloc (.cells #[.slice A5 (applyD g q).1.1.length c5, .slice B5 (applyD g q).1.2.1.length d5, .slice C5 (applyD g q).1.2.2.length e5] 28)) := (Below.refl _ w5).alloc (Nat.le_refl _) _
  have p5 := Blk.new w5 28 [.slice A5 (applyD g q).1.1.length c5, .slice B5 (applyD g q).1.2.1.length d5, .slice C5 (applyD g q).1.2.2.length e5]
  have Hke := Lib.hid (hB5.trans (hBe.mono hB5.size))
  have HE := Lib.hid (HA.out.trans (Hke.out.mono HA.out.size))
  have H5 := Lib.hid (gr_below hBe h5)
  have P5 := Lib.hid p5
  have a0' := (Pg.out.to Hke.out).cell (j := 0) rfl
  have a1' := (Pg.out.to Hke.out).cell (j := 1) rfl
  have a2' := (Pg.out.to Hke.out).cell (j := 2) rfl
  have Hap := Lib.hid (apply_base g q)
  clear h5 hB5 hBe p5 TA a0 a1 a2 b0 b1 b2
  generalize hap : (applyD g q).1 = ap at *
  generalize her : (applyD g q).2 = er at *
  have Hpe : Hid (applyD g q = (ap, er)) := Lib.hid (Prod.ext hap her)
  clear hap her
  generalize hN5 : ap.1.length = N5 at *
  generalize hM5 : ap.2.1.length = M5 at *
  generalize hK5 : ap.2.2.length = K5 at *
  have HM5 := Lib.hid hM5
  clear hN5 hM5 hK5
  go_wp2_with fail
  generalize w5.alloc (.cells #[.slice A5 N5 c5, .slice B5 M5 d5, .slice C5 K5 e5] 28) = we at *
  refine (csum_any A B C N c M d K e g we (HK.out _ HE.out) (Rg.out _ HE.out)).mono ?_
  rintro r w6 ⟨rfl, hB6⟩
  have H6 := Lib.hid (HE.out.trans (hB6.mono HE.out.size))
  have P56 := Lib.hid (P5.out.to hB6)
  have Pq6 := Lib.hid (Pq.out.to (Hke.out.trans (hB6.mono Hke.out.size)))
  have H56 := Lib.hid (gr_below hB6 H5.out)
  clear hB6 a0' a1' a2' P5 H5
  have k1 := P56.out.cell (j := 1) rfl
  have q0 := Pq6.out.cell (j := 0) rfl
  rcases Hap.out with ⟨h0, e1⟩ | ⟨h0, hs, e1⟩ | ⟨h0, hs, e1 | ⟨e1, hmay, hcan, hlen⟩⟩
  · have hne : (codeE g != 0) = true := by simp [h0]
    obtain rfl : er = codeE g := (Prod.ext_iff.1 (Hpe.out.symm.trans e1)).2
    clear h0 e1 Hap Hpe
    generalize codeE g = ec at *
    go_wp2
    go_ret
    exact ⟨rfl, H6.out⟩
  · obtain ⟨hap, rfl⟩ := Prod.ext_iff.1 (Hpe.out.symm.trans e1)
    have hap' : ap = ([], [], []) := hap
    have hM0 : M5 = 0 := by rw [← HM5.out, hap']; rfl
    have hne : ((codeS g : Int) != u1) = true := by rw [bne_iff_ne, ← Huq.out]; exact hs
    rw [h0]
    subst hM0
    clear hap hap' hs h0 e1 Hap Hpe
    generalize (codeS g : Int) = sm at *
    go_wp2
    go_ret
    exact ⟨rfl, H6.out⟩
  · obtain ⟨hap, rfl⟩ := Prod.ext_iff.1 (Hpe.out.symm.trans e1)
    have hap' : ap = ([], [], []) := hap
    have hM0 : M5 = 0 := by rw [← HM5.out, hap']; rfl
    have hne : ((codeS g : Int) != u1) = false := by rw [bne_eq_false_iff_eq, ← Huq.out]; exact hs
    rw [h0]
    subst hM0
    clear hap hap' hs h0 e1 Hap Hpe
    generalize (codeS g : Int) = sm at *
    go_upto_region 12 with fail
    have HSF := Lib.hid (fun W (hW : Below w6.heap.size w6 W) => And.intro ((P56.out.to hW).cell (j := 0) rfl) (And.intro ((P56.out.to hW).cell (j := 1) rfl) (And.intro ((P56.out.to hW).cell (j := 2) rfl) ((Pq6.out.to hW).cell (j := 2) rfl))))
    clear k1 q0
    refine sch_start [(0, true), (1, true), (2, true), (3, true), (4, true), (5, true), (6, true), (7, true), (8, true), (9, true), (10, true), (11, true), (12, true), (14, true), (13, false), (15, false), (16, true), (17, true), (18, true), (19, true), (20, true), (21, true), (22, true), (23, true), (24, true), (25, true), (26, true), (27, true)] (fun W => Below w6.heap.size w6 W) (by kernel_rfl) rfl (by kernel_rfl) (fun _ _ _ _ _ h => h) ((Below.refl _ w6).drew) (fun hH => ?_)
    repeat (first | (refine sch_yes (v := ?_) rfl rfl ?_ hH ?_; rotate_left; (focus ((intro W hW; obtain ⟨s0, s1, s2, s3⟩ := HSF.out W hW; go_simp) <;> with_reducible rfl)); simp only [Act.put, List.setIfInBounds_toArray, List.set_cons_zero, List.set_cons_succ]) | (refine sch_no rfl rfl hH ?_; simp only [Act.put, List.setIfInBounds_toArray, List.set_cons_zero, List.set_cons_succ]))
    refine sch_call_no rfl rfl hH ?_
    refine sch_call_no rfl rfl hH ?_
    repeat (first | (refine sch_yes (v := ?_) rfl rfl ?_ hH ?_; rotate_left; (focus ((intro W hW; obtain ⟨s0, s1, s2, s3⟩ := HSF.out W hW; go_simp) <;> with_reducible rfl)); simp only [Act.put, List.setIfInBounds_toArray, List.set_cons_zero, List.set_cons_succ]) | (refine sch_no rfl rfl hH ?_; simp only [Act.put, List.setIfInBounds_toArray, List.set_cons_zero, List.set_cons_succ]))
    refine sch_done ?_
    go_wp2
    go_ret
    exact ⟨rfl, H6.out.trans (hH.mono H6.out.size)⟩
  · have hpe2 : er = 0 := e1
    have hMl : M5 = ln1 := hlen.trans Hlnq.out
    have hne : ((codeS g : Int) != u1) = false := by rw [bne_eq_false_iff_eq, ← Huq.out]; exact hs
    have TC := Lib.hid (fun W (hW : Below w6.heap.size w6 W) => canon_any A5 B5 C5 N5 c5 M5 d5 K5 e5 ap W (gr_below hW H56.out))
    rw [hcan] at TC
    have TS := Lib.hid (fun W (hW : Below w6.heap.size w6 W) A4 c4 B4 d4 C4 e4 (h4 : rGr (All W) W [.slice A4 ap.1.length c4, .slice B4 ap.2.1.length d4, .slice C4 ap.2.2.length e4] ap) => gsame_any A4 B4 C4 ap.1.length c4 ap.2.1.length d4 ap.2.2.length e4 A5 B5 C5 N5 c5 M5 d5 K5 e5 ap ap W h4 (gr_below hW H56.out))
    rw [decide_eq_true (rfl : ap = ap)] at TS
    rw [h0]
    subst hpe2 hMl
    clear hcan hlen hs h0 e1 Hap Hpe hmay
    generalize (codeS g : Int) = sm at *
    generalize ap.1.length = N4 at *
    generalize ap.2.1.length = M4 at *
    generalize ap.2.2.length = K4 at *
    go_upto_region 12 with fail
    have HSF := Lib.hid (fun W (hW : Below w6.heap.size w6 W) => And.intro ((P56.out.to hW).cell (j := 0) rfl) (And.intro ((P56.out.to hW).cell (j := 1) rfl) (And.intro ((P56.out.to hW).cell (j := 2) rfl) ((Pq6.out.to hW).cell (j := 2) rfl))))
    clear k1 q0
    refine sch_start [(0, true), (1, true), (2, true), (3, true), (4, true), (5, true), (6, true), (7, true), (8, true), (9, true), (10, true), (11, true), (12, true), (14, true), (13, false), (15, false), (16, true), (17, true), (18, true), (19, true), (20, true), (21, true), (22, true), (23, true), (24, true), (25, true), (26, true), (27, true)] (fun W => Below w6.heap.size w6 W) (by kernel_rfl) rfl (by kernel_rfl) (fun _ _ _ _ _ h => h) ((Below.refl _ w6).drew) (fun hH => ?_)
    repeat (first | (refine sch_yes (v := ?_) rfl rfl ?_ hH ?_; rotate_left; (focus ((intro W hW; obtain ⟨s0, s1, s2, s3⟩ := HSF.out W hW; go_simp) <;> with_reducible rfl)); simp only [Act.put, List.setIfInBounds_toArray, List.set_cons_zero, List.set_cons_succ]) | (refine sch_no rfl rfl hH ?_; simp only [Act.put, List.setIfInBounds_toArray, List.set_cons_zero, List.set_cons_succ]))
    refine sch_call rfl rfl (fun K' hK => ?_)
    go_wp2_with (go_at_call 19; refine (TC.out _ hH).mono ?_; rintro e w7 ⟨A7, c7, B7, d7, C7, e7, rfl, h7, hB7⟩)
    have hD7 := hH.trans (hB7.mono hH.size)
    refine hK.out _ _ hD7 ?_
    clear hK hH hB7
    have hH := hD7
    refine sch_call rfl rfl (fun K' hK => ?_)
    go_wp2_with (go_at_call 20; refine (TS.out _ hD7 _ _ _ _ _ _ h7).mono ?_; rintro e w8 ⟨rfl, hB8⟩)
    have hD8 := hH.trans (hB8.mono hH.size)
    refine hK.out _ _ hD8 ?_
    clear hK hH hB8 hD7 h7
    have hH := hD8
    repeat (first | (refine sch_yes (v := ?_) rfl rfl ?_ hH ?_; rotate_left; (focus ((intro W hW; obtain ⟨s0, s1, s2, s3⟩ := HSF.out W hW; go_simp) <;> with_reducible rfl)); simp only [Act.put, List.setIfInBounds_toArray, List.set_cons_zero, List.set_cons_succ]) | (refine sch_no rfl rfl hH ?_; simp only [Act.put, List.setIfInBounds_toArray, List.set_cons_zero, List.set_cons_succ]))
    refine sch_done ?_
    go_wp2
    go_ret
    exact ⟨rfl, H6.out.trans (hH.mono H6.out.size)⟩
end Go.Proofs.YtclbjbhpncpmbaaGreatDoor
