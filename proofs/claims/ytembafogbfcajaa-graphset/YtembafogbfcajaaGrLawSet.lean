/- GraphSet: a value that is set stands there, and all others are as they were; the one that was set back is the graph that was. Condition of the walk: the graph's lists are within the form's own reach, which the row has. -/
import Derived.Test.YtembafogbfcajaaGrAwake
import Derived.Test.YtembafogbfcajaaGrSetPlain
import Derived.Test.YtembafogbfcajaaGrSet
import Derived.Test.YtembafogbfcajaaGrWeigh
import Derived.Test.YtembafogbfcajaaSched
import Derived.Test.YtembafogbfcajaaFork
import Derived.Deep.DeepCutAuto
import Derived.BigQuiet
namespace Go.Proofs.Ytembafogbfcajaa
open Go.RowKit

theorem vset_arg {w : World} {cs : Array Value} {v : Vl} (h : rVal (All w) w cs.toList v) : ∃ s : ByteArray, cs = #[.int .i64 v.1, .string s, .int .i64 v.2.2] ∧ byt s = v.2.1 ∧ (-9223372036854775808 ≤ v.1 ∧ v.1 ≤ 9223372036854775807) ∧ (-9223372036854775808 ≤ v.2.2 ∧ v.2.2 ≤ 9223372036854775807) := by
  obtain ⟨s, h1, h2, -, h4, h5⟩ := rVal_open h
  exact ⟨s, by cases cs; simpa using h1, h2, h4, h5⟩

set_option maxRecDepth 100000 in
set_option maxHeartbeats 4000000 in
theorem graphSet_walk (w : World) (cs : Array Value) (g : Gr) (h : rGr (All w) w cs.toList g) (hreach : reachB g) (id : Int) (_hd0 : -9223372036854775808 ≤ id) (_hd1 : id ≤ 9223372036854775807) (k : Int) (_hk0 : -9223372036854775808 ≤ k) (_hk1 : k ≤ 9223372036854775807) (vs : Array Value) (v : Vl) (hvv : rVal (All w) w vs.toList v) :
    Calls Try.prog 7 #[.agg cs, .int .i64 id, .int .i64 k, .agg vs] w fun e w' => e = .returned (.bool true) ∧ Below w.heap.size w w' := by
  obtain ⟨A, c, B, d, C, e, rfl, h⟩ := gr_arg h
  obtain ⟨s, rfl, hs, hv1, hv2⟩ := vset_arg hvv
  have hB0 : Below w.heap.size w ((w.alloc (.cells #[.slice A g.1.length c, .slice B g.2.1.length d, .slice C g.2.2.length e] 28)).alloc (.cells #[.int .i64 v.1, .string s, .int .i64 v.2.2] 30)) := ((Below.refl _ w).alloc (Nat.le_refl _) _).alloc (by simp) _
  obtain ⟨p1, pv⟩ := blk_two w 28 30 [.slice A g.1.length c, .slice B g.2.1.length d, .slice C g.2.2.length e] [.int .i64 v.1, .string s, .int .i64 v.2.2]
  have TF := Lib.hid (fun W (hW : Below w.heap.size w W) => gfew_any A B C g.1.length c g.2.1.length d g.2.2.length e g W (gr_below hW h))
  have TS := Lib.hid (fun W (hW : Below w.heap.size w W) => gset_any A B C g.1.length c g.2.1.length d g.2.2.length e g id k s v W (gr_below hW h) (tame_reach hreach) hs (WalkArith.wf_i64 hv1) (WalkArith.wf_i64 hv2))
  have TG := Lib.hid (fun W (hW : Below w.heap.size w W) => gfind_any A B C g.1.length c g.2.1.length d g.2.2.length e g id W (gr_below hW h))
  have TE := Lib.hid (fun A1 B1 C1 c1 d1 e1 W hq (hW : Below w.heap.size w W) => gsame_any A1 B1 C1 g.1.length c1 g.2.1.length d1 g.2.2.length e1 A B C g.1.length c g.2.1.length d g.2.2.length e g g W hq (gr_below hW h))
  rw [decide_eq_true rfl] at TE
  have Hg := Lib.hid (fun W (hW : Below w.heap.size w W) => gr_below hW h)
  have HB0 := Lib.hid hB0
  have Hs := Lib.hid hs
  have hMn : g.2.1.length ≤ 9223372036854775807 := by have := (slice_len (rGr_open h).2.1).2; simp only [maxLen] at this; omega
  clear hB0 h hvv hreach hs
  have Hbk := Lib.hid (fun he => set_back (g := g) (id := id) (k := k) (v := v) he)
  generalize fewG g = few at *
  generalize hN : g.1.length = N at *
  generalize hM : g.2.1.length = M at *
  generalize hK : g.2.2.length = Kr at *
  have HM := Lib.hid hM
  have HN := Lib.hid hN
  have HK := Lib.hid hK
  clear hN hM hK hv1 hv2
  go_enter Try.func7, Try.ntmps7
  go_wp2_with fail
  refine (gawake_any _).mono ?_
  rintro e w1 ⟨rfl, hB1⟩
  have H1 := Lib.hid (HB0.out.trans (hB1.mono HB0.out.size))
  replace p1 := p1.to hB1
  replace pv := pv.to hB1
  clear hB1 HB0
  have c0 := p1.cell (j := 0) rfl
  have c1 := p1.cell (j := 1) rfl
  have c2 := p1.cell (j := 2) rfl
  go_wp2_with fail
  refine (TF.out _ H1.out).mono ?_
  rintro e w2 ⟨rfl, hB2⟩
  have H2 := Lib.hid (H1.out.trans (hB2.mono H1.out.size))
  replace p1 := p1.to hB2
  replace pv := pv.to hB2
  clear hB2 H1 c0 c1 c2 TF
  have c0 := p1.cell (j := 0) rfl
  have c1 := p1.cell (j := 1) rfl
  have c2 := p1.cell (j := 2) rfl
  have z0 := pv.cell (j := 0) rfl
  have z1 := pv.cell (j := 1) rfl
  have z2 := pv.cell (j := 2) rfl
  go_wp2_with fail
  refine (TS.out _ H2.out).mono ?_
  rintro e w3 ⟨A4, c4, B4, d4, C4, f4, rfl, h4, hB3⟩
  have hB4 : Below w3.heap.size w3 (w3.alloc (.cells #[.slice A4 (setN g id k v).1.length c4, .slice B4 (setN g id k v).2.1.length d4, .slice C4 (setN g id k v).2.2.length f4] 28)) := (Below.refl _ w3).alloc (Nat.le_refl _) _
  have p2 := Blk.new w3 28 [.slice A4 (setN g id k v).1.length c4, .slice B4 (setN g id k v).2.1.length d4, .slice C4 (setN g id k v).2.2.length f4]
  have hX := hB3.trans (hB4.mono hB3.size)
  have H4 := Lib.hid (H2.out.trans (hX.mono H2.out.size))
  replace p1 := p1.to hX
  replace pv := pv.to hX
  have Hh := Lib.hid (gr_below hB4 h4)
  clear c0 c1 c2 z0 z1 z2 hB3 hB4 hX h4 H2 TS
  cases few
  · clear Hh Hbk
    generalize (setN g id k v).1.length = N4 at *
    generalize (setN g id k v).2.1.length = M4 at *
    generalize (setN g id k v).2.2.length = K4 at *
    generalize setE g id k v = er at *
    go_wp2
    go_ret
    exact ⟨rfl, H4.out⟩
  by_cases he : setE g id k v = 0
  case neg =>
    have he' : (setE g id k v != 0) = true := by simp [he]
    clear Hh Hbk he
    generalize (setN g id k v).1.length = N4 at *
    generalize (setN g id k v).2.1.length = M4 at *
    generalize (setN g id k v).2.2.length = K4 at *
    generalize setE g id k v = er at *
    go_wp2
    go_ret
    exact ⟨rfl, H4.out⟩
  obtain ⟨I, kn, o, v0, hI, ho, rfl, hkl, hv0, b1, b2, b3, hho, hhv, hmn, hE, hback⟩ := Hbk.out he
  rw [he]
  rw [hI] at TG
  have TS2 := Lib.hid (fun A1 B1 C1 c1 d1 e1 W s0 hq hs0 hv1 hv2 => gset_in A1 B1 C1 (setN g id (kn : Int) v).1.length c1 (setN g id (kn : Int) v).2.1.length d1 (setN g id (kn : Int) v).2.2.length e1 (setN g id (kn : Int) v) id (kn : Int) s0 v0 W hq (tame_may hq hmn) hs0 hv1 hv2)
  rw [hE, hback, HN.out, HM.out, HK.out] at TS2
  clear hmn hE hback he Hbk
  generalize hgn : setN g id (kn : Int) v = hg at *
  clear hgn
  generalize hg.1.length = N4 at *
  generalize hg.2.1.length = M4 at *
  generalize hg.2.2.length = K4 at *
  replace b1 := b1.symm
  replace b2 := b2.symm
  replace b3 := b3.symm
  subst b1 b2 b3
  have hIM : I < M := by have := HM.out; have := (List.getElem?_eq_some_iff.1 ho).1; omega
  have c0 := p1.cell (j := 0) rfl
  have c1 := p1.cell (j := 1) rfl
  have c2 := p1.cell (j := 2) rfl
  go_wp2_with fail
  refine (TG.out _ H4.out).mono ?_
  rintro e w5 ⟨rfl, hB5⟩
  have H5 := Lib.hid (H4.out.trans (hB5.mono H4.out.size))
  replace p1 := p1.to hB5
  replace pv := pv.to hB5
  replace p2 := p2.to hB5
  replace Hh := Lib.hid (gr_below hB5 Hh.out)
  clear hB5 c0 c1 c2 H4 TG
  obtain ⟨b, off, A2, cv, hBe, hb, -, -, x2, hvs, -, -⟩ := ob_at (rGr_open (Hg.out _ H5.out)).2.1 ho
  obtain ⟨b', off', A3, cv', hBe', hb', -, -, x2', hvs', -, -⟩ := ob_at (rGr_open Hh.out).2.1 hho
  subst hBe hBe'
  obtain ⟨bv, offv, s0, hAe, hbv, u0, u1, u2, hs0, -, hw1, hw2⟩ := val_at hvs hv0
  obtain ⟨bv', offv', s', hAe', hbv', u0', u1', u2', hs', -, -, -⟩ := val_at hvs' hhv
  subst hAe hAe'
  have hlen' : (o.1, o.2.1, o.2.2.set kn v).2.2.length = o.2.2.length := List.length_set
  rw [hlen'] at x2'
  have hneq : ∀ W, (binOp .neq 30 (.agg #[.int .i64 v.1, .string s', .int .i64 v.2.2]) (.agg #[.int .i64 v.1, .string s, .int .i64 v.2.2])).run Try.prog W = .ok (.bool false) W := fun W => by
    rw [vl_neq, vl_is, hs', Hs.out]; simp
  have hgd := sval_guard
  have HS0 := Lib.hid hs0
  have Hw1 := Lib.hid (WalkArith.wf_i64 hw1)
  have Hw2 := Lib.hid (WalkArith.wf_i64 hw2)
  clear hvs hvs' hv0 hhv ho hho hs0 hs' hlen' hw1 hw2
  generalize hvl : o.2.2.length = vl at *
  clear hvl
  have q1 : decide ((I : Int) < 0) = false := decide_eq_false (by omega)
  have q2 : decide ((M : Int) ≤ (I : Int)) = false := decide_eq_false (by omega)
  have q2' : decide (M ≤ I) = false := decide_eq_false (by omega)
  have q3 : ((M : Int) != (M : Int)) = false := by simp
  have q4 : decide ((kn : Int) < 0) = false := decide_eq_false (by omega)
  have q5 : decide ((vl : Int) ≤ (kn : Int)) = false := decide_eq_false (by omega)
  have q5' : decide (vl ≤ kn) = false := decide_eq_false (by omega)
  have q6 : ((vl : Int) != (vl : Int)) = false := by simp
  have q7 : (I : Int) < (M : Int) := by omega
  have q8 : (0 : Int) ≤ (I : Int) := Int.natCast_nonneg I
  have q9 : (kn : Int) < (vl : Int) := by omega
  have q0 : (0 : Int) ≤ (kn : Int) := Int.natCast_nonneg kn
  have HS := Lib.hid (fun (W : World) (hW : Below w5.heap.size w5 W) => And.intro (And.intro ((p1.to hW).cell (j := 0) rfl) (And.intro ((p1.to hW).cell (j := 1) rfl) ((p1.to hW).cell (j := 2) rfl)))
    (And.intro (And.intro ((p2.to hW).cell (j := 0) rfl) (And.intro ((p2.to hW).cell (j := 1) rfl) ((p2.to hW).cell (j := 2) rfl))) (And.intro (And.intro ((pv.to hW).cell (j := 0) rfl) (And.intro ((pv.to hW).cell (j := 1) rfl) ((pv.to hW).cell (j := 2) rfl)))
    (And.intro (And.intro ((hW.cell (p := ⟨b, off + I * 3 + 2, none⟩) hb).trans x2) ((hW.cell (p := ⟨b', off' + I * 3 + 2, none⟩) hb').trans x2'))
    (And.intro (And.intro ((hW.cell (p := ⟨bv, offv + kn * 3, none⟩) hbv).trans u0) (And.intro ((hW.cell (p := ⟨bv, offv + kn * 3 + 1, none⟩) hbv).trans u1) ((hW.cell (p := ⟨bv, offv + kn * 3 + 2, none⟩) hbv).trans u2)))
    (And.intro ((hW.cell (p := ⟨bv', offv' + kn * 3, none⟩) hbv').trans u0') (And.intro ((hW.cell (p := ⟨bv', offv' + kn * 3 + 1, none⟩) hbv').trans u1') ((hW.cell (p := ⟨bv', offv' + kn * 3 + 2, none⟩) hbv').trans u2'))))))))
  clear p1 p2 pv x2 x2' u0 u1 u2 u0' u1' u2'
  generalize hvn1 : v.1 = n1 at *
  generalize hvn2 : v.2.2 = n2 at *
  generalize v0.1 = m1 at *
  generalize v0.2.2 = m2 at *
  go_wp2
  refine sch_start [(0, true), (1, true), (2, true), (3, true), (4, true), (5, true), (6, true), (7, true), (8, true), (9, true), (10, true), (11, true), (12, true), (13, true), (14, true), (15, true), (16, true), (17, true), (18, true), (19, true), (20, true), (21, true), (22, true), (23, true), (24, true), (25, true), (26, true), (27, true), (28, true), (29, true), (30, true), (31, true), (32, true), (33, true), (34, true), (35, true), (36, true), (37, true), (38, true), (39, true), (40, true), (41, true), (42, true), (43, true), (44, true), (45, true), (46, true), (47, true), (48, true), (49, true), (50, true), (51, true), (52, true), (53, true), (54, true), (55, true), (56, true), (57, true), (58, true), (59, true), (60, true), (61, true), (62, true)] (fun W => Below w5.heap.size w5 W) (by kernel_rfl) rfl (by kernel_rfl) (fun _ _ _ _ _ h => h) (Below.refl _ w5).drew (fun hH => ?_)
  repeat (first | (refine sch_yes (v := ?_) rfl rfl ?_ hH ?_; rotate_left; (focus ((intro W hW; obtain ⟨⟨x0, x1, x2⟩, ⟨y0, y1, y2⟩, ⟨z0, z1, z2⟩, ⟨k1, k2⟩, ⟨u0, u1, u2⟩, t0, t1, t2⟩ := HS.out W hW; go_simp) <;> with_reducible rfl)); simp only [Act.put, List.setIfInBounds_toArray, List.set_cons_zero, List.set_cons_succ]) | (refine sch_no rfl rfl hH ?_; simp only [Act.put, List.setIfInBounds_toArray, List.set_cons_zero, List.set_cons_succ]))
  refine sch_done ?_
  have HD6 := Lib.hid hH
  clear hH
  generalize w5.drew = w6 at *
  have Hh6 := Lib.hid (gr_below HD6.out Hh.out)
  have H6 := Lib.hid (H5.out.trans (HD6.out.mono H5.out.size))
  have HS6 := Lib.hid (fun (W : World) (hW : Below w6.heap.size w6 W) => HS.out W (HD6.out.trans (hW.mono HD6.out.size)))
  clear HS Hh H5 HD6 hneq
  go_wp2
  go_cut [14, 15] (fun v14 v15 wx => ∃ (gx : Nat) (A9 B9 C9 : Option Addr) (c9 d9 e9 : Nat), v14 = .pointer (some ⟨gx, 0, none⟩) ∧ v15 = .int .i64 0 ∧ Blk wx gx 28 [.slice A9 N c9, .slice B9 M d9, .slice C9 Kr e9] ∧ rGr (All wx) wx [.slice A9 N c9, .slice B9 M d9, .slice C9 Kr e9] g ∧ Below w6.heap.size w6 wx)
  case first =>
    refine fr_start (fun W => Below w6.heap.size w6 W) 19 (by kernel_rfl) rfl (fun _ _ _ _ _ h => h) (Below.refl _ w6).drew (fun hH => ?_)
    generalize w6.drew = wd at *
    (refine fr_yes 0 (v := ?_) rfl (by kernel_rfl) rfl ?_ hH ?_; rotate_left; (focus ((intro W hW; obtain ⟨⟨x0, x1, x2⟩, ⟨y0, y1, y2⟩, ⟨z0, z1, z2⟩, ⟨k1, k2⟩, ⟨u0, u1, u2⟩, t0, t1, t2⟩ := HS6.out W hW; go_simp) <;> with_reducible rfl)); simp only [Act.put, List.setIfInBounds_toArray, List.set_cons_zero, List.set_cons_succ]); (refine fr_yes 1 (v := ?_) rfl (by kernel_rfl) rfl ?_ hH ?_; rotate_left; (focus ((intro W hW; obtain ⟨⟨x0, x1, x2⟩, ⟨y0, y1, y2⟩, ⟨z0, z1, z2⟩, ⟨k1, k2⟩, ⟨u0, u1, u2⟩, t0, t1, t2⟩ := HS6.out W hW; go_simp) <;> with_reducible rfl)); simp only [Act.put, List.setIfInBounds_toArray, List.set_cons_zero, List.set_cons_succ]); (refine fr_yes 2 (v := ?_) rfl (by kernel_rfl) rfl ?_ hH ?_; rotate_left; (focus ((intro W hW; obtain ⟨⟨x0, x1, x2⟩, ⟨y0, y1, y2⟩, ⟨z0, z1, z2⟩, ⟨k1, k2⟩, ⟨u0, u1, u2⟩, t0, t1, t2⟩ := HS6.out W hW; go_simp) <;> with_reducible rfl)); simp only [Act.put, List.setIfInBounds_toArray, List.set_cons_zero, List.set_cons_succ]); (refine fr_yes 3 (v := ?_) rfl (by kernel_rfl) rfl ?_ hH ?_; rotate_left; (focus ((intro W hW; obtain ⟨⟨x0, x1, x2⟩, ⟨y0, y1, y2⟩, ⟨z0, z1, z2⟩, ⟨k1, k2⟩, ⟨u0, u1, u2⟩, t0, t1, t2⟩ := HS6.out W hW; go_simp) <;> with_reducible rfl)); simp only [Act.put, List.setIfInBounds_toArray, List.set_cons_zero, List.set_cons_succ]); (refine fr_yes 4 (v := ?_) rfl (by kernel_rfl) rfl ?_ hH ?_; rotate_left; (focus ((intro W hW; obtain ⟨⟨x0, x1, x2⟩, ⟨y0, y1, y2⟩, ⟨z0, z1, z2⟩, ⟨k1, k2⟩, ⟨u0, u1, u2⟩, t0, t1, t2⟩ := HS6.out W hW; go_simp) <;> with_reducible rfl)); simp only [Act.put, List.setIfInBounds_toArray, List.set_cons_zero, List.set_cons_succ]); (refine fr_yes 5 (v := ?_) rfl (by kernel_rfl) rfl ?_ hH ?_; rotate_left; (focus ((intro W hW; obtain ⟨⟨x0, x1, x2⟩, ⟨y0, y1, y2⟩, ⟨z0, z1, z2⟩, ⟨k1, k2⟩, ⟨u0, u1, u2⟩, t0, t1, t2⟩ := HS6.out W hW; go_simp) <;> with_reducible rfl)); simp only [Act.put, List.setIfInBounds_toArray, List.set_cons_zero, List.set_cons_succ]); (refine fr_yes 6 (v := ?_) rfl (by kernel_rfl) rfl ?_ hH ?_; rotate_left; (focus ((intro W hW; obtain ⟨⟨x0, x1, x2⟩, ⟨y0, y1, y2⟩, ⟨z0, z1, z2⟩, ⟨k1, k2⟩, ⟨u0, u1, u2⟩, t0, t1, t2⟩ := HS6.out W hW; go_simp) <;> with_reducible rfl)); simp only [Act.put, List.setIfInBounds_toArray, List.set_cons_zero, List.set_cons_succ]); (refine fr_yes 7 (v := ?_) rfl (by kernel_rfl) rfl ?_ hH ?_; rotate_left; (focus ((intro W hW; obtain ⟨⟨x0, x1, x2⟩, ⟨y0, y1, y2⟩, ⟨z0, z1, z2⟩, ⟨k1, k2⟩, ⟨u0, u1, u2⟩, t0, t1, t2⟩ := HS6.out W hW; go_simp) <;> with_reducible rfl)); simp only [Act.put, List.setIfInBounds_toArray, List.set_cons_zero, List.set_cons_succ]); (refine fr_yes 8 (v := ?_) rfl (by kernel_rfl) rfl ?_ hH ?_; rotate_left; (focus ((intro W hW; obtain ⟨⟨x0, x1, x2⟩, ⟨y0, y1, y2⟩, ⟨z0, z1, z2⟩, ⟨k1, k2⟩, ⟨u0, u1, u2⟩, t0, t1, t2⟩ := HS6.out W hW; go_simp) <;> with_reducible rfl)); simp only [Act.put, List.setIfInBounds_toArray, List.set_cons_zero, List.set_cons_succ]); (refine fr_yes 9 (v := ?_) rfl (by kernel_rfl) rfl ?_ hH ?_; rotate_left; (focus ((intro W hW; obtain ⟨⟨x0, x1, x2⟩, ⟨y0, y1, y2⟩, ⟨z0, z1, z2⟩, ⟨k1, k2⟩, ⟨u0, u1, u2⟩, t0, t1, t2⟩ := HS6.out W hW; go_simp) <;> with_reducible rfl)); simp only [Act.put, List.setIfInBounds_toArray, List.set_cons_zero, List.set_cons_succ]); (refine fr_yes 10 (v := ?_) rfl (by kernel_rfl) rfl ?_ hH ?_; rotate_left; (focus ((intro W hW; obtain ⟨⟨x0, x1, x2⟩, ⟨y0, y1, y2⟩, ⟨z0, z1, z2⟩, ⟨k1, k2⟩, ⟨u0, u1, u2⟩, t0, t1, t2⟩ := HS6.out W hW; go_simp) <;> with_reducible rfl)); simp only [Act.put, List.setIfInBounds_toArray, List.set_cons_zero, List.set_cons_succ]); (refine fr_yes 11 (v := ?_) rfl (by kernel_rfl) rfl ?_ hH ?_; rotate_left; (focus ((intro W hW; obtain ⟨⟨x0, x1, x2⟩, ⟨y0, y1, y2⟩, ⟨z0, z1, z2⟩, ⟨k1, k2⟩, ⟨u0, u1, u2⟩, t0, t1, t2⟩ := HS6.out W hW; go_simp) <;> with_reducible rfl)); simp only [Act.put, List.setIfInBounds_toArray, List.set_cons_zero, List.set_cons_succ])
    refine fr_op [12, 16] (by kernel_rfl) (by simp) ?_; intro jj hjj; simp only [List.mem_cons, List.not_mem_nil, or_false] at hjj; rcases hjj with rfl | rfl
    · refine ⟨_, rfl, rfl, fun K hK => ?_⟩
      go_wp2_with (go_at_call 14; refine (TS2.out A4 _ C4 c4 d4 f4 _ s0 (gr_below hH Hh6.out) HS0.out Hw1.out Hw2.out).mono ?_; rintro e w7 ⟨A9, c9, B9, d9, C9, e9, rfl, h9, hB9⟩)
      have hD := hH.trans (hB9.mono hH.size)
      refine hK.out _ _ hD ?_
      clear hK hB9 hH
      have hH := hD
      (refine fr_yes 13 (v := ?_) rfl (by kernel_rfl) rfl ?_ hH ?_; rotate_left; (focus ((intro W hW; obtain ⟨⟨x0, x1, x2⟩, ⟨y0, y1, y2⟩, ⟨z0, z1, z2⟩, ⟨k1, k2⟩, ⟨u0, u1, u2⟩, t0, t1, t2⟩ := HS6.out W hW; go_simp) <;> with_reducible rfl)); simp only [Act.put, List.setIfInBounds_toArray, List.set_cons_zero, List.set_cons_succ]); (refine fr_yes 14 (v := ?_) rfl (by kernel_rfl) rfl ?_ hH ?_; rotate_left; (focus ((intro W hW; obtain ⟨⟨x0, x1, x2⟩, ⟨y0, y1, y2⟩, ⟨z0, z1, z2⟩, ⟨k1, k2⟩, ⟨u0, u1, u2⟩, t0, t1, t2⟩ := HS6.out W hW; go_simp) <;> with_reducible rfl)); simp only [Act.put, List.setIfInBounds_toArray, List.set_cons_zero, List.set_cons_succ]); (refine fr_yes 15 (v := ?_) rfl (by kernel_rfl) rfl ?_ hH ?_; rotate_left; (focus ((intro W hW; obtain ⟨⟨x0, x1, x2⟩, ⟨y0, y1, y2⟩, ⟨z0, z1, z2⟩, ⟨k1, k2⟩, ⟨u0, u1, u2⟩, t0, t1, t2⟩ := HS6.out W hW; go_simp) <;> with_reducible rfl)); simp only [Act.put, List.setIfInBounds_toArray, List.set_cons_zero, List.set_cons_succ])
      refine fr_op [16] (by kernel_rfl) (by simp) ?_; intro jj hjj; simp only [List.mem_cons, List.not_mem_nil, or_false] at hjj; subst hjj; refine ⟨_, rfl, rfl, fun K hK => ?_⟩
      go_wp2
      refine hK.out _ _ (hD.alloc hD.size (.cells #[.slice none 0 0, .slice none 0 0, .slice none 0 0] 28)) ?_
      clear hK
      refine fr_op [17] (by kernel_rfl) (by simp) ?_; intro jj hjj; simp only [List.mem_cons, List.not_mem_nil, or_false] at hjj; subst hjj; refine ⟨_, rfl, rfl, fun K hK => ?_⟩
      go_wp2
      have hDs := hD.alloc hD.size (.cells #[.slice A9 N c9, .slice B9 M d9, .slice C9 Kr e9] 28)
      refine hK.out _ _ hDs ?_
      clear hK hH
      have hH := hDs
      (refine fr_yes 18 (v := ?_) rfl (by kernel_rfl) rfl ?_ hH ?_; rotate_left; (focus ((intro W hW; obtain ⟨⟨x0, x1, x2⟩, ⟨y0, y1, y2⟩, ⟨z0, z1, z2⟩, ⟨k1, k2⟩, ⟨u0, u1, u2⟩, t0, t1, t2⟩ := HS6.out W hW; go_simp) <;> with_reducible rfl)); simp only [Act.put, List.setIfInBounds_toArray, List.set_cons_zero, List.set_cons_succ])
      refine fr_done (by kernel_rfl) ?_
      clear hH
      go_wp2
      go_meet
      case rel => exact ⟨_, A9, B9, C9, c9, d9, e9, rfl, rfl, Blk.new _ _ _, gr_below ((Below.refl _ w7).alloc (Nat.le_refl _) _) (rGr_stays.to (Keeps.mono fun b hb => hb.2) h9), hDs⟩
    · refine ⟨_, rfl, rfl, fun K hK => ?_⟩
      go_wp2
      have hDz := hH.alloc hH.size (.cells #[.slice none 0 0, .slice none 0 0, .slice none 0 0] 28)
      have vz := Blk.new wd 28 [.slice none 0 0, .slice none 0 0, .slice none 0 0]
      have hgz : w6.heap.size ≤ wd.heap.size := hH.size
      refine hK.out _ _ hDz ?_
      clear hK hH
      have hH := hDz
      have Hh7 := Lib.hid (gr_below hDz Hh6.out)
      have hlz := vz.lt
      generalize wd.alloc (.cells #[.slice none 0 0, .slice none 0 0, .slice none 0 0] 28) = wz at *
      generalize wd.heap.size = gz at *
      refine fr_op [12] (by kernel_rfl) (by simp) ?_; intro jj hjj; simp only [List.mem_cons, List.not_mem_nil, or_false] at hjj; subst hjj; refine ⟨_, rfl, rfl, fun K hK => ?_⟩
      go_wp2_with (go_at_call 14; refine (TS2.out A4 _ C4 c4 d4 f4 _ s0 Hh7.out HS0.out Hw1.out Hw2.out).mono ?_; rintro e w7 ⟨A9, c9, B9, d9, C9, e9, rfl, h9, hB9⟩)
      have hD := hH.trans (hB9.mono hH.size)
      have vz7 := vz.to hB9
      refine hK.out _ _ hD ?_
      clear hK hB9 hH hDz vz
      have hH := hD
      (refine fr_yes 13 (v := ?_) rfl (by kernel_rfl) rfl ?_ hH ?_; rotate_left; (focus ((intro W hW; obtain ⟨⟨x0, x1, x2⟩, ⟨y0, y1, y2⟩, ⟨z0, z1, z2⟩, ⟨k1, k2⟩, ⟨u0, u1, u2⟩, t0, t1, t2⟩ := HS6.out W hW; go_simp) <;> with_reducible rfl)); simp only [Act.put, List.setIfInBounds_toArray, List.set_cons_zero, List.set_cons_succ]); (refine fr_yes 14 (v := ?_) rfl (by kernel_rfl) rfl ?_ hH ?_; rotate_left; (focus ((intro W hW; obtain ⟨⟨x0, x1, x2⟩, ⟨y0, y1, y2⟩, ⟨z0, z1, z2⟩, ⟨k1, k2⟩, ⟨u0, u1, u2⟩, t0, t1, t2⟩ := HS6.out W hW; go_simp) <;> with_reducible rfl)); simp only [Act.put, List.setIfInBounds_toArray, List.set_cons_zero, List.set_cons_succ]); (refine fr_yes 15 (v := ?_) rfl (by kernel_rfl) rfl ?_ hH ?_; rotate_left; (focus ((intro W hW; obtain ⟨⟨x0, x1, x2⟩, ⟨y0, y1, y2⟩, ⟨z0, z1, z2⟩, ⟨k1, k2⟩, ⟨u0, u1, u2⟩, t0, t1, t2⟩ := HS6.out W hW; go_simp) <;> with_reducible rfl)); simp only [Act.put, List.setIfInBounds_toArray, List.set_cons_zero, List.set_cons_succ])
      have g0 := vz7.cell (j := 0) rfl
      have g1 := vz7.cell (j := 1) rfl
      have g2 := vz7.cell (j := 2) rfl
      have i0 := vz7.frozen 0
      have i1 := vz7.frozen 1
      have i2 := vz7.frozen 2
      refine fr_op [17] (by kernel_rfl) (by simp) ?_; intro jj hjj; simp only [List.mem_cons, List.not_mem_nil, or_false] at hjj; subst hjj; refine ⟨_, rfl, rfl, fun K hK => ?_⟩
      go_wp2
      have hDs := ((hD.setCell (p := ⟨gz, 0, none⟩) hgz (.slice A9 N c9)).setCell (p := ⟨gz, 1, none⟩) hgz (.slice B9 M d9)).setCell (p := ⟨gz, 2, none⟩) hgz (.slice C9 Kr e9)
      refine hK.out _ _ hDs ?_
      clear hK hH g0 g1 g2 i0 i1 i2
      have hH := hDs
      (refine fr_yes 18 (v := ?_) rfl (by kernel_rfl) rfl ?_ hH ?_; rotate_left; (focus ((intro W hW; obtain ⟨⟨x0, x1, x2⟩, ⟨y0, y1, y2⟩, ⟨z0, z1, z2⟩, ⟨k1, k2⟩, ⟨u0, u1, u2⟩, t0, t1, t2⟩ := HS6.out W hW; go_simp) <;> with_reducible rfl)); simp only [Act.put, List.setIfInBounds_toArray, List.set_cons_zero, List.set_cons_succ])
      refine fr_done (by kernel_rfl) ?_
      clear hH
      go_wp2
      go_meet
      case rel => exact ⟨_, A9, B9, C9, c9, d9, e9, rfl, rfl, ((vz7.set 0 _).set 1 _).set 2 _, rGr_stays.to (fun b hb => ⟨by show b < _; simp; omega, by rw [Below.heap_setCell _ _ _ _ (by show b ≠ gz; omega), Below.heap_setCell _ _ _ _ (by show b ≠ gz; omega), Below.heap_setCell _ _ _ _ (by show b ≠ gz; omega)]⟩) h9, hDs⟩
  case rest =>
    obtain ⟨gx, A9, B9, C9, c9, d9, e9, rfl, rfl, P9, h9, hD9⟩ := hcut
    have T9 := Lib.hid (TE.out A9 B9 C9 c9 d9 e9 _ h9 (H6.out.trans (hD9.mono H6.out.size)))
    obtain ⟨⟨x0, x1, x2⟩, -⟩ := HS6.out _ hD9
    have H9 := Lib.hid (H6.out.trans (hD9.mono H6.out.size))
    have g0 := P9.cell (j := 0) rfl
    have g1 := P9.cell (j := 1) rfl
    have g2 := P9.cell (j := 2) rfl
    clear h9 hD9 P9 HS6 TE TS2 Hh6
    go_wp2_with fail
    refine T9.out.mono ?_
    rintro e w10 ⟨rfl, hB10⟩
    have H10 := Lib.hid (H9.out.trans (hB10.mono H9.out.size))
    clear hB10
    go_wp2
    go_ret
    exact ⟨rfl, H10.out⟩
end Go.Proofs.Ytembafogbfcajaa
