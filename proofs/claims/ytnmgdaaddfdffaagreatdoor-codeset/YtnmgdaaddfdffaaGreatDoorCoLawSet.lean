/- CodeSet: a value that is set changes the bytes, unless it is the same; the one that was set back gives the bytes that were. Conditions: the table of kinds' texts, and the variable errors.errorType, are laid; the graph's lists are within the form's own reach, which the row has. -/
import Derived.Test.YtnmgdaaddfdffaaGreatDoorCoAwake
import Derived.Test.YtnmgdaaddfdffaaGreatDoorGCanon
import Derived.Test.YtnmgdaaddfdffaaGreatDoorGrSet
import Derived.Test.YtnmgdaaddfdffaaGreatDoorGrWeigh
import Derived.Deep.DeepCutAuto
import Derived.BigQuiet
namespace Go.Proofs.YtnmgdaaddfdffaaGreatDoor
open Go.RowKit

theorem vset_arg {w : World} {cs : Array Value} {v : Vl} (h : rVal (All w) w cs.toList v) : ∃ s : ByteArray, cs = #[.int .i64 v.1, .string s, .int .i64 v.2.2] ∧ byt s = v.2.1 ∧ (-9223372036854775808 ≤ v.1 ∧ v.1 ≤ 9223372036854775807) ∧ (-9223372036854775808 ≤ v.2.2 ∧ v.2.2 ≤ 9223372036854775807) := by
  obtain ⟨s, h1, h2, -, h4, h5⟩ := rVal_open h
  exact ⟨s, by cases cs; simpa using h1, h2, h4, h5⟩
theorem conv_bs2 (A : Option Addr) (m c : Nat) (bs : List Nat) (w : World) (hm : m = bs.length) (hr : Rd w A (u8s bs)) : (convert 29 9 (.slice A m c)).run Tryz.prog w = .ok (.string (strB bs)) w :=
  conv_str w _ _ _ Tryz.underlying29 Tryz.underlying5 Tryz.underlying9 A bs m c hm.symm hr

set_option maxRecDepth 100000 in
set_option maxHeartbeats 4000000 in
theorem codeSet_walk (w : World) (hL : Kt w ∧ Han w) (cs : Array Value) (g : Gr) (h : rGr (All w) w cs.toList g) (hreach : reachB g) (id : Int) (_hd0 : -9223372036854775808 ≤ id) (_hd1 : id ≤ 9223372036854775807) (k : Int) (_hk0 : -9223372036854775808 ≤ k) (_hk1 : k ≤ 9223372036854775807) (vs : Array Value) (v : Vl) (hvv : rVal (All w) w vs.toList v) :
    Calls Tryz.prog 9 #[.agg cs, .int .i64 id, .int .i64 k, .agg vs] w fun e w' => e = .returned (.bool true) ∧ Below w.heap.size w w' := by
  obtain ⟨A, c, B, d, C, e, rfl, h⟩ := gr_arg h
  obtain ⟨s, rfl, hs, hv1, hv2⟩ := vset_arg hvv
  have hB0 : Below w.heap.size w ((w.alloc (.cells #[.slice A g.1.length c, .slice B g.2.1.length d, .slice C g.2.2.length e] 28)).alloc (.cells #[.int .i64 v.1, .string s, .int .i64 v.2.2] 57)) := ((Below.refl _ w).alloc (Nat.le_refl _) _).alloc (by simp) _
  obtain ⟨p1, pv⟩ := blk_two w 28 57 [.slice A g.1.length c, .slice B g.2.1.length d, .slice C g.2.2.length e] [.int .i64 v.1, .string s, .int .i64 v.2.2]
  have TF := Lib.hid (fun W (hW : Below w.heap.size w W) => gfew_any A B C g.1.length c g.2.1.length d g.2.2.length e g W (gr_below hW h))
  have TS := Lib.hid (fun W (hW : Below w.heap.size w W) => gset_any A B C g.1.length c g.2.1.length d g.2.2.length e g id k s v W (gr_below hW h) (tame_reach hreach) hs (WalkArith.wf_i64 hv1) (WalkArith.wf_i64 hv2))
  have TG := Lib.hid (fun W (hW : Below w.heap.size w W) => gfind_any A B C g.1.length c g.2.1.length d g.2.2.length e g id W (gr_below hW h))
  have TP := Lib.hid (fun W (hW : Below w.heap.size w W) => cput_any A B C g.1.length c g.2.1.length d g.2.2.length e g W (hL.1.below hW) (gr_below hW h))
  have HK := Lib.hid (fun W (hW : Below w.heap.size w W) => hL.1.below hW)
  have HG := Lib.hid (fun W (hW : Below w.heap.size w W) => hL.2.below hW)
  have Hg := Lib.hid (fun W (hW : Below w.heap.size w W) => gr_below hW h)
  have Hok := Lib.hid (gr_ok h)
  have Hov : Hid (OkV v) := Lib.hid ⟨hv1, by rw [← hs]; exact byt_lt s⟩
  have HB0 := Lib.hid hB0
  have Hs := Lib.hid hs
  have hMn : g.2.1.length ≤ 9223372036854775807 := by have := (slice_len (rGr_open h).2.1).2; simp only [maxLen] at this; omega
  clear hB0 h hvv hreach hs hL
  have Hbk := Lib.hid (fun he => set_back (g := g) (id := id) (k := k) (v := v) he)
  generalize fewG g = few at *
  generalize hN : g.1.length = N at *
  generalize hM : g.2.1.length = M at *
  generalize hK : g.2.2.length = Kr at *
  have HM := Lib.hid hM
  have HN := Lib.hid hN
  have HKr := Lib.hid hK
  clear hN hM hK hv1 hv2
  go_enter Tryz.func9, Tryz.ntmps9
  go_wp2_with fail
  refine (codeawake_any _ (HK.out _ HB0.out) (HG.out _ HB0.out)).mono ?_
  rintro e w1 ⟨rfl, hB1⟩
  have H1 := Lib.hid (HB0.out.trans (hB1.mono HB0.out.size))
  replace p1 := p1.to hB1
  replace pv := pv.to hB1
  clear hB1 HB0
  have c0 := p1.cell (j := 0) rfl
  have c1 := p1.cell (j := 1) rfl
  have c2 := p1.cell (j := 2) rfl
  go_wp2_with fail
  refine (TF.out _ H1.out).mono ?_
  rintro e w2 ⟨rfl, hB2⟩
  have H2 := Lib.hid (H1.out.trans (hB2.mono H1.out.size))
  replace p1 := p1.to hB2
  replace pv := pv.to hB2
  clear hB2 H1 c0 c1 c2 TF
  have c0 := p1.cell (j := 0) rfl
  have c1 := p1.cell (j := 1) rfl
  have c2 := p1.cell (j := 2) rfl
  have z0 := pv.cell (j := 0) rfl
  have z1 := pv.cell (j := 1) rfl
  have z2 := pv.cell (j := 2) rfl
  go_wp2_with fail
  refine (TS.out _ H2.out).mono ?_
  rintro e w3 ⟨A4, c4, B4, d4, C4, f4, rfl, h4, hB3⟩
  have hB4 : Below w3.heap.size w3 (w3.alloc (.cells #[.slice A4 (setN g id k v).1.length c4, .slice B4 (setN g id k v).2.1.length d4, .slice C4 (setN g id k v).2.2.length f4] 28)) := (Below.refl _ w3).alloc (Nat.le_refl _) _
  have p2 := Blk.new w3 28 [.slice A4 (setN g id k v).1.length c4, .slice B4 (setN g id k v).2.1.length d4, .slice C4 (setN g id k v).2.2.length f4]
  have hX := hB3.trans (hB4.mono hB3.size)
  have H4 := Lib.hid (H2.out.trans (hX.mono H2.out.size))
  replace p1 := p1.to hX
  replace pv := pv.to hX
  have Hh := Lib.hid (gr_below hB4 h4)
  clear c0 c1 c2 z0 z1 z2 hB3 hB4 hX h4 H2 TS
  have c0 := p1.cell (j := 0) rfl
  have c1 := p1.cell (j := 1) rfl
  have c2 := p1.cell (j := 2) rfl
  by_cases hgo : few = true ∧ setE g id k v = 0
  case neg =>
    have hor : few = false ∨ (few = true ∧ (setE g id k v != 0) = true) := by
      cases few with
      | false => exact .inl rfl
      | true => exact .inr ⟨rfl, by simpa using fun h => hgo ⟨rfl, h⟩⟩
    clear Hh Hbk hgo
    generalize (setN g id k v).1.length = N4 at *
    generalize (setN g id k v).2.1.length = M4 at *
    generalize (setN g id k v).2.2.length = K4 at *
    generalize setE g id k v = er at *
    generalize findG g.2.1 id = fi at *
    go_wp2_with fail
    refine (TG.out _ H4.out).mono ?_
    rintro e w5 ⟨rfl, hB5⟩
    have H5 := Lib.hid (H4.out.trans (hB5.mono H4.out.size))
    clear hB5 H4 TG p1 p2 pv c0 c1 c2
    rcases hor with rfl | ⟨rfl, he'⟩
    all_goals
      go_wp2
      go_ret
      exact ⟨rfl, H5.out⟩
  obtain ⟨rfl, he⟩ := hgo
  obtain ⟨I, kn, o, v0, hI, ho, rfl, hkl, hv0, b1, b2, b3, hho, hhv, hmn, hE, hback⟩ := Hbk.out he
  rw [he]
  rw [hI] at TG
  have TS2 := Lib.hid (fun A1 B1 C1 c1 d1 e1 W s0 hq hs0 hv1 hv2 => gset_in A1 B1 C1 (setN g id (kn : Int) v).1.length c1 (setN g id (kn : Int) v).2.1.length d1 (setN g id (kn : Int) v).2.2.length e1 (setN g id (kn : Int) v) id (kn : Int) s0 v0 W hq (tame_may hq hmn) hs0 hv1 hv2)
  rw [hE, hback, HN.out, HM.out, HKr.out] at TS2
  have Hsame := Lib.hid (fun (hvv : v0 = v) => setN_here (g := g) (id := id) he hI ho (by rw [hv0, hvv]))
  have Hce := Lib.hid (code_set he Hok.out Hov.out)
  clear hmn hE hback he Hbk hho hhv Hok Hov
  generalize hgn : setN g id (kn : Int) v = hg at *
  clear hgn
  generalize hg.1.length = N4 at *
  generalize hg.2.1.length = M4 at *
  generalize hg.2.2.length = K4 at *
  replace b1 := b1.symm
  replace b2 := b2.symm
  replace b3 := b3.symm
  subst b1 b2 b3
  have hIM : I < M := by have := HM.out; have := (List.getElem?_eq_some_iff.1 ho).1; omega
  go_wp2_with fail
  refine (TG.out _ H4.out).mono ?_
  rintro e w5 ⟨rfl, hB5⟩
  have H5 := Lib.hid (H4.out.trans (hB5.mono H4.out.size))
  replace p1 := p1.to hB5
  replace pv := pv.to hB5
  replace p2 := p2.to hB5
  replace Hh := Lib.hid (gr_below hB5 Hh.out)
  clear hB5 c0 c1 c2 H4 TG
  obtain ⟨b, off, A2, cv, hBe, hb, -, -, x2, hvs, -, -⟩ := ob_at (rGr_open (Hg.out _ H5.out)).2.1 ho
  subst hBe
  obtain ⟨bv, offv, s0, hAe, hbv, u0, u1, u2, hs0, -, hw1, hw2⟩ := val_at hvs hv0
  subst hAe
  have HS0 := Lib.hid hs0
  have Hw1 := Lib.hid (WalkArith.wf_i64 hw1)
  have Hw2 := Lib.hid (WalkArith.wf_i64 hw2)
  have hneq : ∃ q, (∀ W, (binOp .neq 57 (.agg #[.int .i64 v0.1, .string s0, .int .i64 v0.2.2]) (.agg #[.int .i64 v.1, .string s, .int .i64 v.2.2])).run Tryz.prog W = .ok (.bool q) W) ∧ (q = false → v0 = v) := by
    refine ⟨!decide (v0 = v), fun W => ?_, fun h => by simpa using h⟩
    rw [vl_neq, vl_is, hs0, Hs.out]
  obtain ⟨q, hneq, hq⟩ := hneq
  have Hq := Lib.hid (fun h => Hsame.out (hq h))
  have hgd := sval_guard
  clear hvs hv0 ho hs0 hw1 hw2 hI hq Hsame
  generalize hvl : o.2.2.length = vl at *
  clear hvl
  have q1 : decide ((I : Int) < 0) = false := decide_eq_false (by omega)
  have q2 : decide ((M : Int) ≤ (I : Int)) = false := decide_eq_false (by omega)
  have q2' : decide (M ≤ I) = false := decide_eq_false (by omega)
  have q4 : decide ((kn : Int) < 0) = false := decide_eq_false (by omega)
  have q5 : decide ((vl : Int) ≤ (kn : Int)) = false := decide_eq_false (by omega)
  have q5' : decide (vl ≤ kn) = false := decide_eq_false (by omega)
  have q7 : (I : Int) < (M : Int) := by omega
  have q8 : (0 : Int) ≤ (I : Int) := Int.natCast_nonneg I
  have q9 : (kn : Int) < (vl : Int) := by omega
  have q0 : (0 : Int) ≤ (kn : Int) := Int.natCast_nonneg kn
  have HS := Lib.hid (fun (W : World) (hW : Below w5.heap.size w5 W) => And.intro (And.intro ((p1.to hW).cell (j := 0) rfl) (And.intro ((p1.to hW).cell (j := 1) rfl) ((p1.to hW).cell (j := 2) rfl)))
    (And.intro (And.intro ((p2.to hW).cell (j := 0) rfl) (And.intro ((p2.to hW).cell (j := 1) rfl) ((p2.to hW).cell (j := 2) rfl))) (And.intro (And.intro ((pv.to hW).cell (j := 0) rfl) (And.intro ((pv.to hW).cell (j := 1) rfl) ((pv.to hW).cell (j := 2) rfl)))
    (And.intro ((hW.cell (p := ⟨b, off + I * 3 + 2, none⟩) hb).trans x2)
    (And.intro ((hW.cell (p := ⟨bv, offv + kn * 3, none⟩) hbv).trans u0) (And.intro ((hW.cell (p := ⟨bv, offv + kn * 3 + 1, none⟩) hbv).trans u1) ((hW.cell (p := ⟨bv, offv + kn * 3 + 2, none⟩) hbv).trans u2)))))))
  clear p1 p2 pv x2 u0 u1 u2
  generalize hvn1 : v.1 = n1 at *
  generalize hvn2 : v.2.2 = n2 at *
  generalize v0.1 = m1 at *
  generalize v0.2.2 = m2 at *
  obtain ⟨⟨x0, x1, x2⟩, ⟨y0, y1, y2⟩, ⟨z0, z1, z2⟩, k1, u0, u1, u2⟩ := HS.out _ (Below.refl _ w5)
  go_wp2_with fail
  refine (TP.out _ H5.out).mono ?_
  rintro r w7 ⟨B7, m7, cap7, rfl, hm7, -, -, hr7, hB7⟩
  have H7 := Lib.hid (H5.out.trans (hB7.mono H5.out.size))
  have HB57 := Lib.hid hB7
  have HR7 := Lib.hid (fun W (hW : Below w7.heap.size w7 W) => conv_bs2 B7 m7 cap7 (codeB g) W hm7 (hr7.below hW))
  have T8 := Lib.hid (cput_any A4 B4 C4 N c4 M d4 Kr f4 hg w7 (HK.out _ H7.out) (gr_below hB7 Hh.out))
  rw [Hce.out] at T8
  clear x0 x1 x2 y0 y1 y2 z0 z1 z2 k1 u0 u1 u2
  obtain ⟨-, ⟨y0, y1, y2⟩, -⟩ := HS.out _ hB7
  clear hB7 hm7 hr7 TP H5
  go_wp2_with fail
  refine T8.out.mono ?_
  rintro r w6 ⟨B8, m8, cap8, rfl, hm8, -, -, hr8, hB8⟩
  have H6 := Lib.hid (H7.out.trans (hB8.mono H7.out.size))
  have HB56 := HB57.out.trans (hB8.mono HB57.out.size)
  have HC7 := Lib.hid (fun W (hW : Below w6.heap.size w6 W) => HR7.out W (hB8.trans (hW.mono hB8.size)))
  have HC8 := Lib.hid (fun W (hW : Below w6.heap.size w6 W) => conv_bs2 B8 m8 cap8 (codeB hg) W hm8 (hr8.below hW))
  have HS6 := Lib.hid (fun (W : World) (hW : Below w6.heap.size w6 W) => HS.out W (HB56.trans (hW.mono HB56.size)))
  have Hh6 := Lib.hid (gr_below HB56 Hh.out)
  clear HB56 hB8 hm8 hr8 H7 HB57 HR7 T8 HS Hh y0 y1 y2 Hce
  generalize hE1 : codeE g = E1 at *
  go_upto_region 9 with fail
  go_cut [18, 19] (fun v18 v19 wx => ∃ (gx : Nat) (A9 B9 C9 : Option Addr) (c9 d9 e9 : Nat), v18 = .pointer (some ⟨gx, 0, none⟩) ∧ v19 = .int .i64 0 ∧ Blk wx gx 28 [.slice A9 N c9, .slice B9 M d9, .slice C9 Kr e9] ∧ rGr (All wx) wx [.slice A9 N c9, .slice B9 M d9, .slice C9 Kr e9] g ∧ Below w6.heap.size w6 wx)
  case first =>
    refine fr_start (fun W => Below w6.heap.size w6 W) 19 (by kernel_rfl) rfl (fun _ _ _ _ _ h => h) (Below.refl _ w6).drew (fun hH => ?_)
    generalize w6.drew = wd at *
    (refine fr_yes 0 (v := ?_) rfl (by kernel_rfl) rfl ?_ hH ?_; rotate_left; (focus ((intro W hW; obtain ⟨⟨x0, x1, x2⟩, ⟨y0, y1, y2⟩, ⟨z0, z1, z2⟩, k1, u0, u1, u2⟩ := HS6.out W hW; go_simp) <;> with_reducible rfl)); simp only [Act.put, List.setIfInBounds_toArray, List.set_cons_zero, List.set_cons_succ]); (refine fr_yes 1 (v := ?_) rfl (by kernel_rfl) rfl ?_ hH ?_; rotate_left; (focus ((intro W hW; obtain ⟨⟨x0, x1, x2⟩, ⟨y0, y1, y2⟩, ⟨z0, z1, z2⟩, k1, u0, u1, u2⟩ := HS6.out W hW; go_simp) <;> with_reducible rfl)); simp only [Act.put, List.setIfInBounds_toArray, List.set_cons_zero, List.set_cons_succ]); (refine fr_yes 2 (v := ?_) rfl (by kernel_rfl) rfl ?_ hH ?_; rotate_left; (focus ((intro W hW; obtain ⟨⟨x0, x1, x2⟩, ⟨y0, y1, y2⟩, ⟨z0, z1, z2⟩, k1, u0, u1, u2⟩ := HS6.out W hW; go_simp) <;> with_reducible rfl)); simp only [Act.put, List.setIfInBounds_toArray, List.set_cons_zero, List.set_cons_succ]); (refine fr_yes 3 (v := ?_) rfl (by kernel_rfl) rfl ?_ hH ?_; rotate_left; (focus ((intro W hW; obtain ⟨⟨x0, x1, x2⟩, ⟨y0, y1, y2⟩, ⟨z0, z1, z2⟩, k1, u0, u1, u2⟩ := HS6.out W hW; go_simp) <;> with_reducible rfl)); simp only [Act.put, List.setIfInBounds_toArray, List.set_cons_zero, List.set_cons_succ]); (refine fr_yes 4 (v := ?_) rfl (by kernel_rfl) rfl ?_ hH ?_; rotate_left; (focus ((intro W hW; obtain ⟨⟨x0, x1, x2⟩, ⟨y0, y1, y2⟩, ⟨z0, z1, z2⟩, k1, u0, u1, u2⟩ := HS6.out W hW; go_simp) <;> with_reducible rfl)); simp only [Act.put, List.setIfInBounds_toArray, List.set_cons_zero, List.set_cons_succ]); (refine fr_yes 5 (v := ?_) rfl (by kernel_rfl) rfl ?_ hH ?_; rotate_left; (focus ((intro W hW; obtain ⟨⟨x0, x1, x2⟩, ⟨y0, y1, y2⟩, ⟨z0, z1, z2⟩, k1, u0, u1, u2⟩ := HS6.out W hW; go_simp) <;> with_reducible rfl)); simp only [Act.put, List.setIfInBounds_toArray, List.set_cons_zero, List.set_cons_succ]); (refine fr_yes 6 (v := ?_) rfl (by kernel_rfl) rfl ?_ hH ?_; rotate_left; (focus ((intro W hW; obtain ⟨⟨x0, x1, x2⟩, ⟨y0, y1, y2⟩, ⟨z0, z1, z2⟩, k1, u0, u1, u2⟩ := HS6.out W hW; go_simp) <;> with_reducible rfl)); simp only [Act.put, List.setIfInBounds_toArray, List.set_cons_zero, List.set_cons_succ]); (refine fr_yes 7 (v := ?_) rfl (by kernel_rfl) rfl ?_ hH ?_; rotate_left; (focus ((intro W hW; obtain ⟨⟨x0, x1, x2⟩, ⟨y0, y1, y2⟩, ⟨z0, z1, z2⟩, k1, u0, u1, u2⟩ := HS6.out W hW; go_simp) <;> with_reducible rfl)); simp only [Act.put, List.setIfInBounds_toArray, List.set_cons_zero, List.set_cons_succ]); (refine fr_yes 8 (v := ?_) rfl (by kernel_rfl) rfl ?_ hH ?_; rotate_left; (focus ((intro W hW; obtain ⟨⟨x0, x1, x2⟩, ⟨y0, y1, y2⟩, ⟨z0, z1, z2⟩, k1, u0, u1, u2⟩ := HS6.out W hW; go_simp) <;> with_reducible rfl)); simp only [Act.put, List.setIfInBounds_toArray, List.set_cons_zero, List.set_cons_succ]); (refine fr_yes 9 (v := ?_) rfl (by kernel_rfl) rfl ?_ hH ?_; rotate_left; (focus ((intro W hW; obtain ⟨⟨x0, x1, x2⟩, ⟨y0, y1, y2⟩, ⟨z0, z1, z2⟩, k1, u0, u1, u2⟩ := HS6.out W hW; go_simp) <;> with_reducible rfl)); simp only [Act.put, List.setIfInBounds_toArray, List.set_cons_zero, List.set_cons_succ]); (refine fr_yes 10 (v := ?_) rfl (by kernel_rfl) rfl ?_ hH ?_; rotate_left; (focus ((intro W hW; obtain ⟨⟨x0, x1, x2⟩, ⟨y0, y1, y2⟩, ⟨z0, z1, z2⟩, k1, u0, u1, u2⟩ := HS6.out W hW; go_simp) <;> with_reducible rfl)); simp only [Act.put, List.setIfInBounds_toArray, List.set_cons_zero, List.set_cons_succ]); (refine fr_yes 11 (v := ?_) rfl (by kernel_rfl) rfl ?_ hH ?_; rotate_left; (focus ((intro W hW; obtain ⟨⟨x0, x1, x2⟩, ⟨y0, y1, y2⟩, ⟨z0, z1, z2⟩, k1, u0, u1, u2⟩ := HS6.out W hW; go_simp) <;> with_reducible rfl)); simp only [Act.put, List.setIfInBounds_toArray, List.set_cons_zero, List.set_cons_succ])
    refine fr_op [12, 16] (by kernel_rfl) (by simp) ?_; intro jj hjj; simp only [List.mem_cons, List.not_mem_nil, or_false] at hjj; rcases hjj with rfl | rfl
    · refine ⟨_, rfl, rfl, fun K hK => ?_⟩
      go_wp2_with (go_at_call 29; refine (TS2.out A4 _ C4 c4 d4 f4 _ s0 (gr_below hH Hh6.out) HS0.out Hw1.out Hw2.out).mono ?_; rintro e w7 ⟨A9, c9, B9, d9, C9, e9, rfl, h9, hB9⟩)
      have hD := hH.trans (hB9.mono hH.size)
      refine hK.out _ _ hD ?_
      clear hK hB9 hH
      have hH := hD
      (refine fr_yes 13 (v := ?_) rfl (by kernel_rfl) rfl ?_ hH ?_; rotate_left; (focus ((intro W hW; obtain ⟨⟨x0, x1, x2⟩, ⟨y0, y1, y2⟩, ⟨z0, z1, z2⟩, k1, u0, u1, u2⟩ := HS6.out W hW; go_simp) <;> with_reducible rfl)); simp only [Act.put, List.setIfInBounds_toArray, List.set_cons_zero, List.set_cons_succ]); (refine fr_yes 14 (v := ?_) rfl (by kernel_rfl) rfl ?_ hH ?_; rotate_left; (focus ((intro W hW; obtain ⟨⟨x0, x1, x2⟩, ⟨y0, y1, y2⟩, ⟨z0, z1, z2⟩, k1, u0, u1, u2⟩ := HS6.out W hW; go_simp) <;> with_reducible rfl)); simp only [Act.put, List.setIfInBounds_toArray, List.set_cons_zero, List.set_cons_succ]); (refine fr_yes 15 (v := ?_) rfl (by kernel_rfl) rfl ?_ hH ?_; rotate_left; (focus ((intro W hW; obtain ⟨⟨x0, x1, x2⟩, ⟨y0, y1, y2⟩, ⟨z0, z1, z2⟩, k1, u0, u1, u2⟩ := HS6.out W hW; go_simp) <;> with_reducible rfl)); simp only [Act.put, List.setIfInBounds_toArray, List.set_cons_zero, List.set_cons_succ])
      refine fr_op [16] (by kernel_rfl) (by simp) ?_; intro jj hjj; simp only [List.mem_cons, List.not_mem_nil, or_false] at hjj; subst hjj; refine ⟨_, rfl, rfl, fun K hK => ?_⟩
      go_wp2
      refine hK.out _ _ (hD.alloc hD.size (.cells #[.slice none 0 0, .slice none 0 0, .slice none 0 0] 28)) ?_
      clear hK
      refine fr_op [17] (by kernel_rfl) (by simp) ?_; intro jj hjj; simp only [List.mem_cons, List.not_mem_nil, or_false] at hjj; subst hjj; refine ⟨_, rfl, rfl, fun K hK => ?_⟩
      go_wp2
      have hDs := hD.alloc hD.size (.cells #[.slice A9 N c9, .slice B9 M d9, .slice C9 Kr e9] 28)
      refine hK.out _ _ hDs ?_
      clear hK hH
      have hH := hDs
      (refine fr_yes 18 (v := ?_) rfl (by kernel_rfl) rfl ?_ hH ?_; rotate_left; (focus ((intro W hW; obtain ⟨⟨x0, x1, x2⟩, ⟨y0, y1, y2⟩, ⟨z0, z1, z2⟩, k1, u0, u1, u2⟩ := HS6.out W hW; go_simp) <;> with_reducible rfl)); simp only [Act.put, List.setIfInBounds_toArray, List.set_cons_zero, List.set_cons_succ])
      refine fr_done (by kernel_rfl) ?_
      clear hH
      go_wp2
      go_meet
      case rel => exact ⟨_, A9, B9, C9, c9, d9, e9, rfl, rfl, Blk.new _ _ _, gr_below ((Below.refl _ w7).alloc (Nat.le_refl _) _) (rGr_stays.to (Keeps.mono fun b hb => hb.2) h9), hDs⟩
    · refine ⟨_, rfl, rfl, fun K hK => ?_⟩
      go_wp2
      have hDz := hH.alloc hH.size (.cells #[.slice none 0 0, .slice none 0 0, .slice none 0 0] 28)
      have vz := Blk.new wd 28 [.slice none 0 0, .slice none 0 0, .slice none 0 0]
      have hgz : w6.heap.size ≤ wd.heap.size := hH.size
      refine hK.out _ _ hDz ?_
      clear hK hH
      have hH := hDz
      have Hh7 := Lib.hid (gr_below hDz Hh6.out)
      have hlz := vz.lt
      generalize wd.alloc (.cells #[.slice none 0 0, .slice none 0 0, .slice none 0 0] 28) = wz at *
      generalize wd.heap.size = gz at *
      refine fr_op [12] (by kernel_rfl) (by simp) ?_; intro jj hjj; simp only [List.mem_cons, List.not_mem_nil, or_false] at hjj; subst hjj; refine ⟨_, rfl, rfl, fun K hK => ?_⟩
      go_wp2_with (go_at_call 29; refine (TS2.out A4 _ C4 c4 d4 f4 _ s0 Hh7.out HS0.out Hw1.out Hw2.out).mono ?_; rintro e w7 ⟨A9, c9, B9, d9, C9, e9, rfl, h9, hB9⟩)
      have hD := hH.trans (hB9.mono hH.size)
      have vz7 := vz.to hB9
      refine hK.out _ _ hD ?_
      clear hK hB9 hH hDz vz
      have hH := hD
      (refine fr_yes 13 (v := ?_) rfl (by kernel_rfl) rfl ?_ hH ?_; rotate_left; (focus ((intro W hW; obtain ⟨⟨x0, x1, x2⟩, ⟨y0, y1, y2⟩, ⟨z0, z1, z2⟩, k1, u0, u1, u2⟩ := HS6.out W hW; go_simp) <;> with_reducible rfl)); simp only [Act.put, List.setIfInBounds_toArray, List.set_cons_zero, List.set_cons_succ]); (refine fr_yes 14 (v := ?_) rfl (by kernel_rfl) rfl ?_ hH ?_; rotate_left; (focus ((intro W hW; obtain ⟨⟨x0, x1, x2⟩, ⟨y0, y1, y2⟩, ⟨z0, z1, z2⟩, k1, u0, u1, u2⟩ := HS6.out W hW; go_simp) <;> with_reducible rfl)); simp only [Act.put, List.setIfInBounds_toArray, List.set_cons_zero, List.set_cons_succ]); (refine fr_yes 15 (v := ?_) rfl (by kernel_rfl) rfl ?_ hH ?_; rotate_left; (focus ((intro W hW; obtain ⟨⟨x0, x1, x2⟩, ⟨y0, y1, y2⟩, ⟨z0, z1, z2⟩, k1, u0, u1, u2⟩ := HS6.out W hW; go_simp) <;> with_reducible rfl)); simp only [Act.put, List.setIfInBounds_toArray, List.set_cons_zero, List.set_cons_succ])
      have g0 := vz7.cell (j := 0) rfl
      have g1 := vz7.cell (j := 1) rfl
      have g2 := vz7.cell (j := 2) rfl
      have i0 := vz7.frozen 0
      have i1 := vz7.frozen 1
      have i2 := vz7.frozen 2
      refine fr_op [17] (by kernel_rfl) (by simp) ?_; intro jj hjj; simp only [List.mem_cons, List.not_mem_nil, or_false] at hjj; subst hjj; refine ⟨_, rfl, rfl, fun K hK => ?_⟩
      go_wp2
      have hDs := ((hD.setCell (p := ⟨gz, 0, none⟩) hgz (.slice A9 N c9)).setCell (p := ⟨gz, 1, none⟩) hgz (.slice B9 M d9)).setCell (p := ⟨gz, 2, none⟩) hgz (.slice C9 Kr e9)
      refine hK.out _ _ hDs ?_
      clear hK hH g0 g1 g2 i0 i1 i2
      have hH := hDs
      (refine fr_yes 18 (v := ?_) rfl (by kernel_rfl) rfl ?_ hH ?_; rotate_left; (focus ((intro W hW; obtain ⟨⟨x0, x1, x2⟩, ⟨y0, y1, y2⟩, ⟨z0, z1, z2⟩, k1, u0, u1, u2⟩ := HS6.out W hW; go_simp) <;> with_reducible rfl)); simp only [Act.put, List.setIfInBounds_toArray, List.set_cons_zero, List.set_cons_succ])
      refine fr_done (by kernel_rfl) ?_
      clear hH
      go_wp2
      go_meet
      case rel => exact ⟨_, A9, B9, C9, c9, d9, e9, rfl, rfl, ((vz7.set 0 _).set 1 _).set 2 _, rGr_stays.to (fun b hb => ⟨by show b < _; simp; omega, by rw [Below.heap_setCell _ _ _ _ (by show b ≠ gz; omega), Below.heap_setCell _ _ _ _ (by show b ≠ gz; omega), Below.heap_setCell _ _ _ _ (by show b ≠ gz; omega)]⟩) h9, hDs⟩
  case rest =>
    obtain ⟨gx, A9, B9, C9, c9, d9, e9, rfl, rfl, P9, h9, hD9⟩ := hcut
    rename World => wx
    have H9 := Lib.hid (H6.out.trans (hD9.mono H6.out.size))
    have T9 := Lib.hid (cput_any A9 B9 C9 N c9 M d9 Kr e9 g wx (HK.out _ H9.out) h9)
    have HD9 := Lib.hid hD9
    have g0 := P9.cell (j := 0) rfl
    have g1 := P9.cell (j := 1) rfl
    have g2 := P9.cell (j := 2) rfl
    rw [hE1] at T9
    clear h9 hD9 P9 TS2 Hh6 H6
    go_wp2_with fail
    refine T9.out.mono ?_
    rintro r w10 ⟨B10, m10, cap10, rfl, hm10, -, -, hr10, hB10⟩
    have H10 := Lib.hid (H9.out.trans (hB10.mono H9.out.size))
    have hX := HD9.out.trans (hB10.mono HD9.out.size)
    have HF := Lib.hid (fun (W : World) (hW : Below w10.heap.size w10 W) => And.intro (HS6.out W (hX.trans (hW.mono hX.size))) (And.intro (HC7.out W (hX.trans (hW.mono hX.size))) (HC8.out W (hX.trans (hW.mono hX.size)))))
    have v7 := HC7.out w10 hX
    have v10 := conv_bs2 B10 m10 cap10 (codeB g) w10 hm10 hr10
    have hEE : (E1 != E1) = false := by simp
    clear hX hm10 hr10 hB10 HD9 H9 HS6 HC7 HC8 T9 g0 g1 g2
    have Hq2 := Lib.hid (fun h => congrArg codeB (Hq.out h))
    clear Hq hE1
    generalize codeB hg = bh at *
    generalize codeB g = bg at *
    generalize hsg : strB bg = sg at *
    generalize hsh : strB bh = sh at *
    have hss : (sg.toList != sg.toList) = false := by simp
    go_upto_region 13 with fail
    clear v7 v10
    by_cases hz : E1 = 0
    rotate_left
    · have hz1 : (E1 != 0) = true := by simpa using hz
      clear hz Hq2
      refine sch_start [(0, true), (1, true), (2, true), (3, true), (4, true), (5, true), (6, true), (7, true), (8, true), (9, true), (10, true), (11, true), (12, true), (13, true), (14, true), (15, true), (16, true), (17, true), (18, true), (19, true), (20, true), (21, true), (22, true)] (fun W => Below w10.heap.size w10 W) (by kernel_rfl) rfl (by kernel_rfl) (fun _ _ _ _ _ h => h) (Below.refl _ w10).drew (fun hH => ?_)
      repeat (first | (refine sch_yes (v := ?_) rfl rfl ?_ hH ?_; rotate_left; (focus ((intro W hW; obtain ⟨⟨⟨x0, x1, x2⟩, ⟨y0, y1, y2⟩, ⟨z0, z1, z2⟩, k1, u0, u1, u2⟩, v7, v8⟩ := HF.out W hW; go_simp) <;> with_reducible rfl)); simp only [Act.put, List.setIfInBounds_toArray, List.set_cons_zero, List.set_cons_succ]) | (refine sch_no rfl rfl hH ?_; simp only [Act.put, List.setIfInBounds_toArray, List.set_cons_zero, List.set_cons_succ]))
      refine sch_done ?_
      go_wp2
      go_ret
      exact ⟨rfl, H10.out.trans (hH.mono H10.out.size)⟩
    have hz1 : (E1 != 0) = false := by simp [hz]
    clear hz
    cases q
    · have hbb := Hq2.out rfl
      have hsE : sh = sg := by rw [← hsg, ← hsh, hbb]
      subst hsE
      clear hbb Hq2
      refine sch_start [(0, true), (1, true), (2, true), (3, true), (4, true), (5, true), (6, true), (7, true), (8, true), (9, true), (10, true), (11, true), (12, true), (13, true), (14, true), (15, true), (16, true), (17, true), (18, true), (19, true), (20, true), (21, true), (22, true)] (fun W => Below w10.heap.size w10 W) (by kernel_rfl) rfl (by kernel_rfl) (fun _ _ _ _ _ h => h) (Below.refl _ w10).drew (fun hH => ?_)
      repeat (first | (refine sch_yes (v := ?_) rfl rfl ?_ hH ?_; rotate_left; (focus ((intro W hW; obtain ⟨⟨⟨x0, x1, x2⟩, ⟨y0, y1, y2⟩, ⟨z0, z1, z2⟩, k1, u0, u1, u2⟩, v7, v8⟩ := HF.out W hW; go_simp) <;> with_reducible rfl)); simp only [Act.put, List.setIfInBounds_toArray, List.set_cons_zero, List.set_cons_succ]) | (refine sch_no rfl rfl hH ?_; simp only [Act.put, List.setIfInBounds_toArray, List.set_cons_zero, List.set_cons_succ]))
      refine sch_done ?_
      go_wp2
      go_ret
      exact ⟨rfl, H10.out.trans (hH.mono H10.out.size)⟩
    · clear Hq2
      refine sch_start [(0, true), (1, true), (2, true), (3, true), (4, true), (5, true), (6, true), (7, true), (8, true), (9, true), (10, true), (11, true), (12, true), (13, true), (14, true), (15, true), (16, true), (17, true), (18, true), (19, true), (20, true), (21, true), (22, true)] (fun W => Below w10.heap.size w10 W) (by kernel_rfl) rfl (by kernel_rfl) (fun _ _ _ _ _ h => h) (Below.refl _ w10).drew (fun hH => ?_)
      repeat (first | (refine sch_yes (v := ?_) rfl rfl ?_ hH ?_; rotate_left; (focus ((intro W hW; obtain ⟨⟨⟨x0, x1, x2⟩, ⟨y0, y1, y2⟩, ⟨z0, z1, z2⟩, k1, u0, u1, u2⟩, v7, v8⟩ := HF.out W hW; go_simp) <;> with_reducible rfl)); simp only [Act.put, List.setIfInBounds_toArray, List.set_cons_zero, List.set_cons_succ]) | (refine sch_no rfl rfl hH ?_; simp only [Act.put, List.setIfInBounds_toArray, List.set_cons_zero, List.set_cons_succ]))
      refine sch_done ?_
      go_wp2
      go_ret
      exact ⟨rfl, H10.out.trans (hH.mono H10.out.size)⟩
end Go.Proofs.YtnmgdaaddfdffaaGreatDoor
