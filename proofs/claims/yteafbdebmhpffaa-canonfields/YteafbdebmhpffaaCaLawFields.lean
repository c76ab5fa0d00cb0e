/- CanonFields: each object of a Canon is of the type, and has the values, of the one that was met there; its Refs lead to where what they led to was met. No condition. -/
import Derived.Test.YteafbdebmhpffaaCaAwake
import Derived.Test.YteafbdebmhpffaaGrFew
namespace Go.Proofs.Yteafbdebmhpffaa
open Go.RowKit

set_option maxRecDepth 100000 in
set_option maxHeartbeats 8000000 in
theorem canonFields_walk (w : World) (cs : Array Value) (g : Gr) (h : rGr (All w) w cs.toList g) (i : Int) (hi0 : -9223372036854775808 ≤ i) (hi1 : i ≤ 9223372036854775807) (k : Int) (hk0 : -9223372036854775808 ≤ k) (hk1 : k ≤ 9223372036854775807) :
    Calls Try.prog 9 #[.agg cs, .int .i64 i, .int .i64 k] w fun e w' => e = .returned (.bool true) ∧ Below w.heap.size w w' := by
  obtain ⟨A, c, B, d, C, e, rfl, h⟩ := gr_arg h
  have hB0 : Below w.heap.size w (w.alloc (.cells #[.slice A g.1.length c, .slice B g.2.1.length d, .slice C g.2.2.length e] 28)) := (Below.refl _ w).alloc (Nat.le_refl _) _
  have p1 := Blk.new w 28 [.slice A g.1.length c, .slice B g.2.1.length d, .slice C g.2.2.length e]
  have TF := Lib.hid (fun W (hW : Below w.heap.size w W) => gfew_any A B C g.1.length c g.2.1.length d g.2.2.length e g W (gr_below hW h))
  have TM := Lib.hid (fun W (hW : Below w.heap.size w W) => gmay_any A B C g.1.length c g.2.1.length d g.2.2.length e g W (gr_below hW h))
  have TO := Lib.hid (fun W (hW : Below w.heap.size w W) => order_any A B C g.1.length c g.2.1.length d g.2.2.length e g W (gr_below hW h))
  have TC := Lib.hid (fun W (hW : Below w.heap.size w W) => canon_any A B C g.1.length c g.2.1.length d g.2.2.length e g W (gr_below hW h))
  have Hg0 := Lib.hid (fun W (hW : Below w.heap.size w W) => gr_below hW h)
  have TG := Lib.hid (fun W (hW : Below w.heap.size w W) n => gfind_any A B C g.1.length c g.2.1.length d g.2.2.length e g n W (gr_below hW h))
  clear h
  have H0 := Lib.hid hB0
  clear hB0
  generalize fewG g = few at *
  go_enter Try.func9, Try.ntmps9
  go_wp2_with fail
  refine (cawake_any _).mono ?_
  rintro e w1 ⟨rfl, hB1⟩
  have H1 := Lib.hid (H0.out.trans (hB1.mono H0.out.size))
  replace p1 := p1.to hB1
  clear hB1 H0 
  have c0 := p1.cell (j := 0) rfl
  have c1 := p1.cell (j := 1) rfl
  have c2 := p1.cell (j := 2) rfl
  go_wp2_with fail
  refine (TF.out _ H1.out).mono ?_
  rintro e w2 ⟨rfl, hB2⟩
  have H2 := Lib.hid (H1.out.trans (hB2.mono H1.out.size))
  replace p1 := p1.to hB2
  clear hB2 H1 c0 c1 c2 TF
  cases few
  · go_wp2
    go_ret
    exact ⟨rfl, H2.out⟩
  have c0 := p1.cell (j := 0) rfl
  have c1 := p1.cell (j := 1) rfl
  have c2 := p1.cell (j := 2) rfl
  go_wp2_with fail
  refine (TM.out _ H2.out).mono ?_
  rintro e w3 ⟨rfl, hB3⟩
  have H3 := Lib.hid (H2.out.trans (hB3.mono H2.out.size))
  replace p1 := p1.to hB3
  clear hB3 H2 c0 c1 c2 TM
  by_cases hm : mayG g = true
  rotate_left
  · replace hm : mayG g = false := by simpa using hm
    rw [hm]
    go_wp2
    go_ret
    exact ⟨rfl, H3.out⟩
  rw [hm]
  have hck : (canonG g).2.1.length = (ordG g).length := canon_len hm
  rw [hck] at TC
  have c0 := p1.cell (j := 0) rfl
  have c1 := p1.cell (j := 1) rfl
  have c2 := p1.cell (j := 2) rfl
  go_wp2_with fail
  refine (TO.out _ H3.out).mono ?_
  rintro e w4 ⟨A4, c4, rfl, h4, hB4⟩
  have H4 := Lib.hid (H3.out.trans (hB4.mono H3.out.size))
  replace p1 := p1.to hB4
  clear hB4 H3 c0 c1 c2 TO
  have c0 := p1.cell (j := 0) rfl
  have c1 := p1.cell (j := 1) rfl
  have c2 := p1.cell (j := 2) rfl
  go_wp2_with fail
  refine (TC.out _ H4.out).mono ?_
  rintro e w5 ⟨A5, c5, B5, d5, C5, e5, rfl, h5, hB5⟩
  have hB6 : Below w5.heap.size w5 (w5.alloc (.cells #[.slice A5 (canonG g).1.length c5, .slice B5 (ordG g).length d5, .slice C5 (canonG g).2.2.length e5] 28)) := (Below.refl _ w5).alloc (Nat.le_refl _) _
  have hB56 := hB5.trans (hB6.mono hB5.size)
  have p6 := Blk.new w5 28 [.slice A5 (canonG g).1.length c5, .slice B5 (ordG g).length d5, .slice C5 (canonG g).2.2.length e5]
  have H6 := Lib.hid (H4.out.trans (hB56.mono H4.out.size))
  replace p1 := p1.to hB56
  have Hl := Lib.hid (ids_below hB56 (rIds_stays.to (S' := All _) (Keeps.mono fun b hb => hb.2) h4))
  have Hc := Lib.hid (gr_below hB6 h5)
  have Hg := Lib.hid (Hg0.out _ H6.out)
  have hL8 := ordG_few hm
  clear h4 h5 hB5 hB6 hB56 H4 Hg0 c0 c1 c2 TC hck
  generalize hN : g.1.length = N at *
  generalize hM : g.2.1.length = M at *
  generalize hK : g.2.2.length = K at *
  generalize (canonG g).1.length = N5 at *
  generalize (canonG g).2.2.length = K5 at *
  generalize hL : (ordG g).length = L at *
  have P1 := Lib.hid p1
  have P6 := Lib.hid p6
  have k1 := p6.cell (j := 1) rfl
  clear p1 p6
  by_cases hneg : i < 0
  · have f1 : decide (i < 0) = true := decide_eq_true hneg
    go_wp2
    go_ret
    exact ⟨rfl, H6.out⟩
  have f1 : decide (i < 0) = false := decide_eq_false hneg
  by_cases hbig : (L : Int) ≤ i
  · have f2 : decide ((L : Int) ≤ i) = true := decide_eq_true hbig
    go_wp2
    go_ret
    exact ⟨rfl, H6.out⟩
  have f2 : decide ((L : Int) ≤ i) = false := decide_eq_false hbig
  obtain ⟨I, rfl⟩ : ∃ I : Nat, i = (I : Int) := ⟨i.toNat, by omega⟩
  have hIL : I < L := by omega
  have f2' : decide (L ≤ I) = false := decide_eq_false (by omega)
  obtain ⟨x, hx⟩ : ∃ x, (ordG g)[I]? = some x := ⟨_, List.getElem?_eq_getElem (by omega)⟩
  obtain ⟨o, ho, rfl, hoo⟩ := ord_obj hm (List.mem_of_getElem? hx)
  obtain ⟨J, hJ, hgo⟩ := obj_place hm ho
  have hJM : J < M := by have := (List.getElem?_eq_some_iff.1 hgo).1; omega
  have hp := canon_at hm hx
  rw [canO, hoo] at hp
  have hmo := mayG_obj hm ho
  have hlv := leadV_len (atL (ordG g)) (fldsG g.1 o.2.1) o.2.2 hmo.len
  obtain ⟨b4, off4, rfl, hb4, x4, -⟩ := id_at Hl.out hx
  obtain ⟨bo, offo, A2, c2, rfl, hbo, -, o1, o2, hov, -, -⟩ := ob_at (rGr_open Hg.out).2.1 hgo
  obtain ⟨bp, offp, A6, c6, rfl, hbp, -, q1, q2, hpv, -, -⟩ := ob_at (rGr_open Hc.out).2.1 hp
  rw [hlv] at q2 hpv
  have hil : (I : Int) < (L : Int) := by omega
  have hi00 : (0 : Int) ≤ (I : Int) := by omega
  have hjl : (J : Int) < (M : Int) := by omega
  have hj00 : (0 : Int) ≤ (J : Int) := by omega
  have g1 : decide ((J : Int) < 0) = false := decide_eq_false (by omega)
  have g2 : decide ((M : Int) ≤ (J : Int)) = false := decide_eq_false (by omega)
  have g2' : decide (M ≤ J) = false := decide_eq_false (by omega)
  have TG2 := Lib.hid (fun W hW => TG.out W hW o.1)
  rw [hJ] at TG2
  obtain ⟨t, ht⟩ : ∃ t : Nat, o.2.1 = (t : Int) := ⟨o.2.1.toNat, by have := hmo.t0; omega⟩
  have htN : t < N := by have := hmo.t1; omega
  have hgt : g.1[t]? = some g.1[t] := List.getElem?_eq_getElem (by omega)
  obtain ⟨bt, offt, st, AF, cF, rfl, hbt, -, y1, -, -, hfs⟩ := typ_at (rGr_open Hg.out).1 hgt
  have hFe := fldsG_at ht hgt
  rw [← hFe] at y1 hfs
  rw [ht] at o1 q1
  have Hov := Lib.hid hov
  have Hpv := Lib.hid hpv
  have Hfs := Lib.hid hfs
  have Hlen := Lib.hid hmo.len
  have Hvk := Lib.hid (fun (k : Nat) f v h1 h2 => canon_field (k := k) (f := f) (v := v) hm hx ho rfl h1 h2)
  have Hhp := Lib.hid hp
  clear hp hmo hlv hov hpv hfs hFe hgt TG hJ hgo hoo ho hx
  generalize hlvd : leadV (atL (ordG g)) (fldsG g.1 o.2.1) o.2.2 = lv at *
  generalize hfl : (fldsG g.1 o.2.1).length = fl at *
  generalize hol : o.2.2.length = ol at *
  have htl : (t : Int) < (N : Int) := by omega
  have ht00 : (0 : Int) ≤ (t : Int) := by omega
  go_wp2
  generalize w5.alloc (.cells #[.slice A5 N5 c5, .slice (some ⟨bp, offp, none⟩) L d5, .slice C5 K5 e5] 28) = w6 at *
  have l1 := P1.out.lt
  have l6 := P6.out.lt
  have HS := Lib.hid (fun (W : World) (hW : Below w6.heap.size w6 W) => And.intro ((hW.cell (p := ⟨w.heap.size, 0, none⟩) l1).trans (P1.out.cell (j := 0) rfl)) (And.intro ((hW.cell (p := ⟨w.heap.size, 1, none⟩) l1).trans (P1.out.cell (j := 1) rfl)) (And.intro ((hW.cell (p := ⟨w.heap.size, 2, none⟩) l1).trans (P1.out.cell (j := 2) rfl))
    (And.intro ((hW.cell (p := ⟨w5.heap.size, 1, none⟩) l6).trans (P6.out.cell (j := 1) rfl)) (And.intro ((hW.cell (p := ⟨b4, off4 + I, none⟩) hb4).trans x4) (And.intro ((hW.cell (p := ⟨bo, offo + J * 3 + 1, none⟩) hbo).trans o1) (And.intro ((hW.cell (p := ⟨bo, offo + J * 3 + 2, none⟩) hbo).trans o2)
    (And.intro ((hW.cell (p := ⟨bp, offp + I * 3 + 1, none⟩) hbp).trans q1) (And.intro ((hW.cell (p := ⟨bp, offp + I * 3 + 2, none⟩) hbp).trans q2) ((hW.cell (p := ⟨bt, offt + t * 2 + 1, none⟩) hbt).trans y1))))))))))
  clear k1 x4 o1 o2 q1 q2 y1 P1 P6
  refine sch_start [(0, true), (1, true), (2, true), (3, true), (4, true), (5, false), (6, true)] (fun W => Below w6.heap.size w6 W) (by kernel_rfl) rfl (by kernel_rfl) (fun _ _ _ _ _ h => h) ((Below.refl _ w6).drew) (fun hH => ?_)
  repeat (first | (refine sch_yes (v := ?_) rfl rfl ?_ hH ?_; rotate_left; (focus ((intro W hW; obtain ⟨a0, a1, a2, a3, a4, a5, a6, a7, a8, a9⟩ := HS.out W hW; go_simp) <;> with_reducible rfl)); simp only [Act.put, List.setIfInBounds_toArray, List.set_cons_zero, List.set_cons_succ]) | (refine sch_no rfl rfl hH ?_; simp only [Act.put, List.setIfInBounds_toArray, List.set_cons_zero, List.set_cons_succ]))
  refine sch_call rfl rfl (fun K' hK' => ?_)
  go_wp2_with (go_at_call 29; refine (TG2.out _ (H6.out.trans (hH.mono H6.out.size))).mono ?_; rintro e wg ⟨rfl, hBg⟩)
  have hDg := hH.trans (hBg.mono hH.size)
  refine hK'.out _ _ hDg ?_
  clear hK' hH hBg TG2
  have hH := hDg
  repeat (first | (refine sch_yes (v := ?_) rfl rfl ?_ hH ?_; rotate_left; (focus ((intro W hW; obtain ⟨a0, a1, a2, a3, a4, a5, a6, a7, a8, a9⟩ := HS.out W hW; go_simp) <;> with_reducible rfl)); simp only [Act.put, List.setIfInBounds_toArray, List.set_cons_zero, List.set_cons_succ]) | (refine sch_no rfl rfl hH ?_; simp only [Act.put, List.setIfInBounds_toArray, List.set_cons_zero, List.set_cons_succ]))
  refine sch_done ?_
  clear hH
  have Hg := Lib.hid hDg
  clear hDg
  go_wp2
  refine sch_start [(0, true), (1, true), (2, true), (3, true), (4, true), (5, true), (6, true), (7, true), (8, true), (9, true), (10, true), (11, true), (12, true), (13, true), (14, true), (15, true), (16, true), (17, true), (18, true), (19, true), (20, true), (21, true), (22, true), (23, true), (24, true), (25, true), (26, true), (27, true), (28, true), (29, true), (30, true), (31, true), (32, true), (33, true), (34, true), (35, true), (36, true), (37, true), (38, true), (39, true), (40, true)] (fun W => Below w6.heap.size w6 W) (by kernel_rfl) rfl (by kernel_rfl) (fun _ _ _ _ _ h => h) (Hg.out.drew) (fun hH => ?_)
  repeat (first | (refine sch_yes (v := ?_) rfl rfl ?_ hH ?_; rotate_left; (focus ((intro W hW; obtain ⟨a0, a1, a2, a3, a4, a5, a6, a7, a8, a9⟩ := HS.out W hW; go_simp) <;> with_reducible rfl)); simp only [Act.put, List.setIfInBounds_toArray, List.set_cons_zero, List.set_cons_succ]) | (refine sch_no rfl rfl hH ?_; simp only [Act.put, List.setIfInBounds_toArray, List.set_cons_zero, List.set_cons_succ]))
  refine sch_done ?_
  have Hg2 := Lib.hid hH
  clear hH Hg
  generalize wg.drew = wd at *
  obtain ⟨a0, a1, a2, a3, a4, a5, a6, a7, a8, a9⟩ := HS.out _ Hg2.out
  by_cases hkn : k < 0
  · have u1 : decide (k < 0) = true := decide_eq_true hkn
    go_wp2
    go_ret
    exact ⟨rfl, H6.out.trans (Hg2.out.mono H6.out.size)⟩
  have u1 : decide (k < 0) = false := decide_eq_false hkn
  by_cases hkb : (ol : Int) ≤ k
  · have u2 : decide ((ol : Int) ≤ k) = true := decide_eq_true hkb
    go_wp2
    go_ret
    exact ⟨rfl, H6.out.trans (Hg2.out.mono H6.out.size)⟩
  have u2 : decide ((ol : Int) ≤ k) = false := decide_eq_false hkb
  obtain ⟨k, rfl⟩ : ∃ k' : Nat, k = (k' : Int) := ⟨k.toNat, by omega⟩
  have u2' : decide (ol ≤ k) = false := decide_eq_false (by omega)
  have hlen := Hlen.out
  obtain ⟨v, hv⟩ : ∃ v, o.2.2[k]? = some v := ⟨_, List.getElem?_eq_getElem (by omega)⟩
  obtain ⟨f, hf⟩ : ∃ f, (fldsG g.1 o.2.1)[k]? = some f := ⟨_, List.getElem?_eq_getElem (by omega)⟩
  obtain ⟨pp, hp1, -, -, -, hp5, hp6, hp7⟩ := Hvk.out k f v hf hv
  rw [Hhp.out] at hp1
  injection hp1 with hp1
  subst hp1
  replace hp5 : lv[k]? = _ := hp5
  obtain ⟨bv, offv, sv, rfl, hbv, v0, v1, v2, hsv, -, -, hvb⟩ := val_at Hov.out hv
  obtain ⟨bz, offz, sz, rfl, hbz, z0, z1, z2, hsz, -, -, hzb⟩ := val_at Hpv.out hp5
  obtain ⟨bf, offf, sx, tx, rfl, hbf, -, m1, -, -, -, -, -, -⟩ := fld_at Hfs.out hf
  have hkl : (k : Int) < (ol : Int) := by omega
  have hkf : (k : Int) < (fl : Int) := by omega
  have hk00 : (0 : Int) ≤ (k : Int) := by omega
  have HV := Lib.hid (fun (W : World) (hW : Below w6.heap.size w6 W) => And.intro ((hW.cell (p := ⟨bv, offv + k * 3, none⟩) hbv).trans v0) (And.intro ((hW.cell (p := ⟨bv, offv + k * 3 + 1, none⟩) hbv).trans v1) (And.intro ((hW.cell (p := ⟨bv, offv + k * 3 + 2, none⟩) hbv).trans v2)
    (And.intro ((hW.cell (p := ⟨bz, offz + k * 3, none⟩) hbz).trans z0) (And.intro ((hW.cell (p := ⟨bz, offz + k * 3 + 1, none⟩) hbz).trans z1) (And.intro ((hW.cell (p := ⟨bz, offz + k * 3 + 2, none⟩) hbz).trans z2) ((hW.cell (p := ⟨bf, offf + k * 3 + 1, none⟩) hbf).trans m1)))))))
  have hsz' : sz = sv := byt_inj (by rw [hsz, hsv]; split <;> rfl)
  subst hsz'
  clear hsz v0 v1 v2 z0 z1 z2 m1 hp5 hv hf Hvk Hhp hlvd hbz hbf hbv Hov Hpv Hfs hzb
  obtain ⟨v0, v1, v2, z0, z1, z2, m1⟩ := HV.out _ Hg2.out
  obtain ⟨vn, vs, vr⟩ := v
  obtain ⟨fa, fk, fb⟩ := f
  simp only at *
  have hcase : (fk ≠ 5 ∧ (if fk = 5 then (vn, vs, atL (ordG g) vr) else (vn, vs, vr) : Vl) = (vn, vs, vr)) ∨ (fk = 5 ∧ vr < 0 ∧ (if fk = 5 then (vn, vs, atL (ordG g) vr) else (vn, vs, vr) : Vl) = (vn, vs, vr)) ∨
      (∃ j : Nat, fk = 5 ∧ 0 ≤ vr ∧ (ordG g)[j]? = some vr ∧ (if fk = 5 then (vn, vs, atL (ordG g) vr) else (vn, vs, vr) : Vl) = (vn, vs, (j : Int))) := by
    by_cases h5 : fk = 5
    · right
      by_cases h0 : vr < 0
      · exact .inl ⟨h5, h0, by rw [if_pos h5, hp7 h5 h0]⟩
      · obtain ⟨j, e1, e2⟩ := hp6 h5 (by omega)
        exact .inr ⟨j, h5, by omega, e2, by rw [if_pos h5, e1]⟩
    · exact .inl ⟨h5, by rw [if_neg h5]⟩
  generalize (if fk = 5 then (vn, vs, atL (ordG g) vr) else (vn, vs, vr) : Vl) = z at *
  clear hp6 hp7
  rcases hcase with ⟨h5, rfl⟩ | ⟨h5, h0, rfl⟩ | ⟨j, h5, h0, hj, rfl⟩
  · have hk5 : (fk != 5) = true := by simpa using h5
    clear h5
    obtain ⟨r1, r2⟩ := blk_two wd 42 42 [.int .i64 vn, .string sz, .int .i64 vr] [.int .i64 vn, .string sz, .int .i64 vr]
    have hB2 : Below wd.heap.size wd ((wd.alloc (.cells #[.int .i64 vn, .string sz, .int .i64 vr] 42)).alloc (.cells #[.int .i64 vn, .string sz, .int .i64 vr] 42)) := ((Below.refl _ wd).alloc (Nat.le_refl _) _).alloc (by simp) _
    have hDw := Hg2.out.trans (hB2.mono Hg2.out.size)
    have HW := Lib.hid (fun (W : World) (hW : Below ((wd.alloc (.cells #[.int .i64 vn, .string sz, .int .i64 vr] 42)).alloc (.cells #[.int .i64 vn, .string sz, .int .i64 vr] 42)).heap.size ((wd.alloc (.cells #[.int .i64 vn, .string sz, .int .i64 vr] 42)).alloc (.cells #[.int .i64 vn, .string sz, .int .i64 vr] 42)) W) => And.intro (hDw.trans (hW.mono hDw.size)) (And.intro (r1.to hW) (r2.to hW)))
    have Hsz : Hid (((wd.alloc (.cells #[.int .i64 vn, .string sz, .int .i64 vr] 42)).alloc (.cells #[.int .i64 vn, .string sz, .int .i64 vr] 42)).heap.size = wd.heap.size + 1 + 1) := Lib.hid (by simp)
    have hB1 := Hg2.out.alloc Hg2.out.size (.cells #[.int .i64 vn, .string sz, .int .i64 vr] 42)
    obtain ⟨a0', a1', a2', a3', a4', a5', a6', a7', a8', a9'⟩ := HS.out _ hB1
    obtain ⟨v0', v1', v2', z0', z1', z2', m1'⟩ := HV.out _ hB1
    clear hB2 hDw r1 r2 hB1
    go_wp2
    generalize (wd.alloc (.cells #[.int .i64 vn, .string sz, .int .i64 vr] 42)).alloc (.cells #[.int .i64 vn, .string sz, .int .i64 vr] 42) = wq at *
    clear a0' a1' a2' a3' a4' a5' a6' a7' a8' a9' v0' v1' v2' z0' z1' z2' m1'
    refine sch_start [(0, true), (1, true), (2, true), (3, true), (4, true), (5, true), (6, true), (7, true), (8, true), (9, true), (10, true), (11, true), (12, true), (13, true), (14, true), (15, true), (16, true), (17, true), (18, true), (19, true), (20, true), (21, true)] (fun W => Below wq.heap.size wq W) (by kernel_rfl) rfl (by kernel_rfl) (fun _ _ _ _ _ h => h) ((Below.refl _ wq).drew) (fun hH => ?_)
    repeat (first | (refine sch_yes (v := ?_) rfl rfl ?_ hH ?_; rotate_left; (focus ((intro W hW; obtain ⟨hW0, r1, r2⟩ := HW.out W hW; obtain ⟨a0, a1, a2, a3, a4, a5, a6, a7, a8, a9⟩ := HS.out W hW0; obtain ⟨v0, v1, v2, z0, z1, z2, m1⟩ := HV.out W hW0; have b0 := r1.cell (j := 0) rfl; have b1 := r1.cell (j := 1) rfl; have b2 := r1.cell (j := 2) rfl; have d0 := r2.cell (j := 0) rfl; have d1 := r2.cell (j := 1) rfl; have d2 := r2.cell (j := 2) rfl; go_simp) <;> with_reducible rfl)); simp only [Act.put, List.setIfInBounds_toArray, List.set_cons_zero, List.set_cons_succ]) | (refine sch_no rfl rfl hH ?_; simp only [Act.put, List.setIfInBounds_toArray, List.set_cons_zero, List.set_cons_succ]))
    refine sch_done ?_
    have hq : ∀ W, (binOp .eql 42 (.agg #[.int .i64 vn, .string sz, .int .i64 vr]) (.agg #[.int .i64 vn, .string sz, .int .i64 vr])).run Try.prog W = .ok (.bool true) W := fun W => by rw [vl_eql]; simp
    have hgd := sval_guard
    obtain ⟨-, r1, r2⟩ := HW.out _ hH
    have b0 := r1.cell (j := 0) rfl
    have b1 := r1.cell (j := 1) rfl
    have b2 := r1.cell (j := 2) rfl
    have d0 := r2.cell (j := 0) rfl
    have d1 := r2.cell (j := 1) rfl
    have d2 := r2.cell (j := 2) rfl
    clear r1 r2
    go_wp2
    go_ret
    exact ⟨rfl, H6.out.trans ((HW.out _ hH).1.mono H6.out.size)⟩
  · subst h5
    have h0' : decide (vr < 0) = true := decide_eq_true h0
    clear h0
    obtain ⟨r1, r2⟩ := blk_two wd 42 42 [.int .i64 vn, .string sz, .int .i64 vr] [.int .i64 vn, .string sz, .int .i64 vr]
    have hB2 : Below wd.heap.size wd ((wd.alloc (.cells #[.int .i64 vn, .string sz, .int .i64 vr] 42)).alloc (.cells #[.int .i64 vn, .string sz, .int .i64 vr] 42)) := ((Below.refl _ wd).alloc (Nat.le_refl _) _).alloc (by simp) _
    have hDw := Hg2.out.trans (hB2.mono Hg2.out.size)
    have HW := Lib.hid (fun (W : World) (hW : Below ((wd.alloc (.cells #[.int .i64 vn, .string sz, .int .i64 vr] 42)).alloc (.cells #[.int .i64 vn, .string sz, .int .i64 vr] 42)).heap.size ((wd.alloc (.cells #[.int .i64 vn, .string sz, .int .i64 vr] 42)).alloc (.cells #[.int .i64 vn, .string sz, .int .i64 vr] 42)) W) => And.intro (hDw.trans (hW.mono hDw.size)) (And.intro (r1.to hW) (r2.to hW)))
    have Hsz : Hid (((wd.alloc (.cells #[.int .i64 vn, .string sz, .int .i64 vr] 42)).alloc (.cells #[.int .i64 vn, .string sz, .int .i64 vr] 42)).heap.size = wd.heap.size + 1 + 1) := Lib.hid (by simp)
    have hB1 := Hg2.out.alloc Hg2.out.size (.cells #[.int .i64 vn, .string sz, .int .i64 vr] 42)
    obtain ⟨a0', a1', a2', a3', a4', a5', a6', a7', a8', a9'⟩ := HS.out _ hB1
    obtain ⟨v0', v1', v2', z0', z1', z2', m1'⟩ := HV.out _ hB1
    clear hB2 hDw r1 r2 hB1
    go_wp2
    generalize (wd.alloc (.cells #[.int .i64 vn, .string sz, .int .i64 vr] 42)).alloc (.cells #[.int .i64 vn, .string sz, .int .i64 vr] 42) = wq at *
    clear a0' a1' a2' a3' a4' a5' a6' a7' a8' a9' v0' v1' v2' z0' z1' z2' m1'
    refine sch_start [(0, true), (1, true), (2, true), (3, true), (4, true), (5, true), (6, true), (7, true), (8, true), (9, true), (10, true), (11, true), (12, true), (13, true), (14, true), (15, true), (16, true), (17, true), (18, true), (19, true), (20, true), (21, true)] (fun W => Below wq.heap.size wq W) (by kernel_rfl) rfl (by kernel_rfl) (fun _ _ _ _ _ h => h) ((Below.refl _ wq).drew) (fun hH => ?_)
    repeat (first | (refine sch_yes (v := ?_) rfl rfl ?_ hH ?_; rotate_left; (focus ((intro W hW; obtain ⟨hW0, r1, r2⟩ := HW.out W hW; obtain ⟨a0, a1, a2, a3, a4, a5, a6, a7, a8, a9⟩ := HS.out W hW0; obtain ⟨v0, v1, v2, z0, z1, z2, m1⟩ := HV.out W hW0; have b0 := r1.cell (j := 0) rfl; have b1 := r1.cell (j := 1) rfl; have b2 := r1.cell (j := 2) rfl; have d0 := r2.cell (j := 0) rfl; have d1 := r2.cell (j := 1) rfl; have d2 := r2.cell (j := 2) rfl; go_simp) <;> with_reducible rfl)); simp only [Act.put, List.setIfInBounds_toArray, List.set_cons_zero, List.set_cons_succ]) | (refine sch_no rfl rfl hH ?_; simp only [Act.put, List.setIfInBounds_toArray, List.set_cons_zero, List.set_cons_succ]))
    refine sch_done ?_
    have hq : ∀ W, (binOp .eql 42 (.agg #[.int .i64 vn, .string sz, .int .i64 vr]) (.agg #[.int .i64 vn, .string sz, .int .i64 vr])).run Try.prog W = .ok (.bool true) W := fun W => by rw [vl_eql]; simp
    have hgd := sval_guard
    obtain ⟨-, r1, r2⟩ := HW.out _ hH
    have b0 := r1.cell (j := 0) rfl
    have b1 := r1.cell (j := 1) rfl
    have b2 := r1.cell (j := 2) rfl
    have d0 := r2.cell (j := 0) rfl
    have d1 := r2.cell (j := 1) rfl
    have d2 := r2.cell (j := 2) rfl
    clear r1 r2
    go_wp2
    go_ret
    exact ⟨rfl, H6.out.trans ((HW.out _ hH).1.mono H6.out.size)⟩
  · subst h5
    have h0' : decide (vr < 0) = false := decide_eq_false (by omega)
    have hjL : j < L := by have := (List.getElem?_eq_some_iff.1 hj).1; omega
    have n1 : decide ((0 : Int) ≤ (j : Int)) = true := decide_eq_true (by omega)
    have n2 : decide ((j : Int) < (L : Int)) = true := decide_eq_true (by omega)
    have n2' : decide (j < L) = true := decide_eq_true (by omega)
    have n3 : (j : Int) < (L : Int) := by omega
    have n4 : (0 : Int) ≤ (j : Int) := by omega
    obtain ⟨b4', off4', e4, hb4', x4', -⟩ := id_at Hl.out hj
    injection e4 with e4
    injection e4 with e41 e42 _
    subst e41 e42
    have HX := Lib.hid (fun (W : World) (hW : Below w6.heap.size w6 W) => ((hW.cell (p := ⟨b4, off4 + j, none⟩) hb4').trans x4'))
    clear h0 hj hb4' x4'
    obtain ⟨r1, r2⟩ := blk_two wd 42 42 [.int .i64 vn, .string sz, .int .i64 vr] [.int .i64 vn, .string sz, .int .i64 (j : Int)]
    have hB2 : Below wd.heap.size wd ((wd.alloc (.cells #[.int .i64 vn, .string sz, .int .i64 vr] 42)).alloc (.cells #[.int .i64 vn, .string sz, .int .i64 (j : Int)] 42)) := ((Below.refl _ wd).alloc (Nat.le_refl _) _).alloc (by simp) _
    have hDw := Hg2.out.trans (hB2.mono Hg2.out.size)
    have HW := Lib.hid (fun (W : World) (hW : Below ((wd.alloc (.cells #[.int .i64 vn, .string sz, .int .i64 vr] 42)).alloc (.cells #[.int .i64 vn, .string sz, .int .i64 (j : Int)] 42)).heap.size ((wd.alloc (.cells #[.int .i64 vn, .string sz, .int .i64 vr] 42)).alloc (.cells #[.int .i64 vn, .string sz, .int .i64 (j : Int)] 42)) W) => And.intro (hDw.trans (hW.mono hDw.size)) (And.intro (r1.to hW) (r2.to hW)))
    have Hsz : Hid (((wd.alloc (.cells #[.int .i64 vn, .string sz, .int .i64 vr] 42)).alloc (.cells #[.int .i64 vn, .string sz, .int .i64 (j : Int)] 42)).heap.size = wd.heap.size + 1 + 1) := Lib.hid (by simp)
    have hB1 := Hg2.out.alloc Hg2.out.size (.cells #[.int .i64 vn, .string sz, .int .i64 vr] 42)
    obtain ⟨a0', a1', a2', a3', a4', a5', a6', a7', a8', a9'⟩ := HS.out _ hB1
    obtain ⟨v0', v1', v2', z0', z1', z2', m1'⟩ := HV.out _ hB1
    clear hB2 hDw r1 r2 hB1
    go_wp2
    generalize (wd.alloc (.cells #[.int .i64 vn, .string sz, .int .i64 vr] 42)).alloc (.cells #[.int .i64 vn, .string sz, .int .i64 (j : Int)] 42) = wq at *
    clear a0' a1' a2' a3' a4' a5' a6' a7' a8' a9' v0' v1' v2' z0' z1' z2' m1'
    refine sch_start [(0, true), (1, true), (2, true), (3, true), (4, true), (5, true), (6, true), (7, true), (8, true), (9, true), (10, true), (11, true), (12, true), (13, true), (14, true), (15, true), (16, true), (17, true), (18, true), (19, true), (20, true), (21, true)] (fun W => Below wq.heap.size wq W) (by kernel_rfl) rfl (by kernel_rfl) (fun _ _ _ _ _ h => h) ((Below.refl _ wq).drew) (fun hH => ?_)
    repeat (first | (refine sch_yes (v := ?_) rfl rfl ?_ hH ?_; rotate_left; (focus ((intro W hW; obtain ⟨hW0, r1, r2⟩ := HW.out W hW; obtain ⟨a0, a1, a2, a3, a4, a5, a6, a7, a8, a9⟩ := HS.out W hW0; obtain ⟨v0, v1, v2, z0, z1, z2, m1⟩ := HV.out W hW0; have b0 := r1.cell (j := 0) rfl; have b1 := r1.cell (j := 1) rfl; have b2 := r1.cell (j := 2) rfl; have d0 := r2.cell (j := 0) rfl; have d1 := r2.cell (j := 1) rfl; have d2 := r2.cell (j := 2) rfl; go_simp) <;> with_reducible rfl)); simp only [Act.put, List.setIfInBounds_toArray, List.set_cons_zero, List.set_cons_succ]) | (refine sch_no rfl rfl hH ?_; simp only [Act.put, List.setIfInBounds_toArray, List.set_cons_zero, List.set_cons_succ]))
    refine sch_done ?_
    have Hq := Lib.hid hH
    clear hH
    generalize wq.drew = wq2 at *
    go_wp2
    refine sch_start [(0, true), (1, true), (2, true), (3, true), (4, true), (5, true), (6, true), (7, true), (8, true), (9, true), (10, true), (11, true), (12, true), (13, true), (14, true), (15, true), (16, true), (17, true), (18, true), (19, true), (20, true)] (fun W => Below wq.heap.size wq W) (by kernel_rfl) rfl (by kernel_rfl) (fun _ _ _ _ _ h => h) (Hq.out.drew) (fun hH => ?_)
    repeat (first | (refine sch_yes (v := ?_) rfl rfl ?_ hH ?_; rotate_left; (focus ((intro W hW; obtain ⟨hW0, r1, r2⟩ := HW.out W hW; have xx := HX.out W hW0; have b2 := r1.cell (j := 2) rfl; have d2 := r2.cell (j := 2) rfl; go_simp) <;> with_reducible rfl)); simp only [Act.put, List.setIfInBounds_toArray, List.set_cons_zero, List.set_cons_succ]) | (refine sch_no rfl rfl hH ?_; simp only [Act.put, List.setIfInBounds_toArray, List.set_cons_zero, List.set_cons_succ]))
    refine sch_done ?_
    go_wp2
    go_ret
    exact ⟨rfl, H6.out.trans ((HW.out _ hH).1.mono H6.out.size)⟩
end Go.Proofs.Yteafbdebmhpffaa
