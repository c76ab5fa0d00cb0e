/- CanonOnce: a Canon may be, is its own, has all objects that are come to, just these, by Ids from 0 on; a graph is alike it. No condition. -/
import Derived.Test.YteafbdebmhpffaaCaAwake
import Derived.Test.YteafbdebmhpffaaGrFew
namespace Go.Proofs.Yteafbdebmhpffaa
open Go.RowKit

theorem ord_reach {g : Gr} (hm : mayG g = true) {x : Int} (hx : x ∈ ordG g) : x ∈ reachG g := (reach_mem hm).2 ⟨(ordG_mem hm).1 hx, come_is hm ((ordG_mem hm).1 hx)⟩
theorem canon_reach {g : Gr} (hm : mayG g = true) : (reachG (canonG g)).length = (ordG g).length := by
  rw [← ordG_len (canon_may hm), ← canon_len (canon_may hm), canon_twice hm, canon_len hm]

set_option maxRecDepth 100000 in
set_option maxHeartbeats 8000000 in
theorem canonOnce_walk (w : World) (cs : Array Value) (g : Gr) (h : rGr (All w) w cs.toList g) :
    Calls Try.prog 4 #[.agg cs] w fun e w' => e = .returned (.bool true) ∧ Below w.heap.size w w' := by
  obtain ⟨A, c, B, d, C, e, rfl, h⟩ := gr_arg h
  have hB0 : Below w.heap.size w (w.alloc (.cells #[.slice A g.1.length c, .slice B g.2.1.length d, .slice C g.2.2.length e] 28)) := (Below.refl _ w).alloc (Nat.le_refl _) _
  have p1 := Blk.new w 28 [.slice A g.1.length c, .slice B g.2.1.length d, .slice C g.2.2.length e]
  have TF := Lib.hid (fun W (hW : Below w.heap.size w W) => gfew_any A B C g.1.length c g.2.1.length d g.2.2.length e g W (gr_below hW h))
  have TM := Lib.hid (fun W (hW : Below w.heap.size w W) => gmay_any A B C g.1.length c g.2.1.length d g.2.2.length e g W (gr_below hW h))
  have TO := Lib.hid (fun W (hW : Below w.heap.size w W) => order_any A B C g.1.length c g.2.1.length d g.2.2.length e g W (gr_below hW h))
  have TC := Lib.hid (fun W (hW : Below w.heap.size w W) => canon_any A B C g.1.length c g.2.1.length d g.2.2.length e g W (gr_below hW h))
  have TR := Lib.hid (fun W (hW : Below w.heap.size w W) => greach_any A B C g.1.length c g.2.1.length d g.2.2.length e g W (gr_below hW h))
  have Hg0 := Lib.hid (fun W (hW : Below w.heap.size w W) => gr_below hW h)
  clear h
  have H0 := Lib.hid hB0
  clear hB0
  generalize fewG g = few at *
  go_enter Try.func4, Try.ntmps4
  go_wp2_with fail
  refine (cawake_any _).mono ?_
  rintro e w1 ⟨rfl, hB1⟩
  have H1 := Lib.hid (H0.out.trans (hB1.mono H0.out.size))
  replace p1 := p1.to hB1
  clear hB1 H0 
  have c0 := p1.cell (j := 0) rfl
  have c1 := p1.cell (j := 1) rfl
  have c2 := p1.cell (j := 2) rfl
  go_wp2_with fail
  refine (TF.out _ H1.out).mono ?_
  rintro e w2 ⟨rfl, hB2⟩
  have H2 := Lib.hid (H1.out.trans (hB2.mono H1.out.size))
  replace p1 := p1.to hB2
  clear hB2 H1 c0 c1 c2 TF
  cases few
  · go_wp2
    go_ret
    exact ⟨rfl, H2.out⟩
  have c0 := p1.cell (j := 0) rfl
  have c1 := p1.cell (j := 1) rfl
  have c2 := p1.cell (j := 2) rfl
  go_wp2_with fail
  refine (TM.out _ H2.out).mono ?_
  rintro e w3 ⟨rfl, hB3⟩
  have H3 := Lib.hid (H2.out.trans (hB3.mono H2.out.size))
  replace p1 := p1.to hB3
  clear hB3 H2 c0 c1 c2 TM
  by_cases hm : mayG g = true
  rotate_left
  · replace hm : mayG g = false := by simpa using hm
    rw [hm]
    go_wp2
    go_ret
    exact ⟨rfl, H3.out⟩
  rw [hm]
  have hck : (canonG g).2.1.length = (ordG g).length := canon_len hm
  rw [hck] at TC
  have hrk : (reachG g).length = (ordG g).length := (ordG_len hm).symm
  rw [hrk] at TR
  have c0 := p1.cell (j := 0) rfl
  have c1 := p1.cell (j := 1) rfl
  have c2 := p1.cell (j := 2) rfl
  go_wp2_with fail
  refine (TC.out _ H3.out).mono ?_
  rintro e w4 ⟨A4, c4, B4, d4, C4, e4, rfl, h4, hB4⟩
  have hB5 : Below w4.heap.size w4 (w4.alloc (.cells #[.slice A4 (canonG g).1.length c4, .slice B4 (ordG g).length d4, .slice C4 (canonG g).2.2.length e4] 28)) := (Below.refl _ w4).alloc (Nat.le_refl _) _
  have hB45 := hB4.trans (hB5.mono hB4.size)
  have p5 := Blk.new w4 28 [.slice A4 (canonG g).1.length c4, .slice B4 (ordG g).length d4, .slice C4 (canonG g).2.2.length e4]
  have H5 := Lib.hid (H3.out.trans (hB45.mono H3.out.size))
  replace p1 := p1.to hB45
  have h5 := gr_below hB5 h4
  clear c0 c1 c2 TC H3 hB4 hB5 hB45 h4
  have c0 := p1.cell (j := 0) rfl
  have c1 := p1.cell (j := 1) rfl
  have c2 := p1.cell (j := 2) rfl
  go_wp2_with fail
  generalize w4.alloc (.cells #[.slice A4 (canonG g).1.length c4, .slice B4 (ordG g).length d4, .slice C4 (canonG g).2.2.length e4] 28) = w5 at *
  refine (TO.out _ H5.out).mono ?_
  rintro e w6 ⟨A6, c6, rfl, h6, hB6⟩
  have H6 := Lib.hid (H5.out.trans (hB6.mono H5.out.size))
  replace p1 := p1.to hB6
  replace p5 := p5.to hB6
  replace h5 := gr_below hB6 h5
  replace h6 := rIds_stays.to (S' := All w6) (w' := w6) (Keeps.mono fun b hb => hb.2) h6
  clear c0 c1 c2 TO H5 hB6
  have c0 := p1.cell (j := 0) rfl
  have c1 := p1.cell (j := 1) rfl
  have c2 := p1.cell (j := 2) rfl
  go_wp2_with fail
  refine (TR.out _ H6.out).mono ?_
  rintro e w7 ⟨A7, c7, rfl, h7, hwf, hB7⟩
  have H7 := Lib.hid (H6.out.trans (hB7.mono H6.out.size))
  replace p1 := p1.to hB7
  replace p5 := p5.to hB7
  have Hc := Lib.hid (gr_below hB7 h5)
  have Hl := Lib.hid (ids_below hB7 h6)
  have Hr : Hid (rIds (All w7) w7 [.slice A7 (ordG g).length c7] (reachG g)) := Lib.hid (rIds_stays.to (S' := All w7) (w' := w7) (Keeps.mono fun b hb => hb.2) (ids_own h7 hrk hwf))
  have hL8 := ordG_few hm
  have TS1 := Lib.hid (fun W (hW : Below w7.heap.size w7 W) => gmay_any A4 B4 C4 (canonG g).1.length c4 (ordG g).length d4 (canonG g).2.2.length e4 (canonG g) W (gr_below hW Hc.out))
  have TS2 := Lib.hid (fun W (hW : Below w7.heap.size w7 W) => canon_any A4 B4 C4 (canonG g).1.length c4 (ordG g).length d4 (canonG g).2.2.length e4 (canonG g) W (gr_below hW Hc.out))
  have TS3 := Lib.hid (fun A1 B1 C1 c1 d1 e1 W (hW : Below w7.heap.size w7 W) h => gsame_any A1 B1 C1 (canonG g).1.length c1 (ordG g).length d1 (canonG g).2.2.length e1 A4 B4 C4 (canonG g).1.length c4 (ordG g).length d4 (canonG g).2.2.length e4 (canonG g) (canonG g) W h (gr_below hW Hc.out))
  have TS4 := Lib.hid (fun W (hW : Below w7.heap.size w7 W) => iso_any A B C g.1.length c g.2.1.length d g.2.2.length e A4 B4 C4 (canonG g).1.length c4 (ordG g).length d4 (canonG g).2.2.length e4 g (canonG g) W (Hg0.out W (H7.out.trans (hW.mono H7.out.size))) (gr_below hW Hc.out))
  have TS5 := Lib.hid (fun W (hW : Below w7.heap.size w7 W) => greach_any A4 B4 C4 (canonG g).1.length c4 (ordG g).length d4 (canonG g).2.2.length e4 (canonG g) W (gr_below hW Hc.out))
  rw [canon_may hm] at TS1
  rw [canon_twice hm, hck] at TS2
  rw [decide_eq_true rfl] at TS3
  rw [iso_canon hm] at TS4
  rw [canon_reach hm] at TS5
  have Hmem := Lib.hid (fun x hx => ord_reach (x := x) hm hx)
  have Hid0 := Lib.hid (fun i x hx => canon_at (i := i) (x := x) hm hx)
  clear h5 h6 h7 hB7 H6 c0 c1 c2 TR Hg0 hwf hrk
  generalize g.1.length = N at *
  generalize g.2.1.length = M at *
  generalize g.2.2.length = K at *
  generalize (canonG g).1.length = N5 at *
  generalize (canonG g).2.2.length = K5 at *
  generalize hL : (ordG g).length = L at *
  have k1 := p5.cell (j := 1) rfl
  go_wp2
  go_loopw [8] (fun iv w' => ∃ i : Nat, i ≤ L ∧ iv = .int .i64 (i : Int) ∧ w' = w7) (fun iv _ => L - (intOf iv).toNat)
  case atStart => exact ⟨0, by omega, rfl, rfl⟩
  case round =>
    obtain ⟨i, hi, rfl, hw⟩ := hrel
    replace hw := hw.symm
    subst hw
    by_cases hin : i < L
    · obtain ⟨x, hx⟩ : ∃ x, (ordG g)[i]? = some x := ⟨_, List.getElem?_eq_getElem (by omega)⟩
      obtain ⟨b, off, rfl, hb, x1, xb⟩ := id_at Hl.out hx
      have hil : (i : Int) < (L : Int) := by omega
      have hi0 : (0 : Int) ≤ (i : Int) := by omega
      have T1 := Lib.hid (rhas_any A7 L c7 (reachG g) x _ Hr.out)
      rw [decide_eq_true (Hmem.out x (List.mem_of_getElem? hx))] at T1
      clear hx
      go_wp2_with fail
      refine T1.out.mono ?_
      rintro e wz ⟨rfl, hwz⟩
      replace hwz := hwz.symm
      subst hwz
      go_wp2
      go_roundw
      case rel => exact ⟨i + 1, by omega, by go_num, by trivial⟩
      case measure => simp [intOf]; omega
    · have hiL : ¬ ((i : Int) < (L : Int)) := by omega
      go_wp2
      go_loopw [10] (fun iv w' => ∃ i : Nat, i ≤ L ∧ iv = .int .i64 (i : Int) ∧ w' = w7) (fun iv _ => L - (intOf iv).toNat)
      case atStart => exact ⟨0, by omega, rfl, rfl⟩
      case round =>
        obtain ⟨j, hj, rfl, hw⟩ := hrel
        replace hw := hw.symm
        subst hw
        by_cases hjn : j < L
        · obtain ⟨x, hx⟩ : ∃ x, (ordG g)[j]? = some x := ⟨_, List.getElem?_eq_getElem (by omega)⟩
          have hp := Hid0.out j x hx
          obtain ⟨b, off, A9, c9, rfl, hb, x0, -, -, -, -, -⟩ := ob_at (rGr_open Hc.out).2.1 hp
          simp only [canO] at x0
          have hjl : (j : Int) < (L : Int) := by omega
          have hj0 : (0 : Int) ≤ (j : Int) := by omega
          clear hx hp
          go_wp2
          go_roundw
          case rel => exact ⟨j + 1, by omega, by go_num, by trivial⟩
          case measure => simp [intOf]; omega
        · have hjL : ¬ ((j : Int) < (L : Int)) := by omega
          have l1 := p1.lt
          have l5 := p5.lt
          have HS := Lib.hid (fun (W : World) (hW : Below w7.heap.size w7 W) => And.intro ((hW.cell (p := ⟨w.heap.size, 0, none⟩) l1).trans (p1.cell (j := 0) rfl)) (And.intro ((hW.cell (p := ⟨w.heap.size, 1, none⟩) l1).trans (p1.cell (j := 1) rfl)) (And.intro ((hW.cell (p := ⟨w.heap.size, 2, none⟩) l1).trans (p1.cell (j := 2) rfl))
            (And.intro ((hW.cell (p := ⟨w4.heap.size, 0, none⟩) l5).trans (p5.cell (j := 0) rfl)) (And.intro ((hW.cell (p := ⟨w4.heap.size, 1, none⟩) l5).trans (p5.cell (j := 1) rfl)) ((hW.cell (p := ⟨w4.heap.size, 2, none⟩) l5).trans (p5.cell (j := 2) rfl)))))))
          have P1 := Lib.hid p1
          have P5 := Lib.hid p5
          clear p1 p5
          go_wp2
          clear k1
          refine sch_start [(0, true), (1, false), (2, true), (3, true), (5, true), (4, false), (6, false), (7, true), (8, true), (9, true), (10, true), (11, true), (12, true), (13, true), (14, true), (15, true), (16, true), (17, true), (18, true), (19, true), (20, true), (21, true), (22, true), (23, true), (24, true), (25, true), (26, false), (27, true), (28, true), (29, true), (32, true), (33, true), (34, true), (30, false), (31, true), (35, true), (36, true), (37, true)] (fun W => Below w7.heap.size w7 W) (by kernel_rfl) rfl (by kernel_rfl) (fun _ _ _ _ _ h => h) ((Below.refl _ w7).drew) (fun hH => ?_)
          repeat (first | (refine sch_yes (v := ?_) rfl rfl ?_ hH ?_; rotate_left; (focus ((intro W hW; obtain ⟨a0, a1, a2, a3, a4, a5⟩ := HS.out W hW; go_simp) <;> with_reducible rfl)); simp only [Act.put, List.setIfInBounds_toArray, List.set_cons_zero, List.set_cons_succ]) | (refine sch_no rfl rfl hH ?_; simp only [Act.put, List.setIfInBounds_toArray, List.set_cons_zero, List.set_cons_succ]))
          refine sch_call rfl rfl (fun K' hK => ?_)
          go_wp2_with (go_at_call 20; refine (TS1.out _ hH).mono ?_; rintro e wa ⟨rfl, hB⟩)
          have hD := hH.trans (hB.mono hH.size)
          refine hK.out _ _ hD ?_
          clear hK hH
          have hH := hD
          clear hD hB
          repeat (first | (refine sch_yes (v := ?_) rfl rfl ?_ hH ?_; rotate_left; (focus ((intro W hW; obtain ⟨a0, a1, a2, a3, a4, a5⟩ := HS.out W hW; go_simp) <;> with_reducible rfl)); simp only [Act.put, List.setIfInBounds_toArray, List.set_cons_zero, List.set_cons_succ]) | (refine sch_no rfl rfl hH ?_; simp only [Act.put, List.setIfInBounds_toArray, List.set_cons_zero, List.set_cons_succ]))
          refine sch_call rfl rfl (fun K' hK => ?_)
          go_wp2_with (go_at_call 16; refine (TS2.out _ hH).mono ?_; rintro e wb ⟨Aq, cq, Bq, dq, Cq, eq, rfl, hq, hB⟩)
          have hD := hH.trans (hB.mono hH.size)
          have TQ := Lib.hid (TS3.out Aq Bq Cq cq dq eq wb hD hq)
          clear hq
          refine hK.out _ _ hD ?_
          clear hK hH
          have hH := hD
          clear hD hB
          repeat (first | (refine sch_yes (v := ?_) rfl rfl ?_ hH ?_; rotate_left; (focus ((intro W hW; obtain ⟨a0, a1, a2, a3, a4, a5⟩ := HS.out W hW; go_simp) <;> with_reducible rfl)); simp only [Act.put, List.setIfInBounds_toArray, List.set_cons_zero, List.set_cons_succ]) | (refine sch_no rfl rfl hH ?_; simp only [Act.put, List.setIfInBounds_toArray, List.set_cons_zero, List.set_cons_succ]))
          refine sch_call rfl rfl (fun K' hK => ?_)
          go_wp2_with (go_at_call 23; refine (TQ.out).mono ?_; rintro e wd ⟨rfl, hB⟩)
          have hD := hH.trans (hB.mono hH.size)
          clear TQ
          refine hK.out _ _ hD ?_
          clear hK hH
          have hH := hD
          clear hD hB
          repeat (first | (refine sch_yes (v := ?_) rfl rfl ?_ hH ?_; rotate_left; (focus ((intro W hW; obtain ⟨a0, a1, a2, a3, a4, a5⟩ := HS.out W hW; go_simp) <;> with_reducible rfl)); simp only [Act.put, List.setIfInBounds_toArray, List.set_cons_zero, List.set_cons_succ]) | (refine sch_no rfl rfl hH ?_; simp only [Act.put, List.setIfInBounds_toArray, List.set_cons_zero, List.set_cons_succ]))
          refine sch_call rfl rfl (fun K' hK => ?_)
          go_wp2_with (go_at_call 19; refine (TS4.out _ hH).mono ?_; rintro e we ⟨rfl, hB⟩)
          have hD := hH.trans (hB.mono hH.size)
          refine hK.out _ _ hD ?_
          clear hK hH
          have hH := hD
          clear hD hB
          repeat (first | (refine sch_yes (v := ?_) rfl rfl ?_ hH ?_; rotate_left; (focus ((intro W hW; obtain ⟨a0, a1, a2, a3, a4, a5⟩ := HS.out W hW; go_simp) <;> with_reducible rfl)); simp only [Act.put, List.setIfInBounds_toArray, List.set_cons_zero, List.set_cons_succ]) | (refine sch_no rfl rfl hH ?_; simp only [Act.put, List.setIfInBounds_toArray, List.set_cons_zero, List.set_cons_succ]))
          refine sch_call rfl rfl (fun K' hK => ?_)
          go_wp2_with (go_at_call 21; refine (TS5.out _ hH).mono ?_; rintro e wf ⟨Az, cz, rfl, -, -, hB⟩)
          have hD := hH.trans (hB.mono hH.size)
          refine hK.out _ _ hD ?_
          clear hK hH
          have hH := hD
          clear hD hB
          repeat (first | (refine sch_yes (v := ?_) rfl rfl ?_ hH ?_; rotate_left; (focus ((intro W hW; obtain ⟨a0, a1, a2, a3, a4, a5⟩ := HS.out W hW; go_simp) <;> with_reducible rfl)); simp only [Act.put, List.setIfInBounds_toArray, List.set_cons_zero, List.set_cons_succ]) | (refine sch_no rfl rfl hH ?_; simp only [Act.put, List.setIfInBounds_toArray, List.set_cons_zero, List.set_cons_succ]))
          refine sch_done ?_
          go_wp2
          go_ret
          exact ⟨rfl, H7.out.trans (hH.mono H7.out.size)⟩
end Go.Proofs.Yteafbdebmhpffaa
