/- CodeBack: what is put is read as the Canon; what is read is its own Canon, and put as the same bytes. Conditions: the table of kinds' texts, and the variable errors.errorType, are laid. -/
import Derived.Test.YtnmgdaaddfdffaaGreatDoorCoAwake
import Derived.Test.YtnmgdaaddfdffaaGreatDoorGCanon
namespace Go.Proofs.YtnmgdaaddfdffaaGreatDoor
open Go.RowKit

theorem conv_bs2 (A : Option Addr) (m c : Nat) (bs : List Nat) (w : World) (hm : m = bs.length) (hr : Rd w A (u8s bs)) : (convert 29 9 (.slice A m c)).run Tryz.prog w = .ok (.string (strB bs)) w :=
  conv_str w _ _ _ Tryz.underlying29 Tryz.underlying5 Tryz.underlying9 A bs m c hm.symm hr
theorem canon_iso {g : Gr} (hm : mayG g = true) : isoG (canonG g) g = true := by
  rw [isoG, canon_may hm, hm, canon_twice hm]
  simp

/-- The second half: bytes that are read are put as they were. -/
theorem codeG_cases {b : List Nat} (hb : ∀ x ∈ b, x < 256) : ((codeG b).2 ≠ 0 ∧ (codeG b).1 = ([], [], [])) ∨ ((codeG b).2 = 0 ∧ codeE (codeG b).1 = 0 ∧ codeB (codeG b).1 = b ∧ canonG (codeG b).1 = (codeG b).1) := by
  by_cases h : (codeG b).2 = 0
  · exact .inr ⟨h, codeG_back hb h⟩
  · exact .inl ⟨h, codeG_bad h⟩

set_option maxRecDepth 100000 in
set_option maxHeartbeats 4000000 in
theorem codeBack_walk (w : World) (hL : Kt w ∧ Han w) (cs : Array Value) (g : Gr) (h : rGr (All w) w cs.toList g) (P : Option Addr) (pc : Nat) (bs : List Nat) (hl : bs.length ≤ pc) (_hm : pc ≤ maxLen) (hb : ∀ x ∈ bs, x < 256) (hr : Rd w P (u8s bs)) :
    Calls Tryz.prog 4 #[.agg cs, .slice P bs.length pc] w fun e w' => e = .returned (.bool true) ∧ Below w.heap.size w w' := by
  obtain ⟨A, c, B, d, C, e, rfl, h⟩ := gr_arg h
  have hB0 : Below w.heap.size w (w.alloc (.cells #[.slice A g.1.length c, .slice B g.2.1.length d, .slice C g.2.2.length e] 28)) := (Below.refl _ w).alloc (Nat.le_refl _) _
  have p1 := Blk.new w 28 [.slice A g.1.length c, .slice B g.2.1.length d, .slice C g.2.2.length e]
  have TF := Lib.hid (fun W (hW : Below w.heap.size w W) => gfew_any A B C g.1.length c g.2.1.length d g.2.2.length e g W (gr_below hW h))
  have TM := Lib.hid (fun W (hW : Below w.heap.size w W) => gmay_any A B C g.1.length c g.2.1.length d g.2.2.length e g W (gr_below hW h))
  have TP := Lib.hid (fun W (hW : Below w.heap.size w W) => cput_any A B C g.1.length c g.2.1.length d g.2.2.length e g W (hL.1.below hW) (gr_below hW h))
  have TC := Lib.hid (fun W (hW : Below w.heap.size w W) => canon_any A B C g.1.length c g.2.1.length d g.2.2.length e g W (gr_below hW h))
  have HGr := Lib.hid (fun W (hW : Below w.heap.size w W) => gr_below hW h)
  have TB := Lib.hid (fun W (hn : bs.length ≤ 1500) (hW : Below w.heap.size w W) => cget_any P bs.length pc bs W (hL.1.below hW) (hL.2.below hW) rfl hl hb (hr.below hW) (by omega))
  have HK := Lib.hid (fun W (hW : Below w.heap.size w W) => hL.1.below hW)
  have HG := Lib.hid (fun W (hW : Below w.heap.size w W) => hL.2.below hW)
  have Hok := Lib.hid (gr_ok h)
  have Hcs := Lib.hid (codeG_cases hb)
  have Hcv := Lib.hid (fun W (hW : Below w.heap.size w W) => conv_bs2 P bs.length pc bs W rfl (hr.below hW))
  clear h hL hb hr hl _hm
  have H0 := Lib.hid hB0
  clear hB0
  generalize fewG g = few at *
  generalize g.1.length = N at *
  generalize g.2.1.length = M at *
  generalize g.2.2.length = K at *
  generalize hpn : bs.length = pn at *
  clear hpn
  go_enter Tryz.func4, Tryz.ntmps4
  go_wp2_with fail
  refine (codeawake_any _ (HK.out _ H0.out) (HG.out _ H0.out)).mono ?_
  rintro r w1 ⟨rfl, hB1⟩
  have H1 := Lib.hid (H0.out.trans (hB1.mono H0.out.size))
  replace p1 := p1.to hB1
  clear hB1 H0
  have c0 := p1.cell (j := 0) rfl
  have c1 := p1.cell (j := 1) rfl
  have c2 := p1.cell (j := 2) rfl
  go_wp2_with fail
  refine (TF.out _ H1.out).mono ?_
  rintro r w2 ⟨rfl, hB2⟩
  have H2 := Lib.hid (H1.out.trans (hB2.mono H1.out.size))
  replace p1 := p1.to hB2
  clear hB2 H1 c0 c1 c2 TF
  cases few
  · go_wp2
    go_ret
    exact ⟨rfl, H2.out⟩
  by_cases hlen : pn ≤ 1500
  rotate_left
  · have hl2 : decide (1500 < (pn : Int)) = true := decide_eq_true (by omega)
    have hl3 : (1500 : Int) < (pn : Int) := by omega
    clear hlen
    go_wp2
    go_ret
    exact ⟨rfl, H2.out⟩
  have hl3 : ¬ ((1500 : Int) < (pn : Int)) := by omega
  have TB2 := Lib.hid (fun W hW => TB.out W hlen hW)
  clear TB hlen
  have c0 := p1.cell (j := 0) rfl
  have c1 := p1.cell (j := 1) rfl
  have c2 := p1.cell (j := 2) rfl
  go_wp2_with fail
  refine (TP.out _ H2.out).mono ?_
  rintro r w3 ⟨B3, m3, cap3, rfl, hm3, hmc3, -, hr3, hB3⟩
  have H3 := Lib.hid (H2.out.trans (hB3.mono H2.out.size))
  replace p1 := p1.to hB3
  have T4 := Lib.hid (cget_any B3 m3 cap3 (codeB g) w3 (HK.out _ H3.out) (HG.out _ H3.out) hm3.symm hmc3 (codeB_byte Hok.out) hr3 (by have := codeB_len Hok.out; omega))
  clear hB3 H2 c0 c1 c2 TP hm3 hmc3 hr3
  go_wp2_with fail
  refine T4.out.mono ?_
  rintro r w4 ⟨A4, n4, c4, B4, q4, d4, C4, k4, e4, rfl, h4, hB4⟩
  have hB5 := hB4.alloc (o := .cells #[.slice A4 n4 c4, .slice B4 q4 d4, .slice C4 k4 e4] 28) hB4.size
  have p5 := Blk.new w4 28 [.slice A4 n4 c4, .slice B4 q4 d4, .slice C4 k4 e4]
  have H5 := Lib.hid (H3.out.trans (hB5.mono H3.out.size))
  have hX5 := gr_below ((Below.refl _ w4).alloc (Nat.le_refl _) (.cells #[.slice A4 n4 c4, .slice B4 q4 d4, .slice C4 k4 e4] 28)) h4
  replace p1 := p1.to hB5
  have P1 := Lib.hid p1
  have P5 := Lib.hid p5
  have HX5 := Lib.hid hX5
  clear hB4 hB5 H3 T4 h4 p1 p5 hX5
  go_upto_region 7 with fail
  generalize w4.alloc (.cells #[.slice A4 n4 c4, .slice B4 q4 d4, .slice C4 k4 e4] 28) = w5 at *
  have HSF := Lib.hid (fun W (hW : Below w5.heap.size w5 W) => And.intro ((P1.out.to hW).cell (j := 0) rfl) (And.intro ((P1.out.to hW).cell (j := 1) rfl) (And.intro ((P1.out.to hW).cell (j := 2) rfl) (And.intro ((P5.out.to hW).cell (j := 0) rfl) (And.intro ((P5.out.to hW).cell (j := 1) rfl) ((P5.out.to hW).cell (j := 2) rfl))))))
  generalize hXg : (codeG (codeB g)).2 = X2 at *
  generalize hEg : codeE g = E9 at *
  have HX2 := Lib.hid hXg
  have HEg := Lib.hid hEg
  clear hXg hEg
  go_cut [65] (fun v65 wx => v65 = .bool false ∧ Hid (Below w5.heap.size w5 wx))
  case first =>
    by_cases he9 : E9 = 0
    · have he : codeE g = 0 := HEg.out.trans he9
      have hm := codeE_may he
      have hget := code_get Hok.out he
      have q1 : (E9 == 0) = true := by simpa using he9
      have q2 : (E9 == 1) = false := by rw [he9]; rfl
      have q3 : (X2 != 0) = false := by rw [← HX2.out, hget]; rfl
      have HX := Lib.hid (show rGr (All w5) w5 [.slice A4 n4 c4, .slice B4 q4 d4, .slice C4 k4 e4] (canonG g) by have := HX5.out; rwa [hget] at this)
      have TSm := Lib.hid (fun Aq Bq Cq Nq cq Mq dq Kq eq W (hW : Below w5.heap.size w5 W) hq => gsame_any A4 B4 C4 n4 c4 q4 d4 k4 e4 Aq Bq Cq Nq cq Mq dq Kq eq (canonG g) (canonG g) W (gr_below hW HX.out) hq)
      rw [decide_eq_true rfl] at TSm
      have TIs := Lib.hid (fun W (hW : Below w5.heap.size w5 W) => iso_any A4 B4 C4 n4 c4 q4 d4 k4 e4 A B C N c M d K e (canonG g) g W (gr_below hW HX.out) (HGr.out W (H5.out.trans (hW.mono H5.out.size))))
      rw [canon_iso hm] at TIs
      have TMy := Lib.hid (fun W (hW : Below w5.heap.size w5 W) => TM.out W (H5.out.trans (hW.mono H5.out.size)))
      rw [hm] at TMy
      have TCa := Lib.hid (fun W (hW : Below w5.heap.size w5 W) => TC.out W (H5.out.trans (hW.mono H5.out.size)))
      clear he hm hget HX5 TM TC HX he9
      generalize (canonG g).1.length = N9 at *
      generalize (canonG g).2.1.length = M9 at *
      generalize (canonG g).2.2.length = K9 at *
      clear TB2 Hcs Hcv
      refine sch_start [(0, true), (1, true), (2, true), (3, true), (4, true), (5, true), (6, true), (7, true), (8, false), (9, false), (10, true), (11, true), (12, true), (13, true), (14, true), (15, false), (16, true), (17, true), (18, true), (19, true), (20, true), (21, true), (22, true), (23, false), (24, true), (25, true)] (fun W => Below w5.heap.size w5 W) (by kernel_rfl) rfl (by kernel_rfl) (fun _ _ _ _ _ h => h) ((Below.refl _ w5).drew) (fun hH => ?_)
      repeat (first | (refine sch_yes (v := ?_) rfl rfl ?_ hH ?_; rotate_left; (focus ((intro W hW; obtain ⟨a0, a1, a2, a3, a4, a5⟩ := HSF.out W hW; go_simp) <;> with_reducible rfl)); simp only [Act.put, List.setIfInBounds_toArray, List.set_cons_zero, List.set_cons_succ]) | (refine sch_no rfl rfl hH ?_; simp only [Act.put, List.setIfInBounds_toArray, List.set_cons_zero, List.set_cons_succ]))
      refine sch_call rfl rfl (fun K' hK => ?_)
      go_wp2_with (go_at_call 20; refine (TCa.out _ hH).mono ?_; rintro e wq ⟨Aq, cq, Bq, dq, Cq, eq, rfl, hq, hB⟩)
      have hD := hH.trans (hB.mono hH.size)
      have TQ := Lib.hid (TSm.out Aq Bq Cq _ cq _ dq _ eq wq hD hq)
      clear hq
      refine hK.out _ _ hD ?_
      clear hK hH hB
      have hH := hD
      clear hD
      repeat (first | (refine sch_yes (v := ?_) rfl rfl ?_ hH ?_; rotate_left; (focus ((intro W hW; obtain ⟨a0, a1, a2, a3, a4, a5⟩ := HSF.out W hW; go_simp) <;> with_reducible rfl)); simp only [Act.put, List.setIfInBounds_toArray, List.set_cons_zero, List.set_cons_succ]) | (refine sch_no rfl rfl hH ?_; simp only [Act.put, List.setIfInBounds_toArray, List.set_cons_zero, List.set_cons_succ]))
      refine sch_call rfl rfl (fun K' hK => ?_)
      go_wp2_with (go_at_call 19; refine (TQ.out).mono ?_; rintro e wr ⟨rfl, hB⟩)
      have hD := hH.trans (hB.mono hH.size)
      refine hK.out _ _ hD ?_
      clear hK hH hB
      have hH := hD
      clear hD
      repeat (first | (refine sch_yes (v := ?_) rfl rfl ?_ hH ?_; rotate_left; (focus ((intro W hW; obtain ⟨a0, a1, a2, a3, a4, a5⟩ := HSF.out W hW; go_simp) <;> with_reducible rfl)); simp only [Act.put, List.setIfInBounds_toArray, List.set_cons_zero, List.set_cons_succ]) | (refine sch_no rfl rfl hH ?_; simp only [Act.put, List.setIfInBounds_toArray, List.set_cons_zero, List.set_cons_succ]))
      refine sch_call rfl rfl (fun K' hK => ?_)
      go_wp2_with (go_at_call 21; refine (TIs.out _ hH).mono ?_; rintro e ws ⟨rfl, hB⟩)
      have hD := hH.trans (hB.mono hH.size)
      refine hK.out _ _ hD ?_
      clear hK hH hB
      have hH := hD
      clear hD
      repeat (first | (refine sch_yes (v := ?_) rfl rfl ?_ hH ?_; rotate_left; (focus ((intro W hW; obtain ⟨a0, a1, a2, a3, a4, a5⟩ := HSF.out W hW; go_simp) <;> with_reducible rfl)); simp only [Act.put, List.setIfInBounds_toArray, List.set_cons_zero, List.set_cons_succ]) | (refine sch_no rfl rfl hH ?_; simp only [Act.put, List.setIfInBounds_toArray, List.set_cons_zero, List.set_cons_succ]))
      refine sch_call rfl rfl (fun K' hK => ?_)
      go_wp2_with (go_at_call 22; refine (TMy.out _ hH).mono ?_; rintro e wt ⟨rfl, hB⟩)
      have hD := hH.trans (hB.mono hH.size)
      refine hK.out _ _ hD ?_
      clear hK hH hB
      have hH := hD
      clear hD
      repeat (first | (refine sch_yes (v := ?_) rfl rfl ?_ hH ?_; rotate_left; (focus ((intro W hW; obtain ⟨a0, a1, a2, a3, a4, a5⟩ := HSF.out W hW; go_simp) <;> with_reducible rfl)); simp only [Act.put, List.setIfInBounds_toArray, List.set_cons_zero, List.set_cons_succ]) | (refine sch_no rfl rfl hH ?_; simp only [Act.put, List.setIfInBounds_toArray, List.set_cons_zero, List.set_cons_succ]))
      refine sch_done ?_
      go_wp2
      go_meet
      case rel => exact ⟨rfl, Lib.hid hH⟩
    · have q1 : (E9 == 0) = false := by simpa using he9
      have hME : (E9 == 1) = !mayG g := by
        rw [← HEg.out]
        cases hm : mayG g with
        | false => simpa using codeE_arg.2 hm
        | true =>
          have : codeE g ≠ 1 := fun h => by have := codeE_arg.1 h; rw [hm] at this; cases this
          simpa using this
      have TMy := Lib.hid (fun W (hW : Below w5.heap.size w5 W) => TM.out W (H5.out.trans (hW.mono H5.out.size)))
      clear he9 HX5 TM TC TB2 Hcs Hcv Hok HX2 HEg
      generalize mayG g = may at *
      refine sch_start [(0, true), (1, true), (2, true), (3, true), (4, true), (5, true), (6, true), (7, true), (8, false), (9, false), (10, true), (11, true), (12, true), (13, true), (14, true), (15, false), (16, true), (17, true), (18, true), (19, true), (20, true), (21, true), (22, true), (23, false), (24, true), (25, true)] (fun W => Below w5.heap.size w5 W) (by kernel_rfl) rfl (by kernel_rfl) (fun _ _ _ _ _ h => h) ((Below.refl _ w5).drew) (fun hH => ?_)
      repeat (first | (refine sch_yes (v := ?_) rfl rfl ?_ hH ?_; rotate_left; (focus ((intro W hW; obtain ⟨a0, a1, a2, a3, a4, a5⟩ := HSF.out W hW; go_simp) <;> with_reducible rfl)); simp only [Act.put, List.setIfInBounds_toArray, List.set_cons_zero, List.set_cons_succ]) | (refine sch_no rfl rfl hH ?_; simp only [Act.put, List.setIfInBounds_toArray, List.set_cons_zero, List.set_cons_succ]))
      refine sch_call_no rfl rfl hH ?_
      refine sch_call_no rfl rfl hH ?_
      repeat (first | (refine sch_yes (v := ?_) rfl rfl ?_ hH ?_; rotate_left; (focus ((intro W hW; obtain ⟨a0, a1, a2, a3, a4, a5⟩ := HSF.out W hW; go_simp) <;> with_reducible rfl)); simp only [Act.put, List.setIfInBounds_toArray, List.set_cons_zero, List.set_cons_succ]) | (refine sch_no rfl rfl hH ?_; simp only [Act.put, List.setIfInBounds_toArray, List.set_cons_zero, List.set_cons_succ]))
      refine sch_call_no rfl rfl hH ?_
      repeat (first | (refine sch_yes (v := ?_) rfl rfl ?_ hH ?_; rotate_left; (focus ((intro W hW; obtain ⟨a0, a1, a2, a3, a4, a5⟩ := HSF.out W hW; go_simp) <;> with_reducible rfl)); simp only [Act.put, List.setIfInBounds_toArray, List.set_cons_zero, List.set_cons_succ]) | (refine sch_no rfl rfl hH ?_; simp only [Act.put, List.setIfInBounds_toArray, List.set_cons_zero, List.set_cons_succ]))
      refine sch_call rfl rfl (fun K' hK => ?_)
      go_wp2_with (go_at_call 22; refine (TMy.out _ hH).mono ?_; rintro e wt ⟨rfl, hB⟩)
      have hD := hH.trans (hB.mono hH.size)
      refine hK.out _ _ hD ?_
      clear hK hH hB
      have hH := hD
      clear hD
      cases may
      all_goals
        simp only [Bool.not_false, Bool.not_true] at hME
        repeat (first | (refine sch_yes (v := ?_) rfl rfl ?_ hH ?_; rotate_left; (focus ((intro W hW; obtain ⟨a0, a1, a2, a3, a4, a5⟩ := HSF.out W hW; go_simp) <;> with_reducible rfl)); simp only [Act.put, List.setIfInBounds_toArray, List.set_cons_zero, List.set_cons_succ]) | (refine sch_no rfl rfl hH ?_; simp only [Act.put, List.setIfInBounds_toArray, List.set_cons_zero, List.set_cons_succ]))
        refine sch_done ?_
        go_wp2
        go_meet
        exact ⟨rfl, Lib.hid hH⟩
  case rest =>
    rename World => wx
    obtain ⟨rfl, HBx⟩ := hcut
    have H6 := Lib.hid (H5.out.trans (HBx.out.mono H5.out.size))
    clear H5 HBx HX5 TM TC HGr P1 P5 HSF
    go_wp2_with fail
    refine (TB2.out _ H6.out).mono ?_
    rintro r w7 ⟨A7, n7, c7, B7, m7, d7, C7, k7, e7, rfl, h7, hB7⟩
    have hB8 := hB7.alloc (o := .cells #[.slice A7 n7 c7, .slice B7 m7 d7, .slice C7 k7 e7] 28) hB7.size
    have p8 := Blk.new w7 28 [.slice A7 n7 c7, .slice B7 m7 d7, .slice C7 k7 e7]
    have H8 := Lib.hid (H6.out.trans (hB8.mono H6.out.size))
    have h8 := gr_below ((Below.refl _ w7).alloc (Nat.le_refl _) (.cells #[.slice A7 n7 c7, .slice B7 m7 d7, .slice C7 k7 e7] 28)) h7
    have P8 := Lib.hid p8
    have HX8 := Lib.hid h8
    have HK8 := Lib.hid (HK.out _ H8.out)
    have c0 := p8.cell (j := 0) rfl
    have c1 := p8.cell (j := 1) rfl
    have c2 := p8.cell (j := 2) rfl
    clear hB7 hB8 H6 h7 p8 h8 TB2
    rcases Hcs.out with ⟨hj, hz⟩ | ⟨hj, hy1, hy2, hy3⟩
    · have hj2 : ((codeG bs).2 != 0) = true := by simpa using hj
      have hM7 : m7 = 0 := by
        have := (slice_len (rGr_open HX8.out).2.1).1
        rw [hz] at this
        exact this.symm
      subst hM7
      clear hj hz HX8
      generalize (codeG bs).2 = j at *
      go_wp2
      go_ret
      exact ⟨rfl, H8.out⟩
    rw [hj]
    generalize codeG bs = Y at *
    generalize hyy : Y.1 = y at *
    have T9 := Lib.hid (cput_any A7 B7 C7 n7 c7 m7 d7 k7 e7 y _ HK8.out HX8.out)
    rw [hy1, hy2] at T9
    have TCy := Lib.hid (fun W hW => canon_any A7 B7 C7 n7 c7 m7 d7 k7 e7 y W (gr_below hW HX8.out))
    rw [hy3] at TCy
    have TSy := Lib.hid (fun Aq Bq Cq Nq cq Mq dq Kq eq W hq hW => gsame_any Aq Bq Cq Nq cq Mq dq Kq eq A7 B7 C7 n7 c7 m7 d7 k7 e7 y y W hq (gr_below hW HX8.out))
    rw [decide_eq_true rfl] at TSy
    clear hj hy1 hy2 hy3 hyy HX8 HK8
    generalize y.1.length = N9 at *
    generalize y.2.1.length = M9 at *
    generalize y.2.2.length = K9 at *
    go_wp2_with fail
    refine T9.out.mono ?_
    rintro r w9 ⟨B9, m9, cap9, rfl, hm9, hmc9, -, hr9, hB9⟩
    have H9 := Lib.hid (H8.out.trans (hB9.mono H8.out.size))
    have HX9 := Lib.hid hB9
    have HSF := Lib.hid (fun W (hW : Below w9.heap.size w9 W) => And.intro ((P8.out.to (hB9.trans (hW.mono hB9.size))).cell (j := 0) rfl) (And.intro ((P8.out.to (hB9.trans (hW.mono hB9.size))).cell (j := 1) rfl) (And.intro ((P8.out.to (hB9.trans (hW.mono hB9.size))).cell (j := 2) rfl) (And.intro (conv_bs2 B9 m9 cap9 bs W hm9 (hr9.below hW)) (Hcv.out W (H9.out.trans (hW.mono H9.out.size)))))))
    clear hB9 H8 c0 c1 c2 T9 hm9 hmc9 hr9 P8 Hcv
    generalize strB bs = sb at *
    go_wp2_with fail
    refine sch_start [(0, true), (1, true), (2, true), (3, true), (4, true), (5, true), (6, true), (7, true), (8, true), (9, true), (10, true), (12, true), (11, false), (13, false), (14, true), (15, true)] (fun W => Below w9.heap.size w9 W) (by kernel_rfl) rfl (by kernel_rfl) (fun _ _ _ _ _ h => h) ((Below.refl _ w9).drew) (fun hH => ?_)
    repeat (first | (refine sch_yes (v := ?_) rfl rfl ?_ hH ?_; rotate_left; (focus ((intro W hW; obtain ⟨a0, a1, a2, a3, a4⟩ := HSF.out W hW; go_simp) <;> with_reducible rfl)); simp only [Act.put, List.setIfInBounds_toArray, List.set_cons_zero, List.set_cons_succ]) | (refine sch_no rfl rfl hH ?_; simp only [Act.put, List.setIfInBounds_toArray, List.set_cons_zero, List.set_cons_succ]))
    refine sch_call rfl rfl (fun K' hK => ?_)
    go_wp2_with (go_at_call 20; refine (TCy.out _ (HX9.out.trans (hH.mono HX9.out.size))).mono ?_; rintro e wq ⟨Aq, cq, Bq, dq, Cq, eq, rfl, hq, hB⟩)
    have hD := hH.trans (hB.mono hH.size)
    have TQ := Lib.hid (TSy.out Aq Bq Cq _ cq _ dq _ eq wq hq (HX9.out.trans (hD.mono HX9.out.size)))
    clear hq
    refine hK.out _ _ hD ?_
    clear hK hH hB
    have hH := hD
    clear hD
    repeat (first | (refine sch_yes (v := ?_) rfl rfl ?_ hH ?_; rotate_left; (focus ((intro W hW; obtain ⟨a0, a1, a2, a3, a4⟩ := HSF.out W hW; go_simp) <;> with_reducible rfl)); simp only [Act.put, List.setIfInBounds_toArray, List.set_cons_zero, List.set_cons_succ]) | (refine sch_no rfl rfl hH ?_; simp only [Act.put, List.setIfInBounds_toArray, List.set_cons_zero, List.set_cons_succ]))
    refine sch_call rfl rfl (fun K' hK => ?_)
    go_wp2_with (go_at_call 19; refine (TQ.out).mono ?_; rintro e wr ⟨rfl, hB⟩)
    have hD := hH.trans (hB.mono hH.size)
    refine hK.out _ _ hD ?_
    clear hK hH hB
    have hH := hD
    clear hD
    repeat (first | (refine sch_yes (v := ?_) rfl rfl ?_ hH ?_; rotate_left; (focus ((intro W hW; obtain ⟨a0, a1, a2, a3, a4⟩ := HSF.out W hW; go_simp) <;> with_reducible rfl)); simp only [Act.put, List.setIfInBounds_toArray, List.set_cons_zero, List.set_cons_succ]) | (refine sch_no rfl rfl hH ?_; simp only [Act.put, List.setIfInBounds_toArray, List.set_cons_zero, List.set_cons_succ]))
    refine sch_done ?_
    go_wp2
    go_ret
    exact ⟨rfl, H9.out.trans (hH.mono H9.out.size)⟩
end Go.Proofs.YtnmgdaaddfdffaaGreatDoor
