/- The contract of the document's own Iso. Condition: short names. -/
import Derived.Test.YteafbdebmhpffaaCaRef3
import Derived.Test.YteafbdebmhpffaaCaIso
import Derived.Test.YteafbdebmhpffaaGrRef3
namespace Go.Proofs.Yteafbdebmhpffaa
open Go.RowKit

set_option maxRecDepth 100000 in
set_option maxHeartbeats 2000000 in
theorem riso_any (A B C : Option Addr) (N c M d K e : Nat) (A1 B1 C1 : Option Addr) (N1 c1 M1 d1 K1 e1 : Nat) (g h : Gr) (w : World) (hg : rGr (All w) w [.slice A N c, .slice B M d, .slice C K e] g) (hh : rGr (All w) w [.slice A1 N1 c1, .slice B1 M1 d1, .slice C1 K1 e1] h) (ht1 : tameS g.1) (ht2 : tameS h.1) :
    Calls Try.prog 18 #[.agg #[.slice A N c, .slice B M d, .slice C K e], .agg #[.slice A1 N1 c1, .slice B1 M1 d1, .slice C1 K1 e1]] w fun e w' => e = .returned (.bool (isoG g h)) ∧ Below w.heap.size w w' := by
  have hB0 : Below w.heap.size w ((w.alloc (.cells #[.slice A N c, .slice B M d, .slice C K e] 28)).alloc (.cells #[.slice A1 N1 c1, .slice B1 M1 d1, .slice C1 K1 e1] 28)) := ((Below.refl _ w).alloc (Nat.le_refl _) _).alloc (by simp) _
  obtain ⟨p1, p2⟩ := blk_two w 28 28 [.slice A N c, .slice B M d, .slice C K e] [.slice A1 N1 c1, .slice B1 M1 d1, .slice C1 K1 e1]
  have Hg := Lib.hid (fun W (hW : Below w.heap.size w W) => gr_below hW hg)
  have Hh := Lib.hid (fun W (hW : Below w.heap.size w W) => gr_below hW hh)
  have H0 := Lib.hid hB0
  have T1 := Lib.hid (fun W (hW : Below w.heap.size w W) => rgmay_any A B C N c M d K e g W (gr_below hW hg) ht1)
  have T2 := Lib.hid (fun W (hW : Below w.heap.size w W) => rgmay_any A1 B1 C1 N1 c1 M1 d1 K1 e1 h W (gr_below hW hh) ht2)
  have T3 := Lib.hid (fun W (hW : Below w.heap.size w W) => rcanon_any A B C N c M d K e g W (gr_below hW hg) ht1)
  have T4 := Lib.hid (fun W (hW : Below w.heap.size w W) => rcanon_any A1 B1 C1 N1 c1 M1 d1 K1 e1 h W (gr_below hW hh) ht2)
  have Hr : Hid (isoG g h = (mayG g && mayG h && decide (canonG g = canonG h))) := Lib.hid rfl
  clear hg hh hB0 ht1 ht2 Hg Hh
  generalize mayG g = m1 at *
  generalize mayG h = m2 at *
  have c0 := p1.cell (j := 0) rfl
  have c1' := p1.cell (j := 1) rfl
  have c2' := p1.cell (j := 2) rfl
  go_enter Try.func18, Try.ntmps18
  go_wp2_with fail
  refine (T1.out _ H0.out).mono ?_
  rintro ee w1 ⟨rfl, hB1⟩
  have H1 := Lib.hid (H0.out.trans (hB1.mono H0.out.size))
  replace p1 := p1.to hB1
  replace p2 := p2.to hB1
  clear hB1 H0 T1 c0 c1' c2'
  have d0' := p2.cell (j := 0) rfl
  have d1' := p2.cell (j := 1) rfl
  have d2' := p2.cell (j := 2) rfl
  go_wp2_with fail
  refine (T2.out _ H1.out).mono ?_
  rintro ee w2 ⟨rfl, hB2⟩
  have H2 := Lib.hid (H1.out.trans (hB2.mono H1.out.size))
  replace p1 := p1.to hB2
  replace p2 := p2.to hB2
  clear hB2 H1 T2 d0' d1' d2'
  have HS := Lib.hid (fun (W : World) (hW : Below w2.heap.size w2 W) => And.intro ((p1.to hW).cell (j := 0) rfl) (And.intro ((p1.to hW).cell (j := 1) rfl) (And.intro ((p1.to hW).cell (j := 2) rfl) (And.intro ((p2.to hW).cell (j := 0) rfl) (And.intro ((p2.to hW).cell (j := 1) rfl) ((p2.to hW).cell (j := 2) rfl))))))
  clear p1 p2
  go_wp2
  refine sch_start [(0, true), (2, true), (1, false), (3, false), (4, false), (5, true)] (fun W => Below w2.heap.size w2 W) (by kernel_rfl) rfl (by kernel_rfl) (fun _ _ _ _ _ h => h) ((Below.refl _ w2).drew) (fun hH => ?_)
  repeat (first | (refine sch_yes (v := ?_) rfl rfl ?_ hH ?_; rotate_left; (focus ((intro W hW; obtain ⟨q0, q1, q2, q3, q4, q5⟩ := HS.out W hW; go_simp) <;> with_reducible rfl)); simp only [Act.put, List.setIfInBounds_toArray, List.set_cons_zero, List.set_cons_succ]) | (refine sch_no rfl rfl hH ?_; simp only [Act.put, List.setIfInBounds_toArray, List.set_cons_zero, List.set_cons_succ]))
  refine sch_call rfl rfl (fun K' hK => ?_)
  go_wp2_with (go_at_call 17; refine (T3.out _ (H2.out.trans (hH.mono H2.out.size))).mono ?_; rintro ee w4 ⟨A4, c4, B4, d4, C4, e4, rfl, hr4, hB4⟩)
  have hD4 := hH.trans (hB4.mono hH.size)
  refine hK.out _ _ hD4 ?_
  clear hK hH hB4
  have hH := hD4
  refine sch_call rfl rfl (fun K' hK => ?_)
  go_wp2_with (go_at_call 17; refine (T4.out _ (H2.out.trans (hH.mono H2.out.size))).mono ?_; rintro ee w5 ⟨A5, c5, B5, d5, C5, e5, rfl, hr5, hB5⟩)
  have hD5 := hH.trans (hB5.mono hH.size)
  have TS := Lib.hid (rgsame_any _ _ _ _ _ _ _ _ _ _ _ _ _ _ _ _ _ _ (canonG g) (canonG h) w5 (gr_below hB5 hr4) hr5)
  refine hK.out _ _ hD5 ?_
  clear hK hH hB5 hD4 hr4 hr5
  have hH := hD5
  refine sch_call rfl rfl (fun K' hK => ?_)
  go_wp2_with (go_at_call 15; refine TS.out.mono ?_; rintro ee w6 ⟨rfl, hB6⟩)
  have hD6 := hH.trans (hB6.mono hH.size)
  refine hK.out _ _ hD6 ?_
  clear hK hH hB6 hD5
  have hH := hD6
  generalize decide (canonG g = canonG h) = sm at *
  repeat (first | (refine sch_yes (v := ?_) rfl rfl ?_ hH ?_; rotate_left; (focus ((intro W hW; obtain ⟨q0, q1, q2, q3, q4, q5⟩ := HS.out W hW; go_simp) <;> with_reducible rfl)); simp only [Act.put, List.setIfInBounds_toArray, List.set_cons_zero, List.set_cons_succ]) | (refine sch_no rfl rfl hH ?_; simp only [Act.put, List.setIfInBounds_toArray, List.set_cons_zero, List.set_cons_succ]))
  refine sch_done ?_
  cases m1
  · go_wp2
    go_ret
    exact ⟨by rw [Hr.out]; rfl, H2.out.trans (hH.mono H2.out.size)⟩
  cases m2
  · go_wp2
    go_ret
    exact ⟨by rw [Hr.out]; rfl, H2.out.trans (hH.mono H2.out.size)⟩
  go_wp2
  go_ret
  exact ⟨by rw [Hr.out]; rfl, H2.out.trans (hH.mono H2.out.size)⟩
end Go.Proofs.Yteafbdebmhpffaa
