/- The contract of canon's Iso: the document's one. No condition. -/
import Derived.Test.YteafbdebmhpffaaCaCanonAll
import Derived.Test.YteafbdebmhpffaaGrSame
import Derived.Test.YteafbdebmhpffaaForkLAll
namespace Go.Proofs.Yteafbdebmhpffaa
open Go.RowKit Go.Maps

theorem isoG_may {g h : Gr} (hg : mayG g = true) (hh : mayG h = true) : isoG g h = decide (canonG g = canonG h) := by rw [isoG, hg, hh]; rfl
theorem isoG_no1 {g h : Gr} (hg : mayG g = false) : isoG g h = false := by rw [isoG, hg]; rfl
theorem isoG_no2 {g h : Gr} (hh : mayG h = false) : isoG g h = false := by rw [isoG, hh]; simp

set_option maxRecDepth 100000 in
set_option maxHeartbeats 2000000 in
theorem iso_any (A B C : Option Addr) (N c M d K e : Nat) (A1 B1 C1 : Option Addr) (N1 c1 M1 d1 K1 e1 : Nat) (g h : Gr) (w : World) (hg : rGr (All w) w [.slice A N c, .slice B M d, .slice C K e] g) (hh : rGr (All w) w [.slice A1 N1 c1, .slice B1 M1 d1, .slice C1 K1 e1] h) :
    Calls Try.prog 19 #[.agg #[.slice A N c, .slice B M d, .slice C K e], .agg #[.slice A1 N1 c1, .slice B1 M1 d1, .slice C1 K1 e1]] w fun e w' => e = .returned (.bool (isoG g h)) ∧ Below w.heap.size w w' := by
  have hB0 : Below w.heap.size w ((w.alloc (.cells #[.slice A N c, .slice B M d, .slice C K e] 28)).alloc (.cells #[.slice A1 N1 c1, .slice B1 M1 d1, .slice C1 K1 e1] 28)) := ((Below.refl _ w).alloc (Nat.le_refl _) _).alloc (by simp) _
  obtain ⟨p1, p2⟩ := blk_two w 28 28 [.slice A N c, .slice B M d, .slice C K e] [.slice A1 N1 c1, .slice B1 M1 d1, .slice C1 K1 e1]
  have Hg := Lib.hid (fun W (hW : Below w.heap.size w W) => gr_below hW hg)
  have Hh := Lib.hid (fun W (hW : Below w.heap.size w W) => gr_below hW hh)
  have HB0 := Lib.hid hB0
  clear hg hh hB0
  go_enter Try.func19, Try.ntmps19
  go_wp2
  generalize (w.alloc (.cells #[.slice A N c, .slice B M d, .slice C K e] 28)).alloc (.cells #[.slice A1 N1 c1, .slice B1 M1 d1, .slice C1 K1 e1] 28) = w1 at *
  have l1 := p1.lt
  have l2 := p2.lt
  have HS := Lib.hid (fun (W : World) (hW : Below w1.heap.size w1 W) => And.intro ((hW.cell (p := ⟨w.heap.size, 0, none⟩) l1).trans (p1.cell (j := 0) rfl)) (And.intro ((hW.cell (p := ⟨w.heap.size, 1, none⟩) l1).trans (p1.cell (j := 1) rfl)) (And.intro ((hW.cell (p := ⟨w.heap.size, 2, none⟩) l1).trans (p1.cell (j := 2) rfl))
    (And.intro ((hW.cell (p := ⟨w.heap.size + 1, 0, none⟩) l2).trans (p2.cell (j := 0) rfl)) (And.intro ((hW.cell (p := ⟨w.heap.size + 1, 1, none⟩) l2).trans (p2.cell (j := 1) rfl)) ((hW.cell (p := ⟨w.heap.size + 1, 2, none⟩) l2).trans (p2.cell (j := 2) rfl)))))))
  have T1 := Lib.hid (fun W hW => gmay_any A B C N c M d K e g W (Hg.out W hW))
  have T2 := Lib.hid (fun W hW => gmay_any A1 B1 C1 N1 c1 M1 d1 K1 e1 h W (Hh.out W hW))
  have T3 := Lib.hid (fun W hW => canon_any A B C N c M d K e g W (Hg.out W hW))
  have T4 := Lib.hid (fun W hW => canon_any A1 B1 C1 N1 c1 M1 d1 K1 e1 h W (Hh.out W hW))
  have Hr : Hid (isoG g h = (mayG g && mayG h && decide (canonG g = canonG h))) := Lib.hid rfl
  have HT := Lib.hid (fun W (hW : Below w1.heap.size w1 W) => HB0.out.trans (hW.mono HB0.out.size))
  clear p1 p2 Hg Hh HB0
  generalize mayG g = m1 at *
  generalize mayG h = m2 at *
  refine sch_start [(0, true), (1, false), (2, true), (3, true), (4, false), (5, true), (6, true), (7, true), (9, true), (8, false), (10, false), (11, false), (12, true), (13, true)] (fun W => Below w1.heap.size w1 W) (by kernel_rfl) rfl (by kernel_rfl) (fun _ _ _ _ _ h => h) ((Below.refl _ w1).drew) (fun hH => ?_)
  repeat (first | (refine sch_yes (v := ?_) rfl rfl ?_ hH ?_; rotate_left; (focus ((intro W hW; obtain ⟨q0, q1, q2, q3, q4, q5⟩ := HS.out W hW; go_simp) <;> with_reducible rfl)); simp only [Act.put, List.setIfInBounds_toArray, List.set_cons_zero, List.set_cons_succ]) | (refine sch_no rfl rfl hH ?_; simp only [Act.put, List.setIfInBounds_toArray, List.set_cons_zero, List.set_cons_succ]))
  refine sch_call rfl rfl (fun K' hK => ?_)
  go_wp2_with (go_at_call 20; refine (T1.out _ (HT.out _ hH)).mono ?_; rintro e w2 ⟨rfl, hB2⟩)
  have hD2 := hH.trans (hB2.mono hH.size)
  refine hK.out _ _ hD2 ?_
  clear hK hH hB2
  have hH := hD2
  cases m1
  · repeat (first | (refine sch_yes (v := ?_) rfl rfl ?_ hH ?_; rotate_left; (focus ((intro W hW; obtain ⟨q0, q1, q2, q3, q4, q5⟩ := HS.out W hW; go_simp) <;> with_reducible rfl)); simp only [Act.put, List.setIfInBounds_toArray, List.set_cons_zero, List.set_cons_succ]) | (refine sch_no rfl rfl hH ?_; simp only [Act.put, List.setIfInBounds_toArray, List.set_cons_zero, List.set_cons_succ]))
    refine sch_call_no rfl rfl hH ?_
    repeat (first | (refine sch_yes (v := ?_) rfl rfl ?_ hH ?_; rotate_left; (focus ((intro W hW; obtain ⟨q0, q1, q2, q3, q4, q5⟩ := HS.out W hW; go_simp) <;> with_reducible rfl)); simp only [Act.put, List.setIfInBounds_toArray, List.set_cons_zero, List.set_cons_succ]) | (refine sch_no rfl rfl hH ?_; simp only [Act.put, List.setIfInBounds_toArray, List.set_cons_zero, List.set_cons_succ]))
    refine sch_call_no rfl rfl hH ?_
    refine sch_call_no rfl rfl hH ?_
    refine sch_call_no rfl rfl hH ?_
    repeat (first | (refine sch_yes (v := ?_) rfl rfl ?_ hH ?_; rotate_left; (focus ((intro W hW; obtain ⟨q0, q1, q2, q3, q4, q5⟩ := HS.out W hW; go_simp) <;> with_reducible rfl)); simp only [Act.put, List.setIfInBounds_toArray, List.set_cons_zero, List.set_cons_succ]) | (refine sch_no rfl rfl hH ?_; simp only [Act.put, List.setIfInBounds_toArray, List.set_cons_zero, List.set_cons_succ]))
    refine sch_done ?_
    go_wp2
    go_ret
    exact ⟨by rw [Hr.out]; rfl, HT.out _ hH⟩
  repeat (first | (refine sch_yes (v := ?_) rfl rfl ?_ hH ?_; rotate_left; (focus ((intro W hW; obtain ⟨q0, q1, q2, q3, q4, q5⟩ := HS.out W hW; go_simp) <;> with_reducible rfl)); simp only [Act.put, List.setIfInBounds_toArray, List.set_cons_zero, List.set_cons_succ]) | (refine sch_no rfl rfl hH ?_; simp only [Act.put, List.setIfInBounds_toArray, List.set_cons_zero, List.set_cons_succ]))
  refine sch_call rfl rfl (fun K' hK => ?_)
  go_wp2_with (go_at_call 20; refine (T2.out _ (HT.out _ hH)).mono ?_; rintro e w3 ⟨rfl, hB3⟩)
  have hD3 := hH.trans (hB3.mono hH.size)
  refine hK.out _ _ hD3 ?_
  clear hK hH hB3 hD2
  have hH := hD3
  cases m2
  · repeat (first | (refine sch_yes (v := ?_) rfl rfl ?_ hH ?_; rotate_left; (focus ((intro W hW; obtain ⟨q0, q1, q2, q3, q4, q5⟩ := HS.out W hW; go_simp) <;> with_reducible rfl)); simp only [Act.put, List.setIfInBounds_toArray, List.set_cons_zero, List.set_cons_succ]) | (refine sch_no rfl rfl hH ?_; simp only [Act.put, List.setIfInBounds_toArray, List.set_cons_zero, List.set_cons_succ]))
    refine sch_call_no rfl rfl hH ?_
    refine sch_call_no rfl rfl hH ?_
    refine sch_call_no rfl rfl hH ?_
    repeat (first | (refine sch_yes (v := ?_) rfl rfl ?_ hH ?_; rotate_left; (focus ((intro W hW; obtain ⟨q0, q1, q2, q3, q4, q5⟩ := HS.out W hW; go_simp) <;> with_reducible rfl)); simp only [Act.put, List.setIfInBounds_toArray, List.set_cons_zero, List.set_cons_succ]) | (refine sch_no rfl rfl hH ?_; simp only [Act.put, List.setIfInBounds_toArray, List.set_cons_zero, List.set_cons_succ]))
    refine sch_done ?_
    go_wp2
    go_ret
    exact ⟨by rw [Hr.out]; rfl, HT.out _ hH⟩
  repeat (first | (refine sch_yes (v := ?_) rfl rfl ?_ hH ?_; rotate_left; (focus ((intro W hW; obtain ⟨q0, q1, q2, q3, q4, q5⟩ := HS.out W hW; go_simp) <;> with_reducible rfl)); simp only [Act.put, List.setIfInBounds_toArray, List.set_cons_zero, List.set_cons_succ]) | (refine sch_no rfl rfl hH ?_; simp only [Act.put, List.setIfInBounds_toArray, List.set_cons_zero, List.set_cons_succ]))
  refine sch_call rfl rfl (fun K' hK => ?_)
  go_wp2_with (go_at_call 16; refine (T3.out _ (HT.out _ hH)).mono ?_; rintro e w4 ⟨A4, c4, B4, d4, C4, e4, rfl, hr4, hB4⟩)
  have hD4 := hH.trans (hB4.mono hH.size)
  refine hK.out _ _ hD4 ?_
  clear hK hH hB4 hD3
  have hH := hD4
  refine sch_call rfl rfl (fun K' hK => ?_)
  go_wp2_with (go_at_call 16; refine (T4.out _ (HT.out _ hH)).mono ?_; rintro e w5 ⟨A5, c5, B5, d5, C5, e5, rfl, hr5, hB5⟩)
  have hD5 := hH.trans (hB5.mono hH.size)
  have TS := Lib.hid (gsame_any _ _ _ _ _ _ _ _ _ _ _ _ _ _ _ _ _ _ (canonG g) (canonG h) w5 (gr_below hB5 hr4) hr5)
  refine hK.out _ _ hD5 ?_
  clear hK hH hB5 hD4 hr4 hr5
  have hH := hD5
  refine sch_call rfl rfl (fun K' hK => ?_)
  go_wp2_with (go_at_call 23; refine TS.out.mono ?_; rintro e w6 ⟨rfl, hB6⟩)
  have hD6 := hH.trans (hB6.mono hH.size)
  refine hK.out _ _ hD6 ?_
  clear hK hH hB6 hD5
  have hH := hD6
  repeat (first | (refine sch_yes (v := ?_) rfl rfl ?_ hH ?_; rotate_left; (focus ((intro W hW; obtain ⟨q0, q1, q2, q3, q4, q5⟩ := HS.out W hW; go_simp) <;> with_reducible rfl)); simp only [Act.put, List.setIfInBounds_toArray, List.set_cons_zero, List.set_cons_succ]) | (refine sch_no rfl rfl hH ?_; simp only [Act.put, List.setIfInBounds_toArray, List.set_cons_zero, List.set_cons_succ]))
  refine sch_done ?_
  go_wp2
  go_ret
  exact ⟨by rw [Hr.out]; rfl, HT.out _ hH⟩
end Go.Proofs.Yteafbdebmhpffaa
