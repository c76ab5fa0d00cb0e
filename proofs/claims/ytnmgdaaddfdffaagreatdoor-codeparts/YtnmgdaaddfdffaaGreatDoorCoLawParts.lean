/- CodeParts: a graph's bytes are a flow of base 0, of two parts, and one for each object that is come to. Conditions: the table of kinds' texts, and the variable errors.errorType, are laid. -/
import Derived.Test.YtnmgdaaddfdffaaGreatDoorCoAwake
import Derived.Test.YtnmgdaaddfdffaaGreatDoorGCanon
namespace Go.Proofs.YtnmgdaaddfdffaaGreatDoor
open Go.RowKit

set_option maxRecDepth 100000 in
set_option maxHeartbeats 4000000 in
theorem codeParts_walk (w : World) (hL : Kt w ∧ Han w) (cs : Array Value) (g : Gr) (h : rGr (All w) w cs.toList g) :
    Calls Tryz.prog 7 #[.agg cs] w fun e w' => e = .returned (.bool true) ∧ Below w.heap.size w w' := by
  obtain ⟨A, c, B, d, C, e, rfl, h⟩ := gr_arg h
  have hB0 : Below w.heap.size w (w.alloc (.cells #[.slice A g.1.length c, .slice B g.2.1.length d, .slice C g.2.2.length e] 28)) := (Below.refl _ w).alloc (Nat.le_refl _) _
  have p1 := Blk.new w 28 [.slice A g.1.length c, .slice B g.2.1.length d, .slice C g.2.2.length e]
  have TF := Lib.hid (fun W (hW : Below w.heap.size w W) => gfew_any A B C g.1.length c g.2.1.length d g.2.2.length e g W (gr_below hW h))
  have TP := Lib.hid (fun W (hW : Below w.heap.size w W) => cput_any A B C g.1.length c g.2.1.length d g.2.2.length e g W (hL.1.below hW) (gr_below hW h))
  have TR := Lib.hid (fun W (hW : Below w.heap.size w W) => greach_any A B C g.1.length c g.2.1.length d g.2.2.length e g W (gr_below hW h))
  have HK := Lib.hid (fun W (hW : Below w.heap.size w W) => hL.1.below hW)
  have HG := Lib.hid (fun W (hW : Below w.heap.size w W) => hL.2.below hW)
  have Hok := Lib.hid (gr_ok h)
  clear h hL
  have H0 := Lib.hid hB0
  clear hB0
  generalize fewG g = few at *
  generalize g.1.length = N at *
  generalize g.2.1.length = M at *
  generalize g.2.2.length = K at *
  go_enter Tryz.func7, Tryz.ntmps7
  go_wp2_with fail
  refine (codeawake_any _ (HK.out _ H0.out) (HG.out _ H0.out)).mono ?_
  rintro r w1 ⟨rfl, hB1⟩
  have H1 := Lib.hid (H0.out.trans (hB1.mono H0.out.size))
  replace p1 := p1.to hB1
  clear hB1 H0
  have c0 := p1.cell (j := 0) rfl
  have c1 := p1.cell (j := 1) rfl
  have c2 := p1.cell (j := 2) rfl
  go_wp2_with fail
  refine (TF.out _ H1.out).mono ?_
  rintro r w2 ⟨rfl, hB2⟩
  have H2 := Lib.hid (H1.out.trans (hB2.mono H1.out.size))
  replace p1 := p1.to hB2
  clear hB2 H1 c0 c1 c2 TF
  have c0 := p1.cell (j := 0) rfl
  have c1 := p1.cell (j := 1) rfl
  have c2 := p1.cell (j := 2) rfl
  go_wp2_with fail
  refine (TP.out _ H2.out).mono ?_
  rintro r w3 ⟨B3, m3, cap3, rfl, hm3, hmc3, -, hr3, hB3⟩
  have H3 := Lib.hid (H2.out.trans (hB3.mono H2.out.size))
  replace p1 := p1.to hB3
  clear hB3 H2 c0 c1 c2 TP
  cases few
  · go_wp2
    go_ret
    exact ⟨rfl, H3.out⟩
  by_cases he : codeE g = 0
  rotate_left
  · have he2 : (codeE g != 0) = true := by simpa using he
    clear he
    generalize codeE g = E at *
    go_wp2
    go_ret
    exact ⟨rfl, H3.out⟩
  rw [he]
  have hm := codeE_may he
  have hpc := parts_count hm
  have hB := codeB_0 he
  rw [hB] at hm3 hr3
  have T4 := Lib.hid (fget_ok (code_okF Hok.out he) B3 m3 cap3 _ hm3.symm hmc3 hr3 (HG.out _ H3.out))
  rw [hpc, show (codeF g).1 = (0 : Int) from rfl] at T4
  have hR40 : (reachG g).length ≤ 8 := by rw [← ordG_len hm]; exact ordG_few hm
  clear hm3 hmc3 hr3 hm hpc hB he
  generalize (codeF g).2 = ps at *
  generalize (reachG g).length = R at *
  go_wp2_with fail
  refine T4.out.mono ?_
  rintro r w4 ⟨A4, c4, rfl, -, hB4⟩
  have hB5 := hB4.alloc (o := .cells #[.int .u32 0, .slice A4 (2 + R) c4] 49) hB4.size
  have p5 := Blk.new w4 49 [.int .u32 0, .slice A4 (2 + R) c4]
  have H5 := Lib.hid (H3.out.trans (hB5.mono H3.out.size))
  replace p1 := p1.to hB5
  have P1 := Lib.hid p1
  have P5 := Lib.hid p5
  clear hB4 hB5 H3 T4 p1 p5
  go_wp2_with fail
  generalize w4.alloc (.cells #[.int .u32 0, .slice A4 (2 + R) c4] 49) = w5 at *
  have HSF := Lib.hid (fun W (hW : Below w5.heap.size w5 W) => And.intro ((P1.out.to hW).cell (j := 0) rfl) (And.intro ((P1.out.to hW).cell (j := 1) rfl) (And.intro ((P1.out.to hW).cell (j := 2) rfl) (And.intro ((P5.out.to hW).cell (j := 0) rfl) ((P5.out.to hW).cell (j := 1) rfl)))))
  refine sch_start [(0, true), (1, true), (2, true), (3, true), (4, true), (5, true), (6, true), (7, true), (8, true), (9, true), (10, true), (11, true), (12, false), (13, true), (14, true), (15, true), (16, true), (17, true)] (fun W => Below w5.heap.size w5 W) (by kernel_rfl) rfl (by kernel_rfl) (fun _ _ _ _ _ h => h) ((Below.refl _ w5).drew) (fun hH => ?_)
  repeat (first | (refine sch_yes (v := ?_) rfl rfl ?_ hH ?_; rotate_left; (focus ((intro W hW; obtain ⟨a0, a1, a2, a3, a4⟩ := HSF.out W hW; go_simp) <;> with_reducible rfl)); simp only [Act.put, List.setIfInBounds_toArray, List.set_cons_zero, List.set_cons_succ]) | (refine sch_no rfl rfl hH ?_; simp only [Act.put, List.setIfInBounds_toArray, List.set_cons_zero, List.set_cons_succ]))
  refine sch_call rfl rfl (fun K' hK => ?_)
  go_wp2_with (go_at_call 26; refine (TR.out _ (H5.out.trans (hH.mono H5.out.size))).mono ?_; rintro e w6 ⟨A6, c6, rfl, -, -, hB⟩)
  have hD := hH.trans (hB.mono hH.size)
  refine hK.out _ _ hD ?_
  clear hK hH hB
  have hH := hD
  clear hD
  have e1 : wrap64 (2 + (R : Int)) = 2 + (R : Int) := by unfold wrap64; omega
  have e2 : IntKind.i64.wrap (2 + (R : Int)) = 2 + (R : Int) := IntWalk.i64_in _ (by omega)
  repeat (first | (refine sch_yes (v := ?_) rfl rfl ?_ hH ?_; rotate_left; (focus ((intro W hW; go_simp) <;> with_reducible rfl)); simp only [Act.put, List.setIfInBounds_toArray, List.set_cons_zero, List.set_cons_succ]) | (refine sch_no rfl rfl hH ?_; simp only [Act.put, List.setIfInBounds_toArray, List.set_cons_zero, List.set_cons_succ]))
  refine sch_done ?_
  go_wp2
  go_ret
  exact ⟨rfl, H5.out.trans (hH.mono H5.out.size)⟩
end Go.Proofs.YtnmgdaaddfdffaaGreatDoor
