/- DeltaMakes: applied to a graph, or what is alike it, what becomes of it makes the Canon of what it is then. Condition: the table of kinds' texts is laid. -/
import Derived.Test.YtclbjbhpncpmbaaGreatDoorDeLawChain
import Derived.Test.YtclbjbhpncpmbaaGreatDoorDeAwake
import Derived.Test.YtclbjbhpncpmbaaGreatDoorGCanon
namespace Go.Proofs.YtclbjbhpncpmbaaGreatDoor
open Go.RowKit


set_option maxRecDepth 100000 in
set_option maxHeartbeats 8000000 in
theorem deltaMakes_walk (w : World) (hL : Kt w) (cs : Array Value) (x : Gr) (hx : rGr (All w) w cs.toList x) (cs1 : Array Value) (y : Gr) (hy : rGr (All w) w cs1.toList y) (cs2 : Array Value) (z : Gr) (hz : rGr (All w) w cs2.toList z) :
    Calls Tryz.prog 4 #[.agg cs, .agg cs1, .agg cs2] w fun e w' => e = .returned (.bool true) ∧ Below w.heap.size w w' := by
  obtain ⟨A, c, B, d, C, e, rfl, hx⟩ := gr_arg hx
  obtain ⟨A1, c1, B1, d1, C1, e1, rfl, hy⟩ := gr_arg hy
  obtain ⟨A2, c2, B2, d2, C2, e2, rfl, hz⟩ := gr_arg hz
  have hB0 : Below w.heap.size w (((w.alloc (.cells #[.slice A x.1.length c, .slice B x.2.1.length d, .slice C x.2.2.length e] 28)).alloc (.cells #[.slice A1 y.1.length c1, .slice B1 y.2.1.length d1, .slice C1 y.2.2.length e1] 28)).alloc (.cells #[.slice A2 z.1.length c2, .slice B2 z.2.1.length d2, .slice C2 z.2.2.length e2] 28)) := ((((Below.refl _ w).alloc (Nat.le_refl _) _).alloc (by simp) _).alloc (by simp; omega) _)
  obtain ⟨px, py, pz⟩ := blk_three w 28 28 28 [.slice A x.1.length c, .slice B x.2.1.length d, .slice C x.2.2.length e] [.slice A1 y.1.length c1, .slice B1 y.2.1.length d1, .slice C1 y.2.2.length e1] [.slice A2 z.1.length c2, .slice B2 z.2.1.length d2, .slice C2 z.2.2.length e2]
  have Fx := Lib.hid (fun W (hW : Below w.heap.size w W) => gfew_any A B C x.1.length c x.2.1.length d x.2.2.length e x W (gr_below hW hx))
  have Rx := Lib.hid (fun W (hW : Below w.heap.size w W) => gr_below hW hx)
  have Fy := Lib.hid (fun W (hW : Below w.heap.size w W) => gfew_any A1 B1 C1 y.1.length c1 y.2.1.length d1 y.2.2.length e1 y W (gr_below hW hy))
  have Ry := Lib.hid (fun W (hW : Below w.heap.size w W) => gr_below hW hy)
  have Fz := Lib.hid (fun W (hW : Below w.heap.size w W) => gfew_any A2 B2 C2 z.1.length c2 z.2.1.length d2 z.2.2.length e2 z W (gr_below hW hz))
  have Rz := Lib.hid (fun W (hW : Below w.heap.size w W) => gr_below hW hz)
  have HK := Lib.hid (fun W (hW : Below w.heap.size w W) => hL.below hW)
  have Px := Lib.hid px
  have Py := Lib.hid py
  have Pz := Lib.hid pz
  have H0 := Lib.hid hB0
  clear hL hB0 hx px hy py hz pz
  generalize hfx : fewG x = fx at *
  have HFx := Lib.hid hfx
  clear hfx
  generalize hNx : x.1.length = N at *
  have HNx := Lib.hid hNx
  clear hNx
  generalize hMx : x.2.1.length = M at *
  have HMx := Lib.hid hMx
  clear hMx
  generalize hKx : x.2.2.length = K at *
  have HKx := Lib.hid hKx
  clear hKx
  generalize hfy : fewG y = fy at *
  have HFy := Lib.hid hfy
  clear hfy
  generalize hNy : y.1.length = N1 at *
  have HNy := Lib.hid hNy
  clear hNy
  generalize hMy : y.2.1.length = M1 at *
  have HMy := Lib.hid hMy
  clear hMy
  generalize hKy : y.2.2.length = K1 at *
  have HKy := Lib.hid hKy
  clear hKy
  generalize hfz : fewG z = fz at *
  have HFz := Lib.hid hfz
  clear hfz
  generalize hNz : z.1.length = N2 at *
  have HNz := Lib.hid hNz
  clear hNz
  generalize hMz : z.2.1.length = M2 at *
  have HMz := Lib.hid hMz
  clear hMz
  generalize hKz : z.2.2.length = K2 at *
  have HKz := Lib.hid hKz
  clear hKz
  go_enter Tryz.func4, Tryz.ntmps4
  go_wp2_with fail
  generalize (((w.alloc (.cells #[.slice A N c, .slice B M d, .slice C K e] 28)).alloc (.cells #[.slice A1 N1 c1, .slice B1 M1 d1, .slice C1 K1 e1] 28)).alloc (.cells #[.slice A2 N2 c2, .slice B2 M2 d2, .slice C2 K2 e2] 28)) = w1 at *
  refine (dawake_any _ (HK.out _ H0.out)).mono ?_
  rintro r wk ⟨rfl, hBk⟩
  have HA := Lib.hid (H0.out.trans (hBk.mono H0.out.size))
  replace Px := Lib.hid (Px.out.to hBk)
  replace Py := Lib.hid (Py.out.to hBk)
  replace Pz := Lib.hid (Pz.out.to hBk)
  clear hBk H0
  have a0 := Px.out.cell (j := 0) rfl
  have a1 := Px.out.cell (j := 1) rfl
  have a2 := Px.out.cell (j := 2) rfl
  go_wp2_with fail
  refine (Fx.out _ HA.out).mono ?_
  rintro r wf0 ⟨rfl, hBk⟩
  have HA0 := Lib.hid (HA.out.trans (hBk.mono HA.out.size))
  replace Px := Lib.hid (Px.out.to hBk)
  replace Py := Lib.hid (Py.out.to hBk)
  replace Pz := Lib.hid (Pz.out.to hBk)
  clear a0 a1 a2 hBk HA
  have HA := HA0
  clear HA0
  have a0 := Py.out.cell (j := 0) rfl
  have a1 := Py.out.cell (j := 1) rfl
  have a2 := Py.out.cell (j := 2) rfl
  go_wp2_with fail
  refine (Fy.out _ HA.out).mono ?_
  rintro r wf1 ⟨rfl, hBk⟩
  have HA1 := Lib.hid (HA.out.trans (hBk.mono HA.out.size))
  replace Px := Lib.hid (Px.out.to hBk)
  replace Py := Lib.hid (Py.out.to hBk)
  replace Pz := Lib.hid (Pz.out.to hBk)
  clear a0 a1 a2 hBk HA
  have HA := HA1
  clear HA1
  have a0 := Pz.out.cell (j := 0) rfl
  have a1 := Pz.out.cell (j := 1) rfl
  have a2 := Pz.out.cell (j := 2) rfl
  go_wp2_with fail
  refine (Fz.out _ HA.out).mono ?_
  rintro r wf2 ⟨rfl, hBk⟩
  have HA2 := Lib.hid (HA.out.trans (hBk.mono HA.out.size))
  replace Px := Lib.hid (Px.out.to hBk)
  replace Py := Lib.hid (Py.out.to hBk)
  replace Pz := Lib.hid (Pz.out.to hBk)
  clear a0 a1 a2 hBk HA
  have HA := HA2
  clear HA2
  cases fx
  · go_wp2
    go_ret
    exact ⟨rfl, HA.out⟩
  cases fy
  · go_wp2
    go_ret
    exact ⟨rfl, HA.out⟩
  cases fz
  · go_wp2
    go_ret
    exact ⟨rfl, HA.out⟩
  replace Rx := Lib.hid (Rx.out _ HA.out)
  replace Ry := Lib.hid (Ry.out _ HA.out)
  replace Rz := Lib.hid (Rz.out _ HA.out)
  have kc1 := Px.out.cell (j := 0) rfl
  have kc2 := Px.out.cell (j := 1) rfl
  have kc3 := Px.out.cell (j := 2) rfl
  have kc4 := Py.out.cell (j := 0) rfl
  have kc5 := Py.out.cell (j := 1) rfl
  have kc6 := Py.out.cell (j := 2) rfl
  go_wp2_with fail
  refine (dmake_any A B C N c M d K e A1 B1 C1 N1 c1 M1 d1 K1 e1 x y _ (HK.out _ HA.out) Rx.out Ry.out).mono ?_
  rintro r wq7 ⟨BD1, dD1, CD1, eD1, rfl, hD1, hBq⟩
  replace Px := Lib.hid (Px.out.to hBq)
  replace Py := Lib.hid (Py.out.to hBq)
  replace Pz := Lib.hid (Pz.out.to hBq)
  replace Rx := Lib.hid (gr_below hBq Rx.out)
  replace Ry := Lib.hid (gr_below hBq Ry.out)
  replace Rz := Lib.hid (gr_below hBq Rz.out)
  have HAn := Lib.hid (HA.out.trans (hBq.mono HA.out.size))
  clear HA
  have HA := HAn
  clear HAn
  clear hBq kc1 kc2 kc3 kc4 kc5 kc6
  generalize huD1 : (makeD x y).1 = uD1 at *
  have HuD1 := Lib.hid huD1
  clear huD1
  generalize hrD1 : (makeD x y).2.1.length = rD1 at *
  have HrD1 := Lib.hid hrD1
  clear hrD1
  generalize hlD1 : (makeD x y).2.2.length = lD1 at *
  have HlD1 := Lib.hid hlD1
  clear hlD1
  have RD1 := Lib.hid hD1
  clear hD1
  have hBq : Below wq7.heap.size wq7 (wq7.alloc (.cells #[.int .u32 uD1, .slice BD1 rD1 dD1, .slice CD1 lD1 eD1] 32)) := (Below.refl _ wq7).alloc (Nat.le_refl _) _
  replace Px := Lib.hid (Px.out.to hBq)
  replace Py := Lib.hid (Py.out.to hBq)
  replace Pz := Lib.hid (Pz.out.to hBq)
  replace Rx := Lib.hid (gr_below hBq Rx.out)
  replace Ry := Lib.hid (gr_below hBq Ry.out)
  replace Rz := Lib.hid (gr_below hBq Rz.out)
  replace RD1 := Lib.hid (dlt_below hBq RD1.out)
  have HAn := Lib.hid (HA.out.trans (hBq.mono HA.out.size))
  clear HA
  have HA := HAn
  clear HAn
  have PD1 := Lib.hid (Blk.new wq7 32 [.int .u32 uD1, .slice BD1 rD1 dD1, .slice CD1 lD1 eD1])
  clear hBq
  by_cases he : makeE x y = 0
  rotate_left
  · have he' : (makeE x y != 0) = true := by simpa using he
    have h0 : lD1 = 0 := by rw [← HlD1.out, makeD_no he]; rfl
    subst h0
    have q2 := PD1.out.cell (j := 2) rfl
    clear he
    generalize makeE x y = E1 at *
    go_wp2
    go_ret
    exact ⟨rfl, HA.out⟩
  have hm := makeE_0 he
  have HQ1 := Lib.hid (apply_make he)
  have HQc : Hid (applyD (canonG x) (makeD x y) = (canonG y, 0)) := Lib.hid (by rw [apply_like hm.1 (canon_may hm.1) (canon_twice hm.1).symm, apply_make he])
  have HQl : Hid (isoG x z = true → applyD z (makeD x y) = (canonG y, 0)) := Lib.hid (fun hi => by
    rw [isoG, Bool.and_eq_true, Bool.and_eq_true, decide_eq_true_eq] at hi
    rw [apply_like hi.1.1 hi.1.2 hi.2, apply_make he])
  have Hfew : Hid (lD1 ≤ 1000000) := Lib.hid (by have := makeD_few x y; have := HlD1.out; omega)
  rw [he]
  clear he hm
  go_upto_region 10 with fail
  generalize wq7.alloc (.cells #[.int .u32 uD1, .slice BD1 rD1 dD1, .slice CD1 lD1 eD1] 32) = wb8 at *
  have HS := Lib.hid (fun W (hW : Below wb8.heap.size wb8 W) => And.intro ((Px.out.to hW).cell (j := 0) rfl) (And.intro ((Px.out.to hW).cell (j := 1) rfl) (And.intro ((Px.out.to hW).cell (j := 2) rfl) (And.intro ((PD1.out.to hW).cell (j := 0) rfl) (And.intro ((PD1.out.to hW).cell (j := 1) rfl) ((PD1.out.to hW).cell (j := 2) rfl))))))
  go_cut [13, 14] (fun v13 v14 wx => ∃ b13 A9 c9 B9 d9 C9 e9, v13 = .pointer (some ⟨b13, 0, none⟩) ∧ v14 = .int .i64 0 ∧ Blk wx b13 28 [.slice A9 (canonG y).1.length c9, .slice B9 (canonG y).2.1.length d9, .slice C9 (canonG y).2.2.length e9] ∧ rGr (All wx) wx [.slice A9 (canonG y).1.length c9, .slice B9 (canonG y).2.1.length d9, .slice C9 (canonG y).2.2.length e9] (canonG y) ∧ Below wb8.heap.size wb8 wx)
  case first =>
    have TC := Lib.hid (fun W (hW : Below wb8.heap.size wb8 W) => canon_any A B C N c M d K e x W (gr_below hW Rx.out))
    have TB := Lib.hid (fun W (hW : Below wb8.heap.size wb8 W) A4 c4 B4 d4 C4 e4 (h4 : rGr (All W) W [.slice A4 (canonG x).1.length c4, .slice B4 (canonG x).2.1.length d4, .slice C4 (canonG x).2.2.length e4] (canonG x)) => dapply_any A4 B4 C4 (canonG x).1.length c4 (canonG x).2.1.length d4 (canonG x).2.2.length e4 (canonG x) BD1 CD1 rD1 dD1 lD1 eD1 (makeD x y) W (HK.out _ (HA.out.trans (hW.mono HA.out.size))) h4 (by have := dlt_below hW RD1.out; rwa [← HuD1.out] at this) Hfew.out)
    rw [HuD1.out, HQc.out] at TB
    dsimp only at TB
    clear HQ1 HQc HQl Px Py Pz PD1 Rx Ry Rz RD1
    generalize (canonG x).1.length = N9 at *
    generalize (canonG x).2.1.length = M9 at *
    generalize (canonG x).2.2.length = K9 at *
    generalize (canonG y).1.length = N8 at *
    generalize (canonG y).2.1.length = M8 at *
    generalize (canonG y).2.2.length = K8 at *
    refine fr_start (fun W => W.cell? ⟨w.heap.size, 0, none⟩ = some (.slice A N c) ∧ W.cell? ⟨w.heap.size, 1, none⟩ = some (.slice B M d) ∧ W.cell? ⟨w.heap.size, 2, none⟩ = some (.slice C K e) ∧ W.cell? ⟨wq7.heap.size, 0, none⟩ = some (.int .u32 uD1) ∧ W.cell? ⟨wq7.heap.size, 1, none⟩ = some (.slice BD1 rD1 dD1) ∧ W.cell? ⟨wq7.heap.size, 2, none⟩ = some (.slice CD1 lD1 eD1)) 10 (by kernel_rfl) rfl (fun _ _ _ _ _ h => h) (HS.out _ (Below.refl _ wb8).drew) (fun hH => ?_)
    have hD := (Below.refl wb8.heap.size wb8).drew
    have hDs : wb8.heap.size ≤ wb8.drew.heap.size := hD.size
    generalize wb8.drew = wd at *
    (refine fr_yes 0 (v := ?_) rfl (by kernel_rfl) rfl ?_ hH ?_; rotate_left; (focus ((rintro W ⟨hW1, hW2, hW3, hW4, hW5, hW6⟩; go_simp) <;> with_reducible rfl)); simp only [Act.put, List.setIfInBounds_toArray, List.set_cons_zero, List.set_cons_succ]); (refine fr_yes 2 (v := ?_) rfl (by kernel_rfl) rfl ?_ hH ?_; rotate_left; (focus ((rintro W ⟨hW1, hW2, hW3, hW4, hW5, hW6⟩; go_simp) <;> with_reducible rfl)); simp only [Act.put, List.setIfInBounds_toArray, List.set_cons_zero, List.set_cons_succ])
    refine fr_op [1, 7] (by kernel_rfl) (by simp) ?_; intro jj hjj; simp only [List.mem_cons, List.not_mem_nil, or_false] at hjj; rcases hjj with rfl | rfl
    · refine ⟨_, rfl, rfl, fun K hK => ?_⟩
      go_wp2_with (go_at_call 19; refine (TC.out _ hD).mono ?_; rintro e w4 ⟨A4, c4, B4, d4, C4, e4, rfl, hr4, hB4⟩)
      have hD4 := hD.trans (hB4.mono hD.size)
      refine hK.out _ _ (HS.out _ hD4) ?_
      clear hK hH
      have hH := HS.out _ hD4
      refine fr_op [3, 7] (by kernel_rfl) (by simp) ?_; intro jj hjj; simp only [List.mem_cons, List.not_mem_nil, or_false] at hjj; rcases hjj with rfl | rfl
      · refine ⟨_, rfl, rfl, fun K hK => ?_⟩
        go_wp2_with (go_at_call 14; refine (TB.out _ hD4 _ _ _ _ _ _ hr4).mono ?_; rintro e w5 ⟨A5, c5, B5, d5, C5, e5, rfl, hr5, hB5⟩)
        have hD5 := hD4.trans (hB5.mono hD4.size)
        refine hK.out _ _ (HS.out _ hD5) ?_
        clear hK hH
        have hH := HS.out _ hD5
        (refine fr_yes 4 (v := ?_) rfl (by kernel_rfl) rfl ?_ hH ?_; rotate_left; (focus ((rintro W ⟨hW1, hW2, hW3, hW4, hW5, hW6⟩; go_simp) <;> with_reducible rfl)); simp only [Act.put, List.setIfInBounds_toArray, List.set_cons_zero, List.set_cons_succ]); (refine fr_yes 5 (v := ?_) rfl (by kernel_rfl) rfl ?_ hH ?_; rotate_left; (focus ((rintro W ⟨hW1, hW2, hW3, hW4, hW5, hW6⟩; go_simp) <;> with_reducible rfl)); simp only [Act.put, List.setIfInBounds_toArray, List.set_cons_zero, List.set_cons_succ]); (refine fr_yes 6 (v := ?_) rfl (by kernel_rfl) rfl ?_ hH ?_; rotate_left; (focus ((rintro W ⟨hW1, hW2, hW3, hW4, hW5, hW6⟩; go_simp) <;> with_reducible rfl)); simp only [Act.put, List.setIfInBounds_toArray, List.set_cons_zero, List.set_cons_succ])
        refine fr_op [7] (by kernel_rfl) (by simp) ?_; intro jj hjj; simp only [List.mem_cons, List.not_mem_nil, or_false] at hjj; subst hjj; refine ⟨_, rfl, rfl, fun K hK => ?_⟩
        go_wp2
        have hDz := hD5.alloc hD5.size (.cells #[.slice none 0 0, .slice none 0 0, .slice none 0 0] 28)
        refine hK.out _ _ (HS.out _ hDz) ?_
        clear hK hH
        refine fr_op [8] (by kernel_rfl) (by simp) ?_; intro jj hjj; simp only [List.mem_cons, List.not_mem_nil, or_false] at hjj; subst hjj; refine ⟨_, rfl, rfl, fun K hK => ?_⟩
        go_wp2
        have hDe := hD5.alloc hD5.size (.cells #[.slice A5 N8 c5, .slice B5 M8 d5, .slice C5 K8 e5] 28)
        refine hK.out _ _ (HS.out _ hDe) ?_
        clear hK
        have hH := HS.out _ hDe
        (refine fr_yes 9 (v := ?_) rfl (by kernel_rfl) rfl ?_ hH ?_; rotate_left; (focus ((rintro W ⟨hW1, hW2, hW3, hW4, hW5, hW6⟩; go_simp) <;> with_reducible rfl)); simp only [Act.put, List.setIfInBounds_toArray, List.set_cons_zero, List.set_cons_succ])
        refine fr_done (by kernel_rfl) ?_
        go_wp2
        go_meet
        case rel => exact ⟨_, A5, c5, B5, d5, C5, e5, rfl, rfl, Blk.new _ _ _, gr_below ((Below.refl _ _).alloc (Nat.le_refl _) _) hr5, hDe⟩
      · refine ⟨_, rfl, rfl, fun K hK => ?_⟩
        go_wp2
        have hDz := hD4.alloc hD4.size (.cells #[.slice none 0 0, .slice none 0 0, .slice none 0 0] 28)
        have vz := Blk.new w4 28 [.slice none 0 0, .slice none 0 0, .slice none 0 0]
        have hr4z := gr_below ((Below.refl _ w4).alloc (Nat.le_refl _) (.cells #[.slice none 0 0, .slice none 0 0, .slice none 0 0] 28)) hr4
        refine hK.out _ _ (HS.out _ hDz) ?_
        clear hK hH
        have hH := HS.out _ hDz
        have hb8 := hD4.size
        generalize w4.alloc (.cells #[.slice none 0 0, .slice none 0 0, .slice none 0 0] 28) = wz at *
        refine fr_op [3] (by kernel_rfl) (by simp) ?_; intro jj hjj; simp only [List.mem_cons, List.not_mem_nil, or_false] at hjj; subst hjj; refine ⟨_, rfl, rfl, fun K hK => ?_⟩
        go_wp2_with (go_at_call 14; refine (TB.out _ hDz _ _ _ _ _ _ hr4z).mono ?_; rintro e w5 ⟨A5, c5, B5, d5, C5, e5, rfl, hr5, hB5⟩)
        have hD5 := hDz.trans (hB5.mono hDz.size)
        have vg := vz.to hB5
        refine hK.out _ _ (HS.out _ hD5) ?_
        clear hK hH
        have hH := HS.out _ hD5
        (refine fr_yes 4 (v := ?_) rfl (by kernel_rfl) rfl ?_ hH ?_; rotate_left; (focus ((rintro W ⟨hW1, hW2, hW3, hW4, hW5, hW6⟩; go_simp) <;> with_reducible rfl)); simp only [Act.put, List.setIfInBounds_toArray, List.set_cons_zero, List.set_cons_succ]); (refine fr_yes 5 (v := ?_) rfl (by kernel_rfl) rfl ?_ hH ?_; rotate_left; (focus ((rintro W ⟨hW1, hW2, hW3, hW4, hW5, hW6⟩; go_simp) <;> with_reducible rfl)); simp only [Act.put, List.setIfInBounds_toArray, List.set_cons_zero, List.set_cons_succ]); (refine fr_yes 6 (v := ?_) rfl (by kernel_rfl) rfl ?_ hH ?_; rotate_left; (focus ((rintro W ⟨hW1, hW2, hW3, hW4, hW5, hW6⟩; go_simp) <;> with_reducible rfl)); simp only [Act.put, List.setIfInBounds_toArray, List.set_cons_zero, List.set_cons_succ])
        have z0 := vg.cell (j := 0) rfl
        have z1 := vg.cell (j := 1) rfl
        have z2 := vg.cell (j := 2) rfl
        have f0 := vg.frozen 0
        have f1 := vg.frozen 1
        have f2 := vg.frozen 2
        refine fr_op [8] (by kernel_rfl) (by simp) ?_; intro jj hjj; simp only [List.mem_cons, List.not_mem_nil, or_false] at hjj; subst hjj; refine ⟨_, rfl, rfl, fun K hK => ?_⟩
        go_wp2
        have hDe := ((hD5.setCell (p := ⟨w4.heap.size, 0, none⟩) hb8 (.slice A5 N8 c5)).setCell (p := ⟨w4.heap.size, 1, none⟩) hb8 (.slice B5 M8 d5)).setCell (p := ⟨w4.heap.size, 2, none⟩) hb8 (.slice C5 K8 e5)
        refine hK.out _ _ (HS.out _ hDe) ?_
        clear hK hH
        have hH := HS.out _ hDe
        (refine fr_yes 9 (v := ?_) rfl (by kernel_rfl) rfl ?_ hH ?_; rotate_left; (focus ((rintro W ⟨hW1, hW2, hW3, hW4, hW5, hW6⟩; go_simp) <;> with_reducible rfl)); simp only [Act.put, List.setIfInBounds_toArray, List.set_cons_zero, List.set_cons_succ])
        refine fr_done (by kernel_rfl) ?_
        go_wp2
        go_meet
        case rel => exact ⟨_, A5, c5, B5, d5, C5, e5, rfl, rfl, ((vg.set 0 _).set 1 _).set 2 _, gr_set3 vg hr5, hDe⟩
    · refine ⟨_, rfl, rfl, fun K hK => ?_⟩
      go_wp2
      have hDz := hD.alloc hD.size (.cells #[.slice none 0 0, .slice none 0 0, .slice none 0 0] 28)
      have vz := Blk.new wd 28 [.slice none 0 0, .slice none 0 0, .slice none 0 0]
      refine hK.out _ _ (HS.out _ hDz) ?_
      clear hK hH
      have hH := HS.out _ hDz
      generalize wd.alloc (.cells #[.slice none 0 0, .slice none 0 0, .slice none 0 0] 28) = wz at *
      refine fr_op [1] (by kernel_rfl) (by simp) ?_; intro jj hjj; simp only [List.mem_cons, List.not_mem_nil, or_false] at hjj; subst hjj; refine ⟨_, rfl, rfl, fun K hK => ?_⟩
      go_wp2_with (go_at_call 19; refine (TC.out _ hDz).mono ?_; rintro e w4 ⟨A4, c4, B4, d4, C4, e4, rfl, hr4, hB4⟩)
      have hD4 := hDz.trans (hB4.mono hDz.size)
      have vy := vz.to hB4
      refine hK.out _ _ (HS.out _ hD4) ?_
      clear hK hH
      have hH := HS.out _ hD4
      refine fr_op [3] (by kernel_rfl) (by simp) ?_; intro jj hjj; simp only [List.mem_cons, List.not_mem_nil, or_false] at hjj; subst hjj; refine ⟨_, rfl, rfl, fun K hK => ?_⟩
      go_wp2_with (go_at_call 14; refine (TB.out _ hD4 _ _ _ _ _ _ hr4).mono ?_; rintro e w5 ⟨A5, c5, B5, d5, C5, e5, rfl, hr5, hB5⟩)
      have hD5 := hD4.trans (hB5.mono hD4.size)
      have vg := vy.to hB5
      refine hK.out _ _ (HS.out _ hD5) ?_
      clear hK hH
      have hH := HS.out _ hD5
      (refine fr_yes 4 (v := ?_) rfl (by kernel_rfl) rfl ?_ hH ?_; rotate_left; (focus ((rintro W ⟨hW1, hW2, hW3, hW4, hW5, hW6⟩; go_simp) <;> with_reducible rfl)); simp only [Act.put, List.setIfInBounds_toArray, List.set_cons_zero, List.set_cons_succ]); (refine fr_yes 5 (v := ?_) rfl (by kernel_rfl) rfl ?_ hH ?_; rotate_left; (focus ((rintro W ⟨hW1, hW2, hW3, hW4, hW5, hW6⟩; go_simp) <;> with_reducible rfl)); simp only [Act.put, List.setIfInBounds_toArray, List.set_cons_zero, List.set_cons_succ]); (refine fr_yes 6 (v := ?_) rfl (by kernel_rfl) rfl ?_ hH ?_; rotate_left; (focus ((rintro W ⟨hW1, hW2, hW3, hW4, hW5, hW6⟩; go_simp) <;> with_reducible rfl)); simp only [Act.put, List.setIfInBounds_toArray, List.set_cons_zero, List.set_cons_succ])
      have z0 := vg.cell (j := 0) rfl
      have z1 := vg.cell (j := 1) rfl
      have z2 := vg.cell (j := 2) rfl
      have f0 := vg.frozen 0
      have f1 := vg.frozen 1
      have f2 := vg.frozen 2
      refine fr_op [8] (by kernel_rfl) (by simp) ?_; intro jj hjj; simp only [List.mem_cons, List.not_mem_nil, or_false] at hjj; subst hjj; refine ⟨_, rfl, rfl, fun K hK => ?_⟩
      go_wp2
      have hDe := ((hD5.setCell (p := ⟨wd.heap.size, 0, none⟩) hDs (.slice A5 N8 c5)).setCell (p := ⟨wd.heap.size, 1, none⟩) hDs (.slice B5 M8 d5)).setCell (p := ⟨wd.heap.size, 2, none⟩) hDs (.slice C5 K8 e5)
      refine hK.out _ _ (HS.out _ hDe) ?_
      clear hK hH
      have hH := HS.out _ hDe
      (refine fr_yes 9 (v := ?_) rfl (by kernel_rfl) rfl ?_ hH ?_; rotate_left; (focus ((rintro W ⟨hW1, hW2, hW3, hW4, hW5, hW6⟩; go_simp) <;> with_reducible rfl)); simp only [Act.put, List.setIfInBounds_toArray, List.set_cons_zero, List.set_cons_succ])
      refine fr_done (by kernel_rfl) ?_
      go_wp2
      go_meet
      case rel => exact ⟨_, A5, c5, B5, d5, C5, e5, rfl, rfl, ((vg.set 0 _).set 1 _).set 2 _, gr_set3 vg hr5, hDe⟩
  case rest =>
    obtain ⟨b13, AG, cG, BG, dG, CG, eG, rfl, rfl, vG, hG, hBq⟩ := hcut
    clear HS
    replace Px := Lib.hid (Px.out.to hBq)
    replace Py := Lib.hid (Py.out.to hBq)
    replace Pz := Lib.hid (Pz.out.to hBq)
    replace PD1 := Lib.hid (PD1.out.to hBq)
    replace Rx := Lib.hid (gr_below hBq Rx.out)
    replace Ry := Lib.hid (gr_below hBq Ry.out)
    replace Rz := Lib.hid (gr_below hBq Rz.out)
    replace RD1 := Lib.hid (dlt_below hBq RD1.out)
    have HAn := Lib.hid (HA.out.trans (hBq.mono HA.out.size))
    clear HA
    have HA := HAn
    clear HAn
    have PG := Lib.hid vG
    clear hBq vG
    generalize hNG : (canonG y).1.length = NG at *
    have HNG := Lib.hid hNG
    clear hNG
    generalize hMG : (canonG y).2.1.length = MG at *
    have HMG := Lib.hid hMG
    clear hMG
    generalize hKG : (canonG y).2.2.length = KG at *
    have HKG := Lib.hid hKG
    clear hKG
    have RG := Lib.hid hG
    clear hG
    have kc9 := Px.out.cell (j := 0) rfl
    have kc10 := Px.out.cell (j := 1) rfl
    have kc11 := Px.out.cell (j := 2) rfl
    have kc12 := PD1.out.cell (j := 0) rfl
    have kc13 := PD1.out.cell (j := 1) rfl
    have kc14 := PD1.out.cell (j := 2) rfl
    go_wp2_with fail
    have TA := Lib.hid (dapply_any A B C N c M d K e x BD1 CD1 rD1 dD1 lD1 eD1 (makeD x y) _ (HK.out _ HA.out) Rx.out (by rw [HuD1.out]; exact RD1.out) Hfew.out)
    rw [HuD1.out, HQ1.out] at TA
    dsimp only at TA
    rw [HNG.out, HMG.out, HKG.out] at TA
    refine (TA.out).mono ?_
    rintro r wq15 ⟨AH, cH, BH, dH, CH, eH, rfl, hH, hBq⟩
    clear TA
    replace Px := Lib.hid (Px.out.to hBq)
    replace Py := Lib.hid (Py.out.to hBq)
    replace Pz := Lib.hid (Pz.out.to hBq)
    replace PD1 := Lib.hid (PD1.out.to hBq)
    replace PG := Lib.hid (PG.out.to hBq)
    replace Rx := Lib.hid (gr_below hBq Rx.out)
    replace Ry := Lib.hid (gr_below hBq Ry.out)
    replace Rz := Lib.hid (gr_below hBq Rz.out)
    replace RD1 := Lib.hid (dlt_below hBq RD1.out)
    replace RG := Lib.hid (gr_below hBq RG.out)
    have HAn := Lib.hid (HA.out.trans (hBq.mono HA.out.size))
    clear HA
    have HA := HAn
    clear HAn
    clear hBq kc9 kc10 kc11 kc12 kc13 kc14
    have RH := Lib.hid hH
    clear hH
    have hBq : Below wq15.heap.size wq15 (wq15.alloc (.cells #[.slice AH NG cH, .slice BH MG dH, .slice CH KG eH] 28)) := (Below.refl _ wq15).alloc (Nat.le_refl _) _
    replace Px := Lib.hid (Px.out.to hBq)
    replace Py := Lib.hid (Py.out.to hBq)
    replace Pz := Lib.hid (Pz.out.to hBq)
    replace PD1 := Lib.hid (PD1.out.to hBq)
    replace PG := Lib.hid (PG.out.to hBq)
    replace Rx := Lib.hid (gr_below hBq Rx.out)
    replace Ry := Lib.hid (gr_below hBq Ry.out)
    replace Rz := Lib.hid (gr_below hBq Rz.out)
    replace RD1 := Lib.hid (dlt_below hBq RD1.out)
    replace RG := Lib.hid (gr_below hBq RG.out)
    replace RH := Lib.hid (gr_below hBq RH.out)
    have HAn := Lib.hid (HA.out.trans (hBq.mono HA.out.size))
    clear HA
    have HA := HAn
    clear HAn
    have PH := Lib.hid (Blk.new wq15 28 [.slice AH NG cH, .slice BH MG dH, .slice CH KG eH])
    clear hBq
    have kc17 := Py.out.cell (j := 0) rfl
    have kc18 := Py.out.cell (j := 1) rfl
    have kc19 := Py.out.cell (j := 2) rfl
    go_wp2_with fail
    generalize wq15.alloc (.cells #[.slice AH NG cH, .slice BH MG dH, .slice CH KG eH] 28) = wb16 at *
    have TA := Lib.hid (canon_any A1 B1 C1 N1 c1 M1 d1 K1 e1 y _ Ry.out)
    rw [HNG.out, HMG.out, HKG.out] at TA
    refine (TA.out).mono ?_
    rintro r wq20 ⟨AC, cC, BC, dC, CC, eC, rfl, hC, hBq⟩
    clear TA
    replace Px := Lib.hid (Px.out.to hBq)
    replace Py := Lib.hid (Py.out.to hBq)
    replace Pz := Lib.hid (Pz.out.to hBq)
    replace PD1 := Lib.hid (PD1.out.to hBq)
    replace PG := Lib.hid (PG.out.to hBq)
    replace PH := Lib.hid (PH.out.to hBq)
    replace Rx := Lib.hid (gr_below hBq Rx.out)
    replace Ry := Lib.hid (gr_below hBq Ry.out)
    replace Rz := Lib.hid (gr_below hBq Rz.out)
    replace RD1 := Lib.hid (dlt_below hBq RD1.out)
    replace RG := Lib.hid (gr_below hBq RG.out)
    replace RH := Lib.hid (gr_below hBq RH.out)
    have HAn := Lib.hid (HA.out.trans (hBq.mono HA.out.size))
    clear HA
    have HA := HAn
    clear HAn
    clear hBq kc17 kc18 kc19
    have RC := Lib.hid hC
    clear hC
    have hBq : Below wq20.heap.size wq20 (wq20.alloc (.cells #[.slice AC NG cC, .slice BC MG dC, .slice CC KG eC] 28)) := (Below.refl _ wq20).alloc (Nat.le_refl _) _
    replace Px := Lib.hid (Px.out.to hBq)
    replace Py := Lib.hid (Py.out.to hBq)
    replace Pz := Lib.hid (Pz.out.to hBq)
    replace PD1 := Lib.hid (PD1.out.to hBq)
    replace PG := Lib.hid (PG.out.to hBq)
    replace PH := Lib.hid (PH.out.to hBq)
    replace Rx := Lib.hid (gr_below hBq Rx.out)
    replace Ry := Lib.hid (gr_below hBq Ry.out)
    replace Rz := Lib.hid (gr_below hBq Rz.out)
    replace RD1 := Lib.hid (dlt_below hBq RD1.out)
    replace RG := Lib.hid (gr_below hBq RG.out)
    replace RH := Lib.hid (gr_below hBq RH.out)
    replace RC := Lib.hid (gr_below hBq RC.out)
    have HAn := Lib.hid (HA.out.trans (hBq.mono HA.out.size))
    clear HA
    have HA := HAn
    clear HAn
    have PC := Lib.hid (Blk.new wq20 28 [.slice AC NG cC, .slice BC MG dC, .slice CC KG eC])
    clear hBq
    have kc22 := PG.out.cell (j := 0) rfl
    have kc23 := PG.out.cell (j := 1) rfl
    have kc24 := PG.out.cell (j := 2) rfl
    have kc25 := PC.out.cell (j := 0) rfl
    have kc26 := PC.out.cell (j := 1) rfl
    have kc27 := PC.out.cell (j := 2) rfl
    go_wp2_with fail
    generalize wq20.alloc (.cells #[.slice AC NG cC, .slice BC MG dC, .slice CC KG eC] 28) = wb21 at *
    refine (gsame_any AG BG CG NG cG MG dG KG eG AC BC CC NG cC MG dC KG eC (canonG y) (canonG y) _ RG.out RC.out).mono ?_
    rintro r wq28 ⟨rfl, hBq⟩
    replace Px := Lib.hid (Px.out.to hBq)
    replace Py := Lib.hid (Py.out.to hBq)
    replace Pz := Lib.hid (Pz.out.to hBq)
    replace PD1 := Lib.hid (PD1.out.to hBq)
    replace PG := Lib.hid (PG.out.to hBq)
    replace PH := Lib.hid (PH.out.to hBq)
    replace PC := Lib.hid (PC.out.to hBq)
    replace Rx := Lib.hid (gr_below hBq Rx.out)
    replace Ry := Lib.hid (gr_below hBq Ry.out)
    replace Rz := Lib.hid (gr_below hBq Rz.out)
    replace RD1 := Lib.hid (dlt_below hBq RD1.out)
    replace RG := Lib.hid (gr_below hBq RG.out)
    replace RH := Lib.hid (gr_below hBq RH.out)
    replace RC := Lib.hid (gr_below hBq RC.out)
    have HAn := Lib.hid (HA.out.trans (hBq.mono HA.out.size))
    clear HA
    have HA := HAn
    clear HAn
    clear hBq kc22 kc23 kc24 kc25 kc26 kc27
    rw [decide_eq_true (rfl : canonG y = canonG y)]
    have kc29 := PH.out.cell (j := 0) rfl
    have kc30 := PH.out.cell (j := 1) rfl
    have kc31 := PH.out.cell (j := 2) rfl
    have kc32 := PC.out.cell (j := 0) rfl
    have kc33 := PC.out.cell (j := 1) rfl
    have kc34 := PC.out.cell (j := 2) rfl
    go_wp2_with fail
    refine (gsame_any AH BH CH NG cH MG dH KG eH AC BC CC NG cC MG dC KG eC (canonG y) (canonG y) _ RH.out RC.out).mono ?_
    rintro r wq35 ⟨rfl, hBq⟩
    replace Px := Lib.hid (Px.out.to hBq)
    replace Py := Lib.hid (Py.out.to hBq)
    replace Pz := Lib.hid (Pz.out.to hBq)
    replace PD1 := Lib.hid (PD1.out.to hBq)
    replace PG := Lib.hid (PG.out.to hBq)
    replace PH := Lib.hid (PH.out.to hBq)
    replace PC := Lib.hid (PC.out.to hBq)
    replace Rx := Lib.hid (gr_below hBq Rx.out)
    replace Ry := Lib.hid (gr_below hBq Ry.out)
    replace Rz := Lib.hid (gr_below hBq Rz.out)
    replace RD1 := Lib.hid (dlt_below hBq RD1.out)
    replace RG := Lib.hid (gr_below hBq RG.out)
    replace RH := Lib.hid (gr_below hBq RH.out)
    replace RC := Lib.hid (gr_below hBq RC.out)
    have HAn := Lib.hid (HA.out.trans (hBq.mono HA.out.size))
    clear HA
    have HA := HAn
    clear HAn
    clear hBq kc29 kc30 kc31 kc32 kc33 kc34
    rw [decide_eq_true (rfl : canonG y = canonG y)]
    have kc36 := Pz.out.cell (j := 0) rfl
    have kc37 := Pz.out.cell (j := 1) rfl
    have kc38 := Pz.out.cell (j := 2) rfl
    have kc39 := PD1.out.cell (j := 0) rfl
    have kc40 := PD1.out.cell (j := 1) rfl
    have kc41 := PD1.out.cell (j := 2) rfl
    go_wp2_with fail
    have TA := Lib.hid (dapply_any A2 B2 C2 N2 c2 M2 d2 K2 e2 z BD1 CD1 rD1 dD1 lD1 eD1 (makeD x y) _ (HK.out _ HA.out) Rz.out (by rw [HuD1.out]; exact RD1.out) Hfew.out)
    rw [HuD1.out] at TA
    refine (TA.out).mono ?_
    rintro r wq42 ⟨AV, cV, BV, dV, CV, eV, rfl, hV, hBq⟩
    clear TA
    replace Px := Lib.hid (Px.out.to hBq)
    replace Py := Lib.hid (Py.out.to hBq)
    replace Pz := Lib.hid (Pz.out.to hBq)
    replace PD1 := Lib.hid (PD1.out.to hBq)
    replace PG := Lib.hid (PG.out.to hBq)
    replace PH := Lib.hid (PH.out.to hBq)
    replace PC := Lib.hid (PC.out.to hBq)
    replace Rx := Lib.hid (gr_below hBq Rx.out)
    replace Ry := Lib.hid (gr_below hBq Ry.out)
    replace Rz := Lib.hid (gr_below hBq Rz.out)
    replace RD1 := Lib.hid (dlt_below hBq RD1.out)
    replace RG := Lib.hid (gr_below hBq RG.out)
    replace RH := Lib.hid (gr_below hBq RH.out)
    replace RC := Lib.hid (gr_below hBq RC.out)
    have HAn := Lib.hid (HA.out.trans (hBq.mono HA.out.size))
    clear HA
    have HA := HAn
    clear HAn
    clear hBq kc36 kc37 kc38 kc39 kc40 kc41
    generalize hNV : (applyD z (makeD x y)).1.1.length = NV at *
    clear hNV
    generalize hMV : (applyD z (makeD x y)).1.2.1.length = MV at *
    clear hMV
    generalize hKV : (applyD z (makeD x y)).1.2.2.length = KV at *
    clear hKV
    have RV := Lib.hid hV
    clear hV
    have hBq : Below wq42.heap.size wq42 (wq42.alloc (.cells #[.slice AV NV cV, .slice BV MV dV, .slice CV KV eV] 28)) := (Below.refl _ wq42).alloc (Nat.le_refl _) _
    replace Px := Lib.hid (Px.out.to hBq)
    replace Py := Lib.hid (Py.out.to hBq)
    replace Pz := Lib.hid (Pz.out.to hBq)
    replace PD1 := Lib.hid (PD1.out.to hBq)
    replace PG := Lib.hid (PG.out.to hBq)
    replace PH := Lib.hid (PH.out.to hBq)
    replace PC := Lib.hid (PC.out.to hBq)
    replace Rx := Lib.hid (gr_below hBq Rx.out)
    replace Ry := Lib.hid (gr_below hBq Ry.out)
    replace Rz := Lib.hid (gr_below hBq Rz.out)
    replace RD1 := Lib.hid (dlt_below hBq RD1.out)
    replace RG := Lib.hid (gr_below hBq RG.out)
    replace RH := Lib.hid (gr_below hBq RH.out)
    replace RC := Lib.hid (gr_below hBq RC.out)
    replace RV := Lib.hid (gr_below hBq RV.out)
    have HAn := Lib.hid (HA.out.trans (hBq.mono HA.out.size))
    clear HA
    have HA := HAn
    clear HAn
    have PV := Lib.hid (Blk.new wq42 28 [.slice AV NV cV, .slice BV MV dV, .slice CV KV eV])
    clear hBq
    have kc44 := Px.out.cell (j := 0) rfl
    have kc45 := Px.out.cell (j := 1) rfl
    have kc46 := Px.out.cell (j := 2) rfl
    have kc47 := Pz.out.cell (j := 0) rfl
    have kc48 := Pz.out.cell (j := 1) rfl
    have kc49 := Pz.out.cell (j := 2) rfl
    go_wp2_with fail
    generalize wq42.alloc (.cells #[.slice AV NV cV, .slice BV MV dV, .slice CV KV eV] 28) = wb43 at *
    refine (iso_any A B C N c M d K e A2 B2 C2 N2 c2 M2 d2 K2 e2 x z _ Rx.out Rz.out).mono ?_
    rintro r wq50 ⟨rfl, hBq⟩
    replace Px := Lib.hid (Px.out.to hBq)
    replace Py := Lib.hid (Py.out.to hBq)
    replace Pz := Lib.hid (Pz.out.to hBq)
    replace PD1 := Lib.hid (PD1.out.to hBq)
    replace PG := Lib.hid (PG.out.to hBq)
    replace PH := Lib.hid (PH.out.to hBq)
    replace PC := Lib.hid (PC.out.to hBq)
    replace PV := Lib.hid (PV.out.to hBq)
    replace Rx := Lib.hid (gr_below hBq Rx.out)
    replace Ry := Lib.hid (gr_below hBq Ry.out)
    replace Rz := Lib.hid (gr_below hBq Rz.out)
    replace RD1 := Lib.hid (dlt_below hBq RD1.out)
    replace RG := Lib.hid (gr_below hBq RG.out)
    replace RH := Lib.hid (gr_below hBq RH.out)
    replace RC := Lib.hid (gr_below hBq RC.out)
    replace RV := Lib.hid (gr_below hBq RV.out)
    have HAn := Lib.hid (HA.out.trans (hBq.mono HA.out.size))
    clear HA
    have HA := HAn
    clear HAn
    clear hBq kc44 kc45 kc46 kc47 kc48 kc49
    cases hi : isoG x z with
    | false =>
      clear HQl hi
      go_wp2
      go_ret
      exact ⟨rfl, HA.out⟩
    | true =>
      have hq := HQl.out hi
      rw [hq] at RV
      have HqE : Hid ((applyD z (makeD x y)).2 = 0) := Lib.hid (by rw [hq])
      rw [HqE.out]
      clear HQl hi hq HqE
      have kc51 := PV.out.cell (j := 0) rfl
      have kc52 := PV.out.cell (j := 1) rfl
      have kc53 := PV.out.cell (j := 2) rfl
      have kc54 := PC.out.cell (j := 0) rfl
      have kc55 := PC.out.cell (j := 1) rfl
      have kc56 := PC.out.cell (j := 2) rfl
      go_wp2_with fail
      refine (gsame_any AV BV CV NV cV MV dV KV eV AC BC CC NG cC MG dC KG eC (canonG y) (canonG y) _ RV.out RC.out).mono ?_
      rintro r wq57 ⟨rfl, hBq⟩
      replace Px := Lib.hid (Px.out.to hBq)
      replace Py := Lib.hid (Py.out.to hBq)
      replace Pz := Lib.hid (Pz.out.to hBq)
      replace PD1 := Lib.hid (PD1.out.to hBq)
      replace PG := Lib.hid (PG.out.to hBq)
      replace PH := Lib.hid (PH.out.to hBq)
      replace PC := Lib.hid (PC.out.to hBq)
      replace PV := Lib.hid (PV.out.to hBq)
      replace Rx := Lib.hid (gr_below hBq Rx.out)
      replace Ry := Lib.hid (gr_below hBq Ry.out)
      replace Rz := Lib.hid (gr_below hBq Rz.out)
      replace RD1 := Lib.hid (dlt_below hBq RD1.out)
      replace RG := Lib.hid (gr_below hBq RG.out)
      replace RH := Lib.hid (gr_below hBq RH.out)
      replace RC := Lib.hid (gr_below hBq RC.out)
      replace RV := Lib.hid (gr_below hBq RV.out)
      have HAn := Lib.hid (HA.out.trans (hBq.mono HA.out.size))
      clear HA
      have HA := HAn
      clear HAn
      clear hBq kc51 kc52 kc53 kc54 kc55 kc56
      rw [decide_eq_true (rfl : canonG y = canonG y)]
      go_wp2
      go_ret
      exact ⟨rfl, HA.out⟩
end Go.Proofs.YtclbjbhpncpmbaaGreatDoor
