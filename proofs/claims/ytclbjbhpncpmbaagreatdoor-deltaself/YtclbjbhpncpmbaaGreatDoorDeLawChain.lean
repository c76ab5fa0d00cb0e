/- DeltaChain: what becomes of a graph, and then of that, makes what becomes of it at once. Condition: the table of kinds' texts is laid. -/
import Derived.Test.YtclbjbhpncpmbaaGreatDoorDeAwake
import Derived.Test.YtclbjbhpncpmbaaGreatDoorGCanon
namespace Go.Proofs.YtclbjbhpncpmbaaGreatDoor
open Go.RowKit

theorem makeD_few (a b : Gr) : (makeD a b).2.2.length ≤ 1000000 := by
  rw [makeD]
  split
  · rename_i h
    have := ordG_few (makeE_0 h).2.1
    show ((ordG b).mapIdx (itemD a b)).length ≤ _
    rw [List.length_mapIdx]
    omega
  · exact Nat.zero_le _
/-- What becomes of a graph, and then of that. -/
theorem apply_chain {a b c : Gr} (h1 : makeE a b = 0) (h2 : makeE b c = 0) : applyD (canonG b) (makeD b c) = (canonG c, 0) := by
  have hb := (makeE_0 h1).2.1
  rw [apply_like hb (canon_may hb) (canon_twice hb).symm, apply_make h2]


set_option maxRecDepth 100000 in
set_option maxHeartbeats 8000000 in
theorem deltaChain_walk (w : World) (hL : Kt w) (cs : Array Value) (x : Gr) (hx : rGr (All w) w cs.toList x) (cs1 : Array Value) (y : Gr) (hy : rGr (All w) w cs1.toList y) (cs2 : Array Value) (z : Gr) (hz : rGr (All w) w cs2.toList z) :
    Calls Tryz.prog 7 #[.agg cs, .agg cs1, .agg cs2] w fun e w' => e = .returned (.bool true) ∧ Below w.heap.size w w' := by
  obtain ⟨A, c, B, d, C, e, rfl, hx⟩ := gr_arg hx
  obtain ⟨A1, c1, B1, d1, C1, e1, rfl, hy⟩ := gr_arg hy
  obtain ⟨A2, c2, B2, d2, C2, e2, rfl, hz⟩ := gr_arg hz
  have hB0 : Below w.heap.size w (((w.alloc (.cells #[.slice A x.1.length c, .slice B x.2.1.length d, .slice C x.2.2.length e] 28)).alloc (.cells #[.slice A1 y.1.length c1, .slice B1 y.2.1.length d1, .slice C1 y.2.2.length e1] 28)).alloc (.cells #[.slice A2 z.1.length c2, .slice B2 z.2.1.length d2, .slice C2 z.2.2.length e2] 28)) := ((((Below.refl _ w).alloc (Nat.le_refl _) _).alloc (by simp) _).alloc (by simp; omega) _)
  obtain ⟨px, py, pz⟩ := blk_three w 28 28 28 [.slice A x.1.length c, .slice B x.2.1.length d, .slice C x.2.2.length e] [.slice A1 y.1.length c1, .slice B1 y.2.1.length d1, .slice C1 y.2.2.length e1] [.slice A2 z.1.length c2, .slice B2 z.2.1.length d2, .slice C2 z.2.2.length e2]
  have Fx := Lib.hid (fun W (hW : Below w.heap.size w W) => gfew_any A B C x.1.length c x.2.1.length d x.2.2.length e x W (gr_below hW hx))
  have Rx := Lib.hid (fun W (hW : Below w.heap.size w W) => gr_below hW hx)
  have Fy := Lib.hid (fun W (hW : Below w.heap.size w W) => gfew_any A1 B1 C1 y.1.length c1 y.2.1.length d1 y.2.2.length e1 y W (gr_below hW hy))
  have Ry := Lib.hid (fun W (hW : Below w.heap.size w W) => gr_below hW hy)
  have Fz := Lib.hid (fun W (hW : Below w.heap.size w W) => gfew_any A2 B2 C2 z.1.length c2 z.2.1.length d2 z.2.2.length e2 z W (gr_below hW hz))
  have Rz := Lib.hid (fun W (hW : Below w.heap.size w W) => gr_below hW hz)
  have HK := Lib.hid (fun W (hW : Below w.heap.size w W) => hL.below hW)
  have Px := Lib.hid px
  have Py := Lib.hid py
  have Pz := Lib.hid pz
  have H0 := Lib.hid hB0
  clear hL hB0 hx px hy py hz pz
  generalize hfx : fewG x = fx at *
  have HFx := Lib.hid hfx
  clear hfx
  generalize hNx : x.1.length = N at *
  have HNx := Lib.hid hNx
  clear hNx
  generalize hMx : x.2.1.length = M at *
  have HMx := Lib.hid hMx
  clear hMx
  generalize hKx : x.2.2.length = K at *
  have HKx := Lib.hid hKx
  clear hKx
  generalize hfy : fewG y = fy at *
  have HFy := Lib.hid hfy
  clear hfy
  generalize hNy : y.1.length = N1 at *
  have HNy := Lib.hid hNy
  clear hNy
  generalize hMy : y.2.1.length = M1 at *
  have HMy := Lib.hid hMy
  clear hMy
  generalize hKy : y.2.2.length = K1 at *
  have HKy := Lib.hid hKy
  clear hKy
  generalize hfz : fewG z = fz at *
  have HFz := Lib.hid hfz
  clear hfz
  generalize hNz : z.1.length = N2 at *
  have HNz := Lib.hid hNz
  clear hNz
  generalize hMz : z.2.1.length = M2 at *
  have HMz := Lib.hid hMz
  clear hMz
  generalize hKz : z.2.2.length = K2 at *
  have HKz := Lib.hid hKz
  clear hKz
  go_enter Tryz.func7, Tryz.ntmps7
  go_wp2_with fail
  generalize (((w.alloc (.cells #[.slice A N c, .slice B M d, .slice C K e] 28)).alloc (.cells #[.slice A1 N1 c1, .slice B1 M1 d1, .slice C1 K1 e1] 28)).alloc (.cells #[.slice A2 N2 c2, .slice B2 M2 d2, .slice C2 K2 e2] 28)) = w1 at *
  refine (dawake_any _ (HK.out _ H0.out)).mono ?_
  rintro r wk ⟨rfl, hBk⟩
  have HA := Lib.hid (H0.out.trans (hBk.mono H0.out.size))
  replace Px := Lib.hid (Px.out.to hBk)
  replace Py := Lib.hid (Py.out.to hBk)
  replace Pz := Lib.hid (Pz.out.to hBk)
  clear hBk H0
  have a0 := Px.out.cell (j := 0) rfl
  have a1 := Px.out.cell (j := 1) rfl
  have a2 := Px.out.cell (j := 2) rfl
  go_wp2_with fail
  refine (Fx.out _ HA.out).mono ?_
  rintro r wf0 ⟨rfl, hBk⟩
  have HA0 := Lib.hid (HA.out.trans (hBk.mono HA.out.size))
  replace Px := Lib.hid (Px.out.to hBk)
  replace Py := Lib.hid (Py.out.to hBk)
  replace Pz := Lib.hid (Pz.out.to hBk)
  clear a0 a1 a2 hBk HA
  have HA := HA0
  clear HA0
  have a0 := Py.out.cell (j := 0) rfl
  have a1 := Py.out.cell (j := 1) rfl
  have a2 := Py.out.cell (j := 2) rfl
  go_wp2_with fail
  refine (Fy.out _ HA.out).mono ?_
  rintro r wf1 ⟨rfl, hBk⟩
  have HA1 := Lib.hid (HA.out.trans (hBk.mono HA.out.size))
  replace Px := Lib.hid (Px.out.to hBk)
  replace Py := Lib.hid (Py.out.to hBk)
  replace Pz := Lib.hid (Pz.out.to hBk)
  clear a0 a1 a2 hBk HA
  have HA := HA1
  clear HA1
  have a0 := Pz.out.cell (j := 0) rfl
  have a1 := Pz.out.cell (j := 1) rfl
  have a2 := Pz.out.cell (j := 2) rfl
  go_wp2_with fail
  refine (Fz.out _ HA.out).mono ?_
  rintro r wf2 ⟨rfl, hBk⟩
  have HA2 := Lib.hid (HA.out.trans (hBk.mono HA.out.size))
  replace Px := Lib.hid (Px.out.to hBk)
  replace Py := Lib.hid (Py.out.to hBk)
  replace Pz := Lib.hid (Pz.out.to hBk)
  clear a0 a1 a2 hBk HA
  have HA := HA2
  clear HA2
  cases fx
  · go_wp2
    go_ret
    exact ⟨rfl, HA.out⟩
  cases fy
  · go_wp2
    go_ret
    exact ⟨rfl, HA.out⟩
  cases fz
  · go_wp2
    go_ret
    exact ⟨rfl, HA.out⟩
  replace Rx := Lib.hid (Rx.out _ HA.out)
  replace Ry := Lib.hid (Ry.out _ HA.out)
  replace Rz := Lib.hid (Rz.out _ HA.out)
  have kc1 := Px.out.cell (j := 0) rfl
  have kc2 := Px.out.cell (j := 1) rfl
  have kc3 := Px.out.cell (j := 2) rfl
  have kc4 := Py.out.cell (j := 0) rfl
  have kc5 := Py.out.cell (j := 1) rfl
  have kc6 := Py.out.cell (j := 2) rfl
  go_wp2_with fail
  refine (dmake_any A B C N c M d K e A1 B1 C1 N1 c1 M1 d1 K1 e1 x y _ (HK.out _ HA.out) Rx.out Ry.out).mono ?_
  rintro r wq7 ⟨BD1, dD1, CD1, eD1, rfl, hD1, hBq⟩
  replace Px := Lib.hid (Px.out.to hBq)
  replace Py := Lib.hid (Py.out.to hBq)
  replace Pz := Lib.hid (Pz.out.to hBq)
  replace Rx := Lib.hid (gr_below hBq Rx.out)
  replace Ry := Lib.hid (gr_below hBq Ry.out)
  replace Rz := Lib.hid (gr_below hBq Rz.out)
  have HAn := Lib.hid (HA.out.trans (hBq.mono HA.out.size))
  clear HA
  have HA := HAn
  clear HAn
  clear hBq kc1 kc2 kc3 kc4 kc5 kc6
  generalize huD1 : (makeD x y).1 = uD1 at *
  have HuD1 := Lib.hid huD1
  clear huD1
  generalize hrD1 : (makeD x y).2.1.length = rD1 at *
  have HrD1 := Lib.hid hrD1
  clear hrD1
  generalize hlD1 : (makeD x y).2.2.length = lD1 at *
  have HlD1 := Lib.hid hlD1
  clear hlD1
  have RD1 := Lib.hid hD1
  clear hD1
  have hBq : Below wq7.heap.size wq7 (wq7.alloc (.cells #[.int .u32 uD1, .slice BD1 rD1 dD1, .slice CD1 lD1 eD1] 32)) := (Below.refl _ wq7).alloc (Nat.le_refl _) _
  replace Px := Lib.hid (Px.out.to hBq)
  replace Py := Lib.hid (Py.out.to hBq)
  replace Pz := Lib.hid (Pz.out.to hBq)
  replace Rx := Lib.hid (gr_below hBq Rx.out)
  replace Ry := Lib.hid (gr_below hBq Ry.out)
  replace Rz := Lib.hid (gr_below hBq Rz.out)
  replace RD1 := Lib.hid (dlt_below hBq RD1.out)
  have HAn := Lib.hid (HA.out.trans (hBq.mono HA.out.size))
  clear HA
  have HA := HAn
  clear HAn
  have PD1 := Lib.hid (Blk.new wq7 32 [.int .u32 uD1, .slice BD1 rD1 dD1, .slice CD1 lD1 eD1])
  clear hBq
  have kc9 := Py.out.cell (j := 0) rfl
  have kc10 := Py.out.cell (j := 1) rfl
  have kc11 := Py.out.cell (j := 2) rfl
  have kc12 := Pz.out.cell (j := 0) rfl
  have kc13 := Pz.out.cell (j := 1) rfl
  have kc14 := Pz.out.cell (j := 2) rfl
  go_wp2_with fail
  generalize wq7.alloc (.cells #[.int .u32 uD1, .slice BD1 rD1 dD1, .slice CD1 lD1 eD1] 32) = wb8 at *
  refine (dmake_any A1 B1 C1 N1 c1 M1 d1 K1 e1 A2 B2 C2 N2 c2 M2 d2 K2 e2 y z _ (HK.out _ HA.out) Ry.out Rz.out).mono ?_
  rintro r wq15 ⟨BD2, dD2, CD2, eD2, rfl, hD2, hBq⟩
  replace Px := Lib.hid (Px.out.to hBq)
  replace Py := Lib.hid (Py.out.to hBq)
  replace Pz := Lib.hid (Pz.out.to hBq)
  replace PD1 := Lib.hid (PD1.out.to hBq)
  replace Rx := Lib.hid (gr_below hBq Rx.out)
  replace Ry := Lib.hid (gr_below hBq Ry.out)
  replace Rz := Lib.hid (gr_below hBq Rz.out)
  replace RD1 := Lib.hid (dlt_below hBq RD1.out)
  have HAn := Lib.hid (HA.out.trans (hBq.mono HA.out.size))
  clear HA
  have HA := HAn
  clear HAn
  clear hBq kc9 kc10 kc11 kc12 kc13 kc14
  generalize huD2 : (makeD y z).1 = uD2 at *
  have HuD2 := Lib.hid huD2
  clear huD2
  generalize hrD2 : (makeD y z).2.1.length = rD2 at *
  have HrD2 := Lib.hid hrD2
  clear hrD2
  generalize hlD2 : (makeD y z).2.2.length = lD2 at *
  have HlD2 := Lib.hid hlD2
  clear hlD2
  have RD2 := Lib.hid hD2
  clear hD2
  have hBq : Below wq15.heap.size wq15 (wq15.alloc (.cells #[.int .u32 uD2, .slice BD2 rD2 dD2, .slice CD2 lD2 eD2] 32)) := (Below.refl _ wq15).alloc (Nat.le_refl _) _
  replace Px := Lib.hid (Px.out.to hBq)
  replace Py := Lib.hid (Py.out.to hBq)
  replace Pz := Lib.hid (Pz.out.to hBq)
  replace PD1 := Lib.hid (PD1.out.to hBq)
  replace Rx := Lib.hid (gr_below hBq Rx.out)
  replace Ry := Lib.hid (gr_below hBq Ry.out)
  replace Rz := Lib.hid (gr_below hBq Rz.out)
  replace RD1 := Lib.hid (dlt_below hBq RD1.out)
  replace RD2 := Lib.hid (dlt_below hBq RD2.out)
  have HAn := Lib.hid (HA.out.trans (hBq.mono HA.out.size))
  clear HA
  have HA := HAn
  clear HAn
  have PD2 := Lib.hid (Blk.new wq15 32 [.int .u32 uD2, .slice BD2 rD2 dD2, .slice CD2 lD2 eD2])
  clear hBq
  have kc17 := Px.out.cell (j := 0) rfl
  have kc18 := Px.out.cell (j := 1) rfl
  have kc19 := Px.out.cell (j := 2) rfl
  have kc20 := Pz.out.cell (j := 0) rfl
  have kc21 := Pz.out.cell (j := 1) rfl
  have kc22 := Pz.out.cell (j := 2) rfl
  go_wp2_with fail
  generalize wq15.alloc (.cells #[.int .u32 uD2, .slice BD2 rD2 dD2, .slice CD2 lD2 eD2] 32) = wb16 at *
  refine (dmake_any A B C N c M d K e A2 B2 C2 N2 c2 M2 d2 K2 e2 x z _ (HK.out _ HA.out) Rx.out Rz.out).mono ?_
  rintro r wq23 ⟨BD3, dD3, CD3, eD3, rfl, hD3, hBq⟩
  replace Px := Lib.hid (Px.out.to hBq)
  replace Py := Lib.hid (Py.out.to hBq)
  replace Pz := Lib.hid (Pz.out.to hBq)
  replace PD1 := Lib.hid (PD1.out.to hBq)
  replace PD2 := Lib.hid (PD2.out.to hBq)
  replace Rx := Lib.hid (gr_below hBq Rx.out)
  replace Ry := Lib.hid (gr_below hBq Ry.out)
  replace Rz := Lib.hid (gr_below hBq Rz.out)
  replace RD1 := Lib.hid (dlt_below hBq RD1.out)
  replace RD2 := Lib.hid (dlt_below hBq RD2.out)
  have HAn := Lib.hid (HA.out.trans (hBq.mono HA.out.size))
  clear HA
  have HA := HAn
  clear HAn
  clear hBq kc17 kc18 kc19 kc20 kc21 kc22
  generalize huD3 : (makeD x z).1 = uD3 at *
  have HuD3 := Lib.hid huD3
  clear huD3
  generalize hrD3 : (makeD x z).2.1.length = rD3 at *
  have HrD3 := Lib.hid hrD3
  clear hrD3
  generalize hlD3 : (makeD x z).2.2.length = lD3 at *
  have HlD3 := Lib.hid hlD3
  clear hlD3
  have RD3 := Lib.hid hD3
  clear hD3
  have hBq : Below wq23.heap.size wq23 (wq23.alloc (.cells #[.int .u32 uD3, .slice BD3 rD3 dD3, .slice CD3 lD3 eD3] 32)) := (Below.refl _ wq23).alloc (Nat.le_refl _) _
  replace Px := Lib.hid (Px.out.to hBq)
  replace Py := Lib.hid (Py.out.to hBq)
  replace Pz := Lib.hid (Pz.out.to hBq)
  replace PD1 := Lib.hid (PD1.out.to hBq)
  replace PD2 := Lib.hid (PD2.out.to hBq)
  replace Rx := Lib.hid (gr_below hBq Rx.out)
  replace Ry := Lib.hid (gr_below hBq Ry.out)
  replace Rz := Lib.hid (gr_below hBq Rz.out)
  replace RD1 := Lib.hid (dlt_below hBq RD1.out)
  replace RD2 := Lib.hid (dlt_below hBq RD2.out)
  replace RD3 := Lib.hid (dlt_below hBq RD3.out)
  have HAn := Lib.hid (HA.out.trans (hBq.mono HA.out.size))
  clear HA
  have HA := HAn
  clear HAn
  have PD3 := Lib.hid (Blk.new wq23 32 [.int .u32 uD3, .slice BD3 rD3 dD3, .slice CD3 lD3 eD3])
  clear hBq
  have HE1 : Hid (makeE x y = makeE x y) := Lib.hid rfl
  by_cases he : makeE x y = 0 ∧ makeE y z = 0 ∧ makeE x z = 0
  rotate_left
  · have hor : (makeE x y != 0) = true ∨ ((makeE x y != 0) = false ∧ (makeE y z != 0) = true) ∨ ((makeE x y != 0) = false ∧ (makeE y z != 0) = false ∧ (makeE x z != 0) = true) := by
      by_cases h1 : makeE x y = 0
      · by_cases h2 : makeE y z = 0
        · exact .inr (.inr ⟨by simpa using h1, by simpa using h2, by have : makeE x z ≠ 0 := fun h3 => he ⟨h1, h2, h3⟩; simpa using this⟩)
        · exact .inr (.inl ⟨by simpa using h1, by simpa using h2⟩)
      · exact .inl (by simpa using h1)
    clear he HE1
    generalize makeE x y = E1 at *
    generalize makeE y z = E2 at *
    generalize makeE x z = E3 at *
    rcases hor with h1 | ⟨h1, h2⟩ | ⟨h1, h2, h3⟩
    · go_wp2
      go_ret
      exact ⟨rfl, HA.out⟩
    · go_wp2
      go_ret
      exact ⟨rfl, HA.out⟩
    · go_wp2
      go_ret
      exact ⟨rfl, HA.out⟩
  obtain ⟨he1, he2, he3⟩ := he
  have HQ1 := Lib.hid (apply_make he1)
  have HQ2 := Lib.hid (apply_chain he1 he2)
  have HQ3 := Lib.hid (apply_make he3)
  rw [he1, he2, he3]
  clear he1 he2 he3 HE1
  have kc25 := Px.out.cell (j := 0) rfl
  have kc26 := Px.out.cell (j := 1) rfl
  have kc27 := Px.out.cell (j := 2) rfl
  have kc28 := PD1.out.cell (j := 0) rfl
  have kc29 := PD1.out.cell (j := 1) rfl
  have kc30 := PD1.out.cell (j := 2) rfl
  go_wp2_with fail
  generalize wq23.alloc (.cells #[.int .u32 uD3, .slice BD3 rD3 dD3, .slice CD3 lD3 eD3] 32) = wb24 at *
  have TA := Lib.hid (dapply_any A B C N c M d K e x BD1 CD1 rD1 dD1 lD1 eD1 (makeD x y) _ (HK.out _ HA.out) Rx.out (by rw [HuD1.out]; exact RD1.out) (by have := makeD_few x y; have := HlD1.out; omega))
  rw [HuD1.out, HQ1.out] at TA
  dsimp only at TA
  refine (TA.out).mono ?_
  rintro r wq31 ⟨AH, cH, BH, dH, CH, eH, rfl, hH, hBq⟩
  clear TA
  replace Px := Lib.hid (Px.out.to hBq)
  replace Py := Lib.hid (Py.out.to hBq)
  replace Pz := Lib.hid (Pz.out.to hBq)
  replace PD1 := Lib.hid (PD1.out.to hBq)
  replace PD2 := Lib.hid (PD2.out.to hBq)
  replace PD3 := Lib.hid (PD3.out.to hBq)
  replace Rx := Lib.hid (gr_below hBq Rx.out)
  replace Ry := Lib.hid (gr_below hBq Ry.out)
  replace Rz := Lib.hid (gr_below hBq Rz.out)
  replace RD1 := Lib.hid (dlt_below hBq RD1.out)
  replace RD2 := Lib.hid (dlt_below hBq RD2.out)
  replace RD3 := Lib.hid (dlt_below hBq RD3.out)
  have HAn := Lib.hid (HA.out.trans (hBq.mono HA.out.size))
  clear HA
  have HA := HAn
  clear HAn
  clear hBq kc25 kc26 kc27 kc28 kc29 kc30
  generalize hNH : (canonG y).1.length = NH at *
  clear hNH
  generalize hMH : (canonG y).2.1.length = MH at *
  clear hMH
  generalize hKH : (canonG y).2.2.length = KH at *
  clear hKH
  have RH := Lib.hid hH
  clear hH
  have hBq : Below wq31.heap.size wq31 (wq31.alloc (.cells #[.slice AH NH cH, .slice BH MH dH, .slice CH KH eH] 28)) := (Below.refl _ wq31).alloc (Nat.le_refl _) _
  replace Px := Lib.hid (Px.out.to hBq)
  replace Py := Lib.hid (Py.out.to hBq)
  replace Pz := Lib.hid (Pz.out.to hBq)
  replace PD1 := Lib.hid (PD1.out.to hBq)
  replace PD2 := Lib.hid (PD2.out.to hBq)
  replace PD3 := Lib.hid (PD3.out.to hBq)
  replace Rx := Lib.hid (gr_below hBq Rx.out)
  replace Ry := Lib.hid (gr_below hBq Ry.out)
  replace Rz := Lib.hid (gr_below hBq Rz.out)
  replace RD1 := Lib.hid (dlt_below hBq RD1.out)
  replace RD2 := Lib.hid (dlt_below hBq RD2.out)
  replace RD3 := Lib.hid (dlt_below hBq RD3.out)
  replace RH := Lib.hid (gr_below hBq RH.out)
  have HAn := Lib.hid (HA.out.trans (hBq.mono HA.out.size))
  clear HA
  have HA := HAn
  clear HAn
  have PH := Lib.hid (Blk.new wq31 28 [.slice AH NH cH, .slice BH MH dH, .slice CH KH eH])
  clear hBq
  have kc33 := PH.out.cell (j := 0) rfl
  have kc34 := PH.out.cell (j := 1) rfl
  have kc35 := PH.out.cell (j := 2) rfl
  have kc36 := PD2.out.cell (j := 0) rfl
  have kc37 := PD2.out.cell (j := 1) rfl
  have kc38 := PD2.out.cell (j := 2) rfl
  go_wp2_with fail
  generalize wq31.alloc (.cells #[.slice AH NH cH, .slice BH MH dH, .slice CH KH eH] 28) = wb32 at *
  have TA := Lib.hid (dapply_any AH BH CH NH cH MH dH KH eH (canonG y) BD2 CD2 rD2 dD2 lD2 eD2 (makeD y z) _ (HK.out _ HA.out) RH.out (by rw [HuD2.out]; exact RD2.out) (by have := makeD_few y z; have := HlD2.out; omega))
  rw [HuD2.out, HQ2.out] at TA
  dsimp only at TA
  refine (TA.out).mono ?_
  rintro r wq39 ⟨AJ, cJ, BJ, dJ, CJ, eJ, rfl, hJ, hBq⟩
  clear TA
  replace Px := Lib.hid (Px.out.to hBq)
  replace Py := Lib.hid (Py.out.to hBq)
  replace Pz := Lib.hid (Pz.out.to hBq)
  replace PD1 := Lib.hid (PD1.out.to hBq)
  replace PD2 := Lib.hid (PD2.out.to hBq)
  replace PD3 := Lib.hid (PD3.out.to hBq)
  replace PH := Lib.hid (PH.out.to hBq)
  replace Rx := Lib.hid (gr_below hBq Rx.out)
  replace Ry := Lib.hid (gr_below hBq Ry.out)
  replace Rz := Lib.hid (gr_below hBq Rz.out)
  replace RD1 := Lib.hid (dlt_below hBq RD1.out)
  replace RD2 := Lib.hid (dlt_below hBq RD2.out)
  replace RD3 := Lib.hid (dlt_below hBq RD3.out)
  replace RH := Lib.hid (gr_below hBq RH.out)
  have HAn := Lib.hid (HA.out.trans (hBq.mono HA.out.size))
  clear HA
  have HA := HAn
  clear HAn
  clear hBq kc33 kc34 kc35 kc36 kc37 kc38
  generalize hNJ : (canonG z).1.length = NJ at *
  clear hNJ
  generalize hMJ : (canonG z).2.1.length = MJ at *
  clear hMJ
  generalize hKJ : (canonG z).2.2.length = KJ at *
  clear hKJ
  have RJ := Lib.hid hJ
  clear hJ
  have hBq : Below wq39.heap.size wq39 (wq39.alloc (.cells #[.slice AJ NJ cJ, .slice BJ MJ dJ, .slice CJ KJ eJ] 28)) := (Below.refl _ wq39).alloc (Nat.le_refl _) _
  replace Px := Lib.hid (Px.out.to hBq)
  replace Py := Lib.hid (Py.out.to hBq)
  replace Pz := Lib.hid (Pz.out.to hBq)
  replace PD1 := Lib.hid (PD1.out.to hBq)
  replace PD2 := Lib.hid (PD2.out.to hBq)
  replace PD3 := Lib.hid (PD3.out.to hBq)
  replace PH := Lib.hid (PH.out.to hBq)
  replace Rx := Lib.hid (gr_below hBq Rx.out)
  replace Ry := Lib.hid (gr_below hBq Ry.out)
  replace Rz := Lib.hid (gr_below hBq Rz.out)
  replace RD1 := Lib.hid (dlt_below hBq RD1.out)
  replace RD2 := Lib.hid (dlt_below hBq RD2.out)
  replace RD3 := Lib.hid (dlt_below hBq RD3.out)
  replace RH := Lib.hid (gr_below hBq RH.out)
  replace RJ := Lib.hid (gr_below hBq RJ.out)
  have HAn := Lib.hid (HA.out.trans (hBq.mono HA.out.size))
  clear HA
  have HA := HAn
  clear HAn
  have PJ := Lib.hid (Blk.new wq39 28 [.slice AJ NJ cJ, .slice BJ MJ dJ, .slice CJ KJ eJ])
  clear hBq
  have kc41 := Px.out.cell (j := 0) rfl
  have kc42 := Px.out.cell (j := 1) rfl
  have kc43 := Px.out.cell (j := 2) rfl
  have kc44 := PD3.out.cell (j := 0) rfl
  have kc45 := PD3.out.cell (j := 1) rfl
  have kc46 := PD3.out.cell (j := 2) rfl
  go_wp2_with fail
  generalize wq39.alloc (.cells #[.slice AJ NJ cJ, .slice BJ MJ dJ, .slice CJ KJ eJ] 28) = wb40 at *
  have TA := Lib.hid (dapply_any A B C N c M d K e x BD3 CD3 rD3 dD3 lD3 eD3 (makeD x z) _ (HK.out _ HA.out) Rx.out (by rw [HuD3.out]; exact RD3.out) (by have := makeD_few x z; have := HlD3.out; omega))
  rw [HuD3.out, HQ3.out] at TA
  dsimp only at TA
  refine (TA.out).mono ?_
  rintro r wq47 ⟨AV, cV, BV, dV, CV, eV, rfl, hV, hBq⟩
  clear TA
  replace Px := Lib.hid (Px.out.to hBq)
  replace Py := Lib.hid (Py.out.to hBq)
  replace Pz := Lib.hid (Pz.out.to hBq)
  replace PD1 := Lib.hid (PD1.out.to hBq)
  replace PD2 := Lib.hid (PD2.out.to hBq)
  replace PD3 := Lib.hid (PD3.out.to hBq)
  replace PH := Lib.hid (PH.out.to hBq)
  replace PJ := Lib.hid (PJ.out.to hBq)
  replace Rx := Lib.hid (gr_below hBq Rx.out)
  replace Ry := Lib.hid (gr_below hBq Ry.out)
  replace Rz := Lib.hid (gr_below hBq Rz.out)
  replace RD1 := Lib.hid (dlt_below hBq RD1.out)
  replace RD2 := Lib.hid (dlt_below hBq RD2.out)
  replace RD3 := Lib.hid (dlt_below hBq RD3.out)
  replace RH := Lib.hid (gr_below hBq RH.out)
  replace RJ := Lib.hid (gr_below hBq RJ.out)
  have HAn := Lib.hid (HA.out.trans (hBq.mono HA.out.size))
  clear HA
  have HA := HAn
  clear HAn
  clear hBq kc41 kc42 kc43 kc44 kc45 kc46
  generalize hNV : (canonG z).1.length = NV at *
  clear hNV
  generalize hMV : (canonG z).2.1.length = MV at *
  clear hMV
  generalize hKV : (canonG z).2.2.length = KV at *
  clear hKV
  have RV := Lib.hid hV
  clear hV
  have hBq : Below wq47.heap.size wq47 (wq47.alloc (.cells #[.slice AV NV cV, .slice BV MV dV, .slice CV KV eV] 28)) := (Below.refl _ wq47).alloc (Nat.le_refl _) _
  replace Px := Lib.hid (Px.out.to hBq)
  replace Py := Lib.hid (Py.out.to hBq)
  replace Pz := Lib.hid (Pz.out.to hBq)
  replace PD1 := Lib.hid (PD1.out.to hBq)
  replace PD2 := Lib.hid (PD2.out.to hBq)
  replace PD3 := Lib.hid (PD3.out.to hBq)
  replace PH := Lib.hid (PH.out.to hBq)
  replace PJ := Lib.hid (PJ.out.to hBq)
  replace Rx := Lib.hid (gr_below hBq Rx.out)
  replace Ry := Lib.hid (gr_below hBq Ry.out)
  replace Rz := Lib.hid (gr_below hBq Rz.out)
  replace RD1 := Lib.hid (dlt_below hBq RD1.out)
  replace RD2 := Lib.hid (dlt_below hBq RD2.out)
  replace RD3 := Lib.hid (dlt_below hBq RD3.out)
  replace RH := Lib.hid (gr_below hBq RH.out)
  replace RJ := Lib.hid (gr_below hBq RJ.out)
  replace RV := Lib.hid (gr_below hBq RV.out)
  have HAn := Lib.hid (HA.out.trans (hBq.mono HA.out.size))
  clear HA
  have HA := HAn
  clear HAn
  have PV := Lib.hid (Blk.new wq47 28 [.slice AV NV cV, .slice BV MV dV, .slice CV KV eV])
  clear hBq
  have kc49 := PJ.out.cell (j := 0) rfl
  have kc50 := PJ.out.cell (j := 1) rfl
  have kc51 := PJ.out.cell (j := 2) rfl
  have kc52 := PV.out.cell (j := 0) rfl
  have kc53 := PV.out.cell (j := 1) rfl
  have kc54 := PV.out.cell (j := 2) rfl
  go_wp2_with fail
  generalize wq47.alloc (.cells #[.slice AV NV cV, .slice BV MV dV, .slice CV KV eV] 28) = wb48 at *
  refine (gsame_any AJ BJ CJ NJ cJ MJ dJ KJ eJ AV BV CV NV cV MV dV KV eV (canonG z) (canonG z) _ RJ.out RV.out).mono ?_
  rintro r wq55 ⟨rfl, hBq⟩
  replace Px := Lib.hid (Px.out.to hBq)
  replace Py := Lib.hid (Py.out.to hBq)
  replace Pz := Lib.hid (Pz.out.to hBq)
  replace PD1 := Lib.hid (PD1.out.to hBq)
  replace PD2 := Lib.hid (PD2.out.to hBq)
  replace PD3 := Lib.hid (PD3.out.to hBq)
  replace PH := Lib.hid (PH.out.to hBq)
  replace PJ := Lib.hid (PJ.out.to hBq)
  replace PV := Lib.hid (PV.out.to hBq)
  replace Rx := Lib.hid (gr_below hBq Rx.out)
  replace Ry := Lib.hid (gr_below hBq Ry.out)
  replace Rz := Lib.hid (gr_below hBq Rz.out)
  replace RD1 := Lib.hid (dlt_below hBq RD1.out)
  replace RD2 := Lib.hid (dlt_below hBq RD2.out)
  replace RD3 := Lib.hid (dlt_below hBq RD3.out)
  replace RH := Lib.hid (gr_below hBq RH.out)
  replace RJ := Lib.hid (gr_below hBq RJ.out)
  replace RV := Lib.hid (gr_below hBq RV.out)
  have HAn := Lib.hid (HA.out.trans (hBq.mono HA.out.size))
  clear HA
  have HA := HAn
  clear HAn
  clear hBq kc49 kc50 kc51 kc52 kc53 kc54
  rw [decide_eq_true (rfl : canonG z = canonG z)]
  go_wp2
  go_ret
  exact ⟨rfl, HA.out⟩
end Go.Proofs.YtclbjbhpncpmbaaGreatDoor
