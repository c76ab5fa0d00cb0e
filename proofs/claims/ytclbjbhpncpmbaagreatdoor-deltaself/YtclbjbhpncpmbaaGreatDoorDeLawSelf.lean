/- DeltaSelf: of a graph that stays as it is nothing is set; of any other one, of the same kind, something is, or is new, or gone, or roots are others. Condition: the table of kinds' texts is laid. -/
import Derived.Test.YtclbjbhpncpmbaaGreatDoorDeLawChain
import Derived.Test.YtclbjbhpncpmbaaGreatDoorDeAwake
import Derived.Test.YtclbjbhpncpmbaaGreatDoorGCanon
namespace Go.Proofs.YtclbjbhpncpmbaaGreatDoor
open Go.RowKit

theorem kind_self {a : Gr} (ha : mayG a = true) : kindG a a = true := by
  rw [kindG, Bool.and_eq_true, List.all_eq_true]
  refine ⟨fun o ho => ?_, decide_eq_true rfl⟩
  rw [Bool.or_eq_true, decide_eq_true_eq, decide_eq_true_eq]
  exact .inr (typG_of (riseG_sorted (mayG_parts ha).2.2.1) ho).2
theorem make_self {a b : Gr} (h : makeE a b = 0) : makeE a a = 0 := by
  obtain ⟨h1, -, -, h4⟩ := makeE_0 h
  rw [makeE, h1, if_pos (show (true && true) = true from rfl), if_pos (kind_self h1), h4]
theorem item_at {a b : Gr} (h : makeE a b = 0) {i : Nat} {x : Itm} (hx : (makeD a b).2.2[i]? = some x) : ∃ y, (ordG b)[i]? = some y ∧ x = itemD a b i y := by
  rw [makeD_yes h] at hx
  simp only at hx
  rw [List.getElem?_mapIdx] at hx
  cases hz : (ordG b)[i]? with
  | none => rw [hz] at hx; cases hx
  | some z =>
    rw [hz] at hx
    injection hx with hx
    exact ⟨z, rfl, hx.symm⟩
/-- Nothing is set, new or gone, and roots are the same. -/
theorem self_still {a b : Gr} (h : makeE a b = 0) (hl : (makeD a b).2.2.length = (reachG a).length) (hs : ∀ (j : Nat) x, j < (makeD a b).2.2.length → (makeD a b).2.2[j]? = some x → x.2.2 = [] ∧ x.1 = (j : Int)) (hr : (makeD a b).2.1 = (canonG a).2.2) : isoG a b = true := by
  obtain ⟨ha, hb, -, -⟩ := makeE_0 h
  rw [makeD_yes h] at hl hs hr
  simp only at hl hs hr
  rw [List.length_mapIdx] at hl hs
  refine self_iso h (hl.trans (ordG_len ha).symm) (fun i x hx => ?_) hr
  have := hs i (itemD a b i x) (List.getElem?_eq_some_iff.1 hx).1 (by rw [List.getElem?_mapIdx, hx]; rfl)
  exact ⟨this.2, this.1⟩
theorem field2 (x y z : Value) (hx : (match x with | .slice _ _ _ => true | _ => false) = true) (hy : (match y with | .slice _ _ _ => true | _ => false) = true) (hz : (match z with | .slice _ _ _ => true | _ => false) = true) (W : World) : (Instr.field 28 (.agg #[x, y, z]) 2).run Tryz.prog W = .ok z W := by
  cases x <;> cases y <;> cases z <;> first | (cases hx; done) | (cases hy; done) | (cases hz; done) | kernel_rfl


set_option maxRecDepth 100000 in
set_option maxHeartbeats 8000000 in
theorem deltaSelf_walk (w : World) (hL : Kt w) (cs : Array Value) (x : Gr) (hx : rGr (All w) w cs.toList x) (cs1 : Array Value) (y : Gr) (hy : rGr (All w) w cs1.toList y) :
    Calls Tryz.prog 6 #[.agg cs, .agg cs1] w fun e w' => e = .returned (.bool true) ∧ Below w.heap.size w w' := by
  obtain ⟨A, c, B, d, C, e, rfl, hx⟩ := gr_arg hx
  obtain ⟨A1, c1, B1, d1, C1, e1, rfl, hy⟩ := gr_arg hy
  have hB0 : Below w.heap.size w ((w.alloc (.cells #[.slice A x.1.length c, .slice B x.2.1.length d, .slice C x.2.2.length e] 28)).alloc (.cells #[.slice A1 y.1.length c1, .slice B1 y.2.1.length d1, .slice C1 y.2.2.length e1] 28)) := (((Below.refl _ w).alloc (Nat.le_refl _) _).alloc (by simp) _)
  obtain ⟨px, py⟩ := blk_two w 28 28 [.slice A x.1.length c, .slice B x.2.1.length d, .slice C x.2.2.length e] [.slice A1 y.1.length c1, .slice B1 y.2.1.length d1, .slice C1 y.2.2.length e1]
  have Fx := Lib.hid (fun W (hW : Below w.heap.size w W) => gfew_any A B C x.1.length c x.2.1.length d x.2.2.length e x W (gr_below hW hx))
  have Rx := Lib.hid (fun W (hW : Below w.heap.size w W) => gr_below hW hx)
  have Fy := Lib.hid (fun W (hW : Below w.heap.size w W) => gfew_any A1 B1 C1 y.1.length c1 y.2.1.length d1 y.2.2.length e1 y W (gr_below hW hy))
  have Ry := Lib.hid (fun W (hW : Below w.heap.size w W) => gr_below hW hy)
  have HK := Lib.hid (fun W (hW : Below w.heap.size w W) => hL.below hW)
  have Px := Lib.hid px
  have Py := Lib.hid py
  have H0 := Lib.hid hB0
  clear hL hB0 hx px hy py
  generalize hfx : fewG x = fx at *
  have HFx := Lib.hid hfx
  clear hfx
  generalize hNx : x.1.length = N at *
  have HNx := Lib.hid hNx
  clear hNx
  generalize hMx : x.2.1.length = M at *
  have HMx := Lib.hid hMx
  clear hMx
  generalize hKx : x.2.2.length = K at *
  have HKx := Lib.hid hKx
  clear hKx
  generalize hfy : fewG y = fy at *
  have HFy := Lib.hid hfy
  clear hfy
  generalize hNy : y.1.length = N1 at *
  have HNy := Lib.hid hNy
  clear hNy
  generalize hMy : y.2.1.length = M1 at *
  have HMy := Lib.hid hMy
  clear hMy
  generalize hKy : y.2.2.length = K1 at *
  have HKy := Lib.hid hKy
  clear hKy
  go_enter Tryz.func6, Tryz.ntmps6
  go_wp2_with fail
  generalize ((w.alloc (.cells #[.slice A N c, .slice B M d, .slice C K e] 28)).alloc (.cells #[.slice A1 N1 c1, .slice B1 M1 d1, .slice C1 K1 e1] 28)) = w1 at *
  refine (dawake_any _ (HK.out _ H0.out)).mono ?_
  rintro r wk ⟨rfl, hBk⟩
  have HA := Lib.hid (H0.out.trans (hBk.mono H0.out.size))
  replace Px := Lib.hid (Px.out.to hBk)
  replace Py := Lib.hid (Py.out.to hBk)
  clear hBk H0
  have a0 := Px.out.cell (j := 0) rfl
  have a1 := Px.out.cell (j := 1) rfl
  have a2 := Px.out.cell (j := 2) rfl
  go_wp2_with fail
  refine (Fx.out _ HA.out).mono ?_
  rintro r wf0 ⟨rfl, hBk⟩
  have HA0 := Lib.hid (HA.out.trans (hBk.mono HA.out.size))
  replace Px := Lib.hid (Px.out.to hBk)
  replace Py := Lib.hid (Py.out.to hBk)
  clear a0 a1 a2 hBk HA
  have HA := HA0
  clear HA0
  have a0 := Py.out.cell (j := 0) rfl
  have a1 := Py.out.cell (j := 1) rfl
  have a2 := Py.out.cell (j := 2) rfl
  go_wp2_with fail
  refine (Fy.out _ HA.out).mono ?_
  rintro r wf1 ⟨rfl, hBk⟩
  have HA1 := Lib.hid (HA.out.trans (hBk.mono HA.out.size))
  replace Px := Lib.hid (Px.out.to hBk)
  replace Py := Lib.hid (Py.out.to hBk)
  clear a0 a1 a2 hBk HA
  have HA := HA1
  clear HA1
  cases fx
  · go_wp2
    go_ret
    exact ⟨rfl, HA.out⟩
  cases fy
  · go_wp2
    go_ret
    exact ⟨rfl, HA.out⟩
  replace Rx := Lib.hid (Rx.out _ HA.out)
  replace Ry := Lib.hid (Ry.out _ HA.out)
  have hms := Lib.hid (fun h => make_self (a := x) (b := y) h)
  have kc1 := Px.out.cell (j := 0) rfl
  have kc2 := Px.out.cell (j := 1) rfl
  have kc3 := Px.out.cell (j := 2) rfl
  go_wp2_with fail
  refine (dmake_any A B C N c M d K e A B C N c M d K e x x _ (HK.out _ HA.out) Rx.out Rx.out).mono ?_
  rintro r wq4 ⟨BD1, dD1, CD1, eD1, rfl, hD1, hBq⟩
  replace Px := Lib.hid (Px.out.to hBq)
  replace Py := Lib.hid (Py.out.to hBq)
  replace Rx := Lib.hid (gr_below hBq Rx.out)
  replace Ry := Lib.hid (gr_below hBq Ry.out)
  have HAn := Lib.hid (HA.out.trans (hBq.mono HA.out.size))
  clear HA
  have HA := HAn
  clear HAn
  clear hBq kc1 kc2 kc3
  generalize huD1 : (makeD x x).1 = uD1 at *
  have HuD1 := Lib.hid huD1
  clear huD1
  generalize hrD1 : (makeD x x).2.1.length = rD1 at *
  have HrD1 := Lib.hid hrD1
  clear hrD1
  generalize hlD1 : (makeD x x).2.2.length = lD1 at *
  have HlD1 := Lib.hid hlD1
  clear hlD1
  have RD1 := Lib.hid hD1
  clear hD1
  have hBq : Below wq4.heap.size wq4 (wq4.alloc (.cells #[.int .u32 uD1, .slice BD1 rD1 dD1, .slice CD1 lD1 eD1] 32)) := (Below.refl _ wq4).alloc (Nat.le_refl _) _
  replace Px := Lib.hid (Px.out.to hBq)
  replace Py := Lib.hid (Py.out.to hBq)
  replace Rx := Lib.hid (gr_below hBq Rx.out)
  replace Ry := Lib.hid (gr_below hBq Ry.out)
  replace RD1 := Lib.hid (dlt_below hBq RD1.out)
  have HAn := Lib.hid (HA.out.trans (hBq.mono HA.out.size))
  clear HA
  have HA := HAn
  clear HAn
  have PD1 := Lib.hid (Blk.new wq4 32 [.int .u32 uD1, .slice BD1 rD1 dD1, .slice CD1 lD1 eD1])
  clear hBq
  by_cases he : makeE x x = 0
  rotate_left
  · have he' : (makeE x x == 0) = false := by simpa using he
    have hf : (makeE x y != 0) = true := by simpa using fun h => he (hms.out h)
    clear he hms
    generalize makeE x x = E1 at *
    have kc6 := Px.out.cell (j := 0) rfl
    have kc7 := Px.out.cell (j := 1) rfl
    have kc8 := Px.out.cell (j := 2) rfl
    have kc9 := Py.out.cell (j := 0) rfl
    have kc10 := Py.out.cell (j := 1) rfl
    have kc11 := Py.out.cell (j := 2) rfl
    go_wp2_with fail
    generalize wq4.alloc (.cells #[.int .u32 uD1, .slice BD1 rD1 dD1, .slice CD1 lD1 eD1] 32) = wb5 at *
    refine (dmake_any A B C N c M d K e A1 B1 C1 N1 c1 M1 d1 K1 e1 x y _ (HK.out _ HA.out) Rx.out Ry.out).mono ?_
    rintro r wq12 ⟨B9, d9, C9, e9, rfl, -, hBq⟩
    replace Px := Lib.hid (Px.out.to hBq)
    replace Py := Lib.hid (Py.out.to hBq)
    replace PD1 := Lib.hid (PD1.out.to hBq)
    replace Rx := Lib.hid (gr_below hBq Rx.out)
    replace Ry := Lib.hid (gr_below hBq Ry.out)
    replace RD1 := Lib.hid (dlt_below hBq RD1.out)
    have HAn := Lib.hid (HA.out.trans (hBq.mono HA.out.size))
    clear HA
    have HA := HAn
    clear HAn
    clear hBq kc6 kc7 kc8 kc9 kc10 kc11
    generalize makeE x y = E2 at *
    go_wp2
    go_ret
    exact ⟨rfl, HA.out.trans ((Below.refl _ _).alloc (Nat.le_refl _) _ |>.mono HA.out.size)⟩
  have HI1 := Lib.hid (fun (i : Nat) (q : Itm) (hq : (makeD x x).2.2[i]? = some q) => show q.1 = (i : Int) ∧ q.2.2 = [] from by
    obtain ⟨z, hz, rfl⟩ := item_at he hq
    exact self_item (makeE_0 he).1 hz)
  rw [he]
  clear he
  have kc6 := PD1.out.cell (j := 2) rfl
  go_wp2
  generalize wq4.alloc (.cells #[.int .u32 uD1, .slice BD1 rD1 dD1, .slice CD1 lD1 eD1] 32) = wb5 at *
  clear kc6
  have hlb1 : lD1 ≤ 1000000 := by have := makeD_few x x; have := HlD1.out; omega
  go_loop [10] (fun iv => ∃ i : Nat, i ≤ lD1 ∧ iv = .int .i64 (i : Int)) (fun iv => lD1 - (intOf iv).toNat)
  case atStart => exact ⟨0, by omega, rfl⟩
  case round =>
    obtain ⟨i, hi, rfl⟩ := hrel
    have m2 := PD1.out.cell (j := 2) rfl
    by_cases hin : i < lD1
    · obtain ⟨q, hq⟩ : ∃ q, (makeD x x).2.2[i]? = some q := ⟨_, List.getElem?_eq_getElem (by have := HlD1.out; omega)⟩
      obtain ⟨b, off, A2, c2, hAq, hb, q0, q1, q2, -, -, -⟩ := itm_at (rDlt_open RD1.out).2.2.2 hq
      obtain ⟨e1, e2⟩ := HI1.out i q hq
      rw [e1] at q0
      rw [e2] at q2
      subst hAq
      have hil : (i : Int) < (lD1 : Int) := by omega
      have hi0 : (0 : Int) ≤ (i : Int) := by omega
      simp only [List.length_nil] at q2
      clear e1 e2 hq
      go_wp2
      refine ⟨⟨i + 1, by omega, by go_num⟩, ?_⟩
      simp [intOf]; omega
    clear m2
    have kc7 := Px.out.cell (j := 0) rfl
    have kc8 := Px.out.cell (j := 1) rfl
    have kc9 := Px.out.cell (j := 2) rfl
    have kc10 := Py.out.cell (j := 0) rfl
    have kc11 := Py.out.cell (j := 1) rfl
    have kc12 := Py.out.cell (j := 2) rfl
    have kc13 := PD1.out.cell (j := 2) rfl
    have hil : ¬ ((i : Int) < (lD1 : Int)) := by omega
    go_wp2_with fail
    refine (dmake_any A B C N c M d K e A1 B1 C1 N1 c1 M1 d1 K1 e1 x y _ (HK.out _ HA.out) Rx.out Ry.out).mono ?_
    rintro r wq14 ⟨BD2, dD2, CD2, eD2, rfl, hD2, hBq⟩
    replace Px := Lib.hid (Px.out.to hBq)
    replace Py := Lib.hid (Py.out.to hBq)
    replace PD1 := Lib.hid (PD1.out.to hBq)
    replace Rx := Lib.hid (gr_below hBq Rx.out)
    replace Ry := Lib.hid (gr_below hBq Ry.out)
    replace RD1 := Lib.hid (dlt_below hBq RD1.out)
    have HAn := Lib.hid (HA.out.trans (hBq.mono HA.out.size))
    clear HA
    have HA := HAn
    clear HAn
    clear hBq kc7 kc8 kc9 kc10 kc11 kc12 kc13
    generalize huD2 : (makeD x y).1 = uD2 at *
    have HuD2 := Lib.hid huD2
    clear huD2
    generalize hrD2 : (makeD x y).2.1.length = rD2 at *
    have HrD2 := Lib.hid hrD2
    clear hrD2
    generalize hlD2 : (makeD x y).2.2.length = lD2 at *
    have HlD2 := Lib.hid hlD2
    clear hlD2
    have RD2 := Lib.hid hD2
    clear hD2
    have hBq : Below wq14.heap.size wq14 (wq14.alloc (.cells #[.int .u32 uD2, .slice BD2 rD2 dD2, .slice CD2 lD2 eD2] 32)) := (Below.refl _ wq14).alloc (Nat.le_refl _) _
    replace Px := Lib.hid (Px.out.to hBq)
    replace Py := Lib.hid (Py.out.to hBq)
    replace PD1 := Lib.hid (PD1.out.to hBq)
    replace Rx := Lib.hid (gr_below hBq Rx.out)
    replace Ry := Lib.hid (gr_below hBq Ry.out)
    replace RD1 := Lib.hid (dlt_below hBq RD1.out)
    replace RD2 := Lib.hid (dlt_below hBq RD2.out)
    have HAn := Lib.hid (HA.out.trans (hBq.mono HA.out.size))
    clear HA
    have HA := HAn
    clear HAn
    have PD2 := Lib.hid (Blk.new wq14 32 [.int .u32 uD2, .slice BD2 rD2 dD2, .slice CD2 lD2 eD2])
    clear hBq
    by_cases hf : makeE x y = 0
    rotate_left
    · have hf' : (makeE x y != 0) = true := by simpa using hf
      clear hf
      generalize makeE x y = E2 at *
      go_wp2
      go_ret
      exact ⟨rfl, HA.out⟩
    have HQ := Lib.hid (fun h1 h2 h3 => self_still hf h1 h2 h3)
    rw [hf]
    rw [HlD2.out] at HQ
    clear hf hms HI1 hil hin
    go_upto_region 16 with fail
    generalize wq14.alloc (.cells #[.int .u32 uD2, .slice BD2 rD2 dD2, .slice CD2 lD2 eD2] 32) = wb15 at *
    have HSF := Lib.hid (fun W (hW : Below wb15.heap.size wb15 W) => And.intro ((Px.out.to hW).cell (j := 0) rfl) (And.intro ((Px.out.to hW).cell (j := 1) rfl) (And.intro ((Px.out.to hW).cell (j := 2) rfl) (And.intro ((PD2.out.to hW).cell (j := 1) rfl) ((PD2.out.to hW).cell (j := 2) rfl)))))
    have TR := Lib.hid (fun W (hW : Below wb15.heap.size wb15 W) => greach_any A B C N c M d K e x W (gr_below hW Rx.out))
    generalize hrl : (reachG x).length = rl at *
    refine sch_start [(0, true), (1, true), (2, true), (3, true), (4, false), (5, true), (6, true), (7, true)] (fun W => Below wb15.heap.size wb15 W) (by kernel_rfl) rfl (by kernel_rfl) (fun _ _ _ _ _ h => h) ((Below.refl _ wb15).drew) (fun hH => ?_)
    repeat (first | (refine sch_yes (v := ?_) rfl rfl ?_ hH ?_; rotate_left; (focus ((intro W hW; obtain ⟨s0, s1, s2, s3, s4⟩ := HSF.out W hW; go_simp) <;> with_reducible rfl)); simp only [Act.put, List.setIfInBounds_toArray, List.set_cons_zero, List.set_cons_succ]) | (refine sch_no rfl rfl hH ?_; simp only [Act.put, List.setIfInBounds_toArray, List.set_cons_zero, List.set_cons_succ]))
    refine sch_call rfl rfl (fun K' hK => ?_)
    go_wp2_with (go_at_call 23; refine (TR.out _ hH).mono ?_; rintro e wr ⟨AR, cR, rfl, -, -, hBr⟩)
    have hD7 := hH.trans (hBr.mono hH.size)
    refine hK.out _ _ hD7 ?_
    clear hK hH hBr
    have hH := hD7
    repeat (first | (refine sch_yes (v := ?_) rfl rfl ?_ hH ?_; rotate_left; (focus ((intro W hW; obtain ⟨s0, s1, s2, s3, s4⟩ := HSF.out W hW; go_simp) <;> with_reducible rfl)); simp only [Act.put, List.setIfInBounds_toArray, List.set_cons_zero, List.set_cons_succ]) | (refine sch_no rfl rfl hH ?_; simp only [Act.put, List.setIfInBounds_toArray, List.set_cons_zero, List.set_cons_succ]))
    refine sch_done ?_
    clear hH TR
    replace Px := Lib.hid (Px.out.to hD7)
    replace Py := Lib.hid (Py.out.to hD7)
    replace PD1 := Lib.hid (PD1.out.to hD7)
    replace PD2 := Lib.hid (PD2.out.to hD7)
    replace Rx := Lib.hid (gr_below hD7 Rx.out)
    replace Ry := Lib.hid (gr_below hD7 Ry.out)
    replace RD1 := Lib.hid (dlt_below hD7 RD1.out)
    replace RD2 := Lib.hid (dlt_below hD7 RD2.out)
    have HAn := Lib.hid (HA.out.trans (hD7.mono HA.out.size))
    clear HA
    have HA := HAn
    clear HAn
    have hbel := Lib.hid hD7
    clear hD7
    generalize hb0 : ((lD2 : Int) == (rl : Int)) = b0 at *
    have Hb0 : Hid (b0 = true → lD2 = rl) := Lib.hid (fun e => by rw [← hb0, beq_iff_eq] at e; omega)
    clear hb0 hrl
    have m2 := PD2.out.cell (j := 2) rfl
    have hlb2 : lD2 ≤ 1000000 := by have := makeD_few x y; have := HlD2.out; omega
    go_wp2
    clear m2
    go_loop [13, 14] (fun sv iv => ∃ (i : Nat) (st : Bool), i ≤ lD2 ∧ sv = .bool st ∧ iv = .int .i64 (i : Int) ∧ Hid (st = true → b0 = true ∧ ∀ (j : Nat) (q : Itm), j < i → (makeD x y).2.2[j]? = some q → q.2.2 = [] ∧ q.1 = (j : Int))) (fun _ iv => lD2 - (intOf iv).toNat)
    case atStart => exact ⟨0, b0, by omega, rfl, rfl, Lib.hid (fun e => ⟨e, fun j q hj => by omega⟩)⟩
    case round =>
      obtain ⟨i2, st, hi2, rfl, rfl, hst⟩ := hrel
      have m2 := PD2.out.cell (j := 2) rfl
      by_cases hin2 : i2 < lD2
      · obtain ⟨q, hq⟩ : ∃ q, (makeD x y).2.2[i2]? = some q := ⟨_, List.getElem?_eq_getElem (by have := HlD2.out; omega)⟩
        obtain ⟨b, off, A2, c2, hAq, hb, q0, q1, q2, -, -, -⟩ := itm_at (rDlt_open RD2.out).2.2.2 hq
        subst hAq
        have hil : (i2 : Int) < (lD2 : Int) := by omega
        have hi0 : (0 : Int) ≤ (i2 : Int) := by omega
        have Hq := Lib.hid hq
        generalize hxl : q.2.2.length = xl at *
        generalize hxf : q.1 = xf at *
        have Hxl := Lib.hid hxl
        have Hxf := Lib.hid hxf
        clear hq hxl hxf
        cases st
        · go_wp2
          refine ⟨⟨i2 + 1, false, by omega, rfl, by go_num, Lib.hid (fun e => by cases e)⟩, ?_⟩
          simp [intOf]; omega
        · cases h1 : ((xl : Int) == 0)
          · go_wp2
            refine ⟨⟨i2 + 1, false, by omega, rfl, by go_num, Lib.hid (fun e => by cases e)⟩, ?_⟩
            simp [intOf]; omega
          · cases h2 : (xf == (i2 : Int))
            · go_wp2
              refine ⟨⟨i2 + 1, false, by omega, rfl, by go_num, Lib.hid (fun e => by cases e)⟩, ?_⟩
              simp [intOf]; omega
            · have Hst : Hid (true = true → b0 = true ∧ ∀ (j : Nat) (p : Itm), j < i2 + 1 → (makeD x y).2.2[j]? = some p → p.2.2 = [] ∧ p.1 = (j : Int)) := Lib.hid (fun _ => by
                obtain ⟨g1, g2⟩ := hst.out rfl
                refine ⟨g1, fun j p hj hp => ?_⟩
                by_cases e : j < i2
                · exact g2 j p e hp
                · obtain rfl : j = i2 := by omega
                  rw [Hq.out] at hp
                  injection hp with hp
                  subst hp
                  rw [beq_iff_eq] at h1 h2
                  exact ⟨List.eq_nil_of_length_eq_zero (by have := Hxl.out; omega), by rw [Hxf.out]; exact h2⟩)
              go_wp2
              refine ⟨⟨i2 + 1, true, by omega, rfl, by go_num, Hst⟩, ?_⟩
              simp [intOf]; omega
      have hend := Lib.hid (show i2 = lD2 by omega)
      have hil : ¬ ((i2 : Int) < (lD2 : Int)) := by omega
      clear hin2
      go_upto_region 21 with fail
      clear m2
      have HSF := Lib.hid (fun W (hW : Below wr.heap.size wr W) => And.intro ((Px.out.to hW).cell (j := 0) rfl) (And.intro ((Px.out.to hW).cell (j := 1) rfl) (And.intro ((Px.out.to hW).cell (j := 2) rfl) ((PD2.out.to hW).cell (j := 1) rfl))))
      have TC := Lib.hid (fun W (hW : Below wr.heap.size wr W) => canon_any A B C N c M d K e x W (gr_below hW Rx.out))
      have TI := Lib.hid (fun W (hW : Below wr.heap.size wr W) A4 c4 B4 d4 C4 e4 (h4 : rGr (All W) W [.slice A4 (canonG x).1.length c4, .slice B4 (canonG x).2.1.length d4, .slice C4 (canonG x).2.2.length e4] (canonG x)) => rints_any BD2 C4 rD2 dD2 (canonG x).2.2.length e4 (makeD x y).2.1 (canonG x).2.2 W (ids_below hW (rDlt_open RD2.out).2.2.1) (rGr_open h4).2.2)
      have hfi := @field2
      generalize (canonG x).1.length = N9 at *
      generalize (canonG x).2.1.length = M9 at *
      generalize (canonG x).2.2.length = K9 at *
      generalize hrt : decide ((makeD x y).2.1 = (canonG x).2.2) = rt at *
      have Hrt : Hid (rt = true → (makeD x y).2.1 = (canonG x).2.2) := Lib.hid (fun e => by rw [← hrt, decide_eq_true_eq] at e; exact e)
      clear hrt
      refine sch_start [(0, true), (1, true), (2, true), (3, false), (4, true), (5, false), (6, true)] (fun W => Below wr.heap.size wr W) (by kernel_rfl) rfl (by kernel_rfl) (fun _ _ _ _ _ h => h) ((Below.refl _ wr).drew) (fun hH => ?_)
      repeat (first | (refine sch_yes (v := ?_) rfl rfl ?_ hH ?_; rotate_left; (focus ((intro W hW; obtain ⟨s0, s1, s2, s3⟩ := HSF.out W hW; go_simp) <;> with_reducible rfl)); simp only [Act.put, List.setIfInBounds_toArray, List.set_cons_zero, List.set_cons_succ]) | (refine sch_no rfl rfl hH ?_; simp only [Act.put, List.setIfInBounds_toArray, List.set_cons_zero, List.set_cons_succ]))
      refine sch_call rfl rfl (fun K' hK => ?_)
      go_wp2_with (go_at_call 19; refine (TC.out _ hH).mono ?_; rintro e w7 ⟨A7, c7, B7, d7, C7, e7, rfl, h7, hB7⟩)
      have hD7 := hH.trans (hB7.mono hH.size)
      have hfd : ∀ W : World, (Instr.field 28 (.agg #[.slice A7 N9 c7, .slice B7 M9 d7, .slice C7 K9 e7]) 2).run Tryz.prog W = .ok (.slice C7 K9 e7) W := fun W => hfi _ _ _ rfl rfl rfl W
      have T5 := Lib.hid (TI.out _ hD7 _ _ _ _ _ _ h7)
      refine hK.out _ _ hD7 ?_
      clear hK hH hB7 h7 hfi TC TI
      have hH := hD7
      repeat (first | (refine sch_yes (v := ?_) rfl rfl ?_ hH ?_; rotate_left; (focus ((intro W hW; obtain ⟨s0, s1, s2, s3⟩ := HSF.out W hW; go_simp) <;> with_reducible rfl)); simp only [Act.put, List.setIfInBounds_toArray, List.set_cons_zero, List.set_cons_succ]) | (refine sch_no rfl rfl hH ?_; simp only [Act.put, List.setIfInBounds_toArray, List.set_cons_zero, List.set_cons_succ]))
      refine sch_call rfl rfl (fun K' hK => ?_)
      go_wp2_with (go_at_call 24; refine T5.out.mono ?_; rintro e w8 ⟨rfl, hB8⟩)
      have hD8 := hD7.trans (hB8.mono hD7.size)
      refine hK.out _ _ hD8 ?_
      clear hK hH hB8 T5 hD7 hfd
      have hH := hD8
      repeat (first | (refine sch_yes (v := ?_) rfl rfl ?_ hH ?_; rotate_left; (focus ((intro W hW; obtain ⟨s0, s1, s2, s3⟩ := HSF.out W hW; go_simp) <;> with_reducible rfl)); simp only [Act.put, List.setIfInBounds_toArray, List.set_cons_zero, List.set_cons_succ]) | (refine sch_no rfl rfl hH ?_; simp only [Act.put, List.setIfInBounds_toArray, List.set_cons_zero, List.set_cons_succ]))
      refine sch_done ?_
      clear hH HSF
      replace Px := Lib.hid (Px.out.to hD8)
      replace Py := Lib.hid (Py.out.to hD8)
      replace PD1 := Lib.hid (PD1.out.to hD8)
      replace PD2 := Lib.hid (PD2.out.to hD8)
      replace Rx := Lib.hid (gr_below hD8 Rx.out)
      replace Ry := Lib.hid (gr_below hD8 Ry.out)
      replace RD1 := Lib.hid (dlt_below hD8 RD1.out)
      replace RD2 := Lib.hid (dlt_below hD8 RD2.out)
      have HAn := Lib.hid (HA.out.trans (hD8.mono HA.out.size))
      clear HA
      have HA := HAn
      clear HAn
      clear hD8
      cases st
      · go_wp2
        go_ret
        exact ⟨rfl, HA.out⟩
      cases rt
      · go_wp2
        go_ret
        exact ⟨rfl, HA.out⟩
      have hiso : isoG x y = true := by
        obtain ⟨g1, g2⟩ := hst.out rfl
        exact HQ.out (Hb0.out g1) (fun j q hj hq => g2 j q (by have := hend.out; omega) hq) (Hrt.out rfl)
      have Hiso := Lib.hid hiso
      clear hiso hst HQ
      have kc16 := Px.out.cell (j := 0) rfl
      have kc17 := Px.out.cell (j := 1) rfl
      have kc18 := Px.out.cell (j := 2) rfl
      have kc19 := Py.out.cell (j := 0) rfl
      have kc20 := Py.out.cell (j := 1) rfl
      have kc21 := Py.out.cell (j := 2) rfl
      go_wp2_with fail
      refine (iso_any A B C N c M d K e A1 B1 C1 N1 c1 M1 d1 K1 e1 x y _ Rx.out Ry.out).mono ?_
      rintro r wq22 ⟨rfl, hBq⟩
      replace Px := Lib.hid (Px.out.to hBq)
      replace Py := Lib.hid (Py.out.to hBq)
      replace PD1 := Lib.hid (PD1.out.to hBq)
      replace PD2 := Lib.hid (PD2.out.to hBq)
      replace Rx := Lib.hid (gr_below hBq Rx.out)
      replace Ry := Lib.hid (gr_below hBq Ry.out)
      replace RD1 := Lib.hid (dlt_below hBq RD1.out)
      replace RD2 := Lib.hid (dlt_below hBq RD2.out)
      have HAn := Lib.hid (HA.out.trans (hBq.mono HA.out.size))
      clear HA
      have HA := HAn
      clear HAn
      clear hBq kc16 kc17 kc18 kc19 kc20 kc21
      rw [Hiso.out]
      go_wp2
      go_ret
      exact ⟨rfl, HA.out⟩
end Go.Proofs.YtclbjbhpncpmbaaGreatDoor
