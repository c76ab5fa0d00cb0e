/- DeltaSmall: of one value that is set in what is come to, just that is set, if it is another one, and leads nowhere else. Conditions: the table of kinds' texts is laid; the graph's lists are within the form's own reach, which the row has. -/
import Derived.Test.YtclbjbhpncpmbaaGreatDoorDeAwake
import Derived.Test.YtclbjbhpncpmbaaGreatDoorGCanon
import Derived.Test.YtclbjbhpncpmbaaGreatDoorGrSet
import Derived.Test.YtclbjbhpncpmbaaGreatDoorGrWeigh
namespace Go.Proofs.YtclbjbhpncpmbaaGreatDoor
open Go.RowKit

theorem vset_arg {w : World} {cs : Array Value} {v : Vl} (h : rVal (All w) w cs.toList v) : ∃ s : ByteArray, cs = #[.int .i64 v.1, .string s, .int .i64 v.2.2] ∧ byt s = v.2.1 ∧ (-9223372036854775808 ≤ v.1 ∧ v.1 ≤ 9223372036854775807) ∧ (-9223372036854775808 ≤ v.2.2 ∧ v.2.2 ≤ 9223372036854775807) := by
  obtain ⟨s, h1, h2, -, h4, h5⟩ := rVal_open h
  exact ⟨s, by cases cs; simpa using h1, h2, h4, h5⟩
/-- Of so many items, one sets the value, if it is another one. -/
def cntS (id : Int) (v0 v : Vl) (l : List Int) (j : Nat) : Nat := if v0 ≠ v ∧ id ∈ l.take j then 1 else 0
theorem cntS_step {id : Int} {v0 v : Vl} {l : List Int} (hn : l.Nodup) {j : Nat} {x : Int} (hx : l[j]? = some x) : cntS id v0 v l (j + 1) = cntS id v0 v l j + (if x = id ∧ v0 ≠ v then 1 else 0) := by
  have hnot : x ∉ l.take j := fun h => by
    obtain ⟨i, hi⟩ := List.getElem?_of_mem h
    rw [List.getElem?_take] at hi
    split at hi
    · rename_i hij
      have h1 := atL_at hn hx
      have h2 := atL_at hn hi
      omega
    · cases hi
  rw [cntS, cntS, take_at hx]
  simp only [List.mem_append, List.mem_singleton]
  by_cases hv : v0 = v
  · simp [hv]
  · by_cases hi : x = id
    · subst hi
      rw [if_pos ⟨hv, .inr rfl⟩, if_neg (fun h => hnot h.2), if_pos ⟨rfl, hv⟩]
    · rw [if_neg (fun h : x = id ∧ v0 ≠ v => hi h.1), Nat.add_zero]
      have : (id ∈ l.take j ∨ id = x) ↔ id ∈ l.take j := ⟨fun h => h.resolve_right (fun e => hi e.symm), .inl⟩
      simp only [this]
theorem cntS_le (id : Int) (v0 v : Vl) (l : List Int) (j : Nat) : cntS id v0 v l j ≤ 1 := by
  rw [cntS]; split <;> omega
theorem makeD_fewS (a b : Gr) : (makeD a b).2.2.length ≤ 1000000 := by
  rw [makeD]
  split
  · rename_i h
    have := ordG_few (makeE_0 h).2.1
    show ((ordG b).mapIdx (itemD a b)).length ≤ _
    rw [List.length_mapIdx]
    omega
  · exact Nat.zero_le _
theorem item_atS {a b : Gr} (h : makeE a b = 0) {i : Nat} {x : Itm} (hx : (makeD a b).2.2[i]? = some x) : ∃ y, (ordG b)[i]? = some y ∧ x = itemD a b i y := by
  rw [makeD_yes h] at hx
  simp only at hx
  rw [List.getElem?_mapIdx] at hx
  cases hz : (ordG b)[i]? with
  | none => rw [hz] at hx; cases hx
  | some z =>
    rw [hz] at hx
    injection hx with hx
    exact ⟨z, rfl, hx.symm⟩
theorem cntS_ne {id : Int} {v0 v : Vl} {l : List Int} {j : Nat} (h : cntS id v0 v l j ≠ 0) : v0 ≠ v := by
  rw [cntS] at h
  split at h
  · rename_i h2; exact h2.1
  · exact absurd rfl h

set_option maxRecDepth 100000 in
set_option maxHeartbeats 8000000 in
theorem deltaSmall_walk (w : World) (hL : Kt w) (cs : Array Value) (g : Gr) (h : rGr (All w) w cs.toList g) (hreach : reachB g) (id : Int) (_hd0 : -9223372036854775808 ≤ id) (_hd1 : id ≤ 9223372036854775807) (k : Int) (_hk0 : -9223372036854775808 ≤ k) (_hk1 : k ≤ 9223372036854775807) (vs : Array Value) (v : Vl) (hvv : rVal (All w) w vs.toList v) :
    Calls Tryz.prog 8 #[.agg cs, .int .i64 id, .int .i64 k, .agg vs] w fun e w' => e = .returned (.bool true) ∧ Below w.heap.size w w' := by
  obtain ⟨A, c, B, d, C, e, rfl, h⟩ := gr_arg h
  obtain ⟨s, rfl, hs, hv1, hv2⟩ := vset_arg hvv
  have hB0 : Below w.heap.size w ((w.alloc (.cells #[.slice A g.1.length c, .slice B g.2.1.length d, .slice C g.2.2.length e] 28)).alloc (.cells #[.int .i64 v.1, .string s, .int .i64 v.2.2] 55)) := ((Below.refl _ w).alloc (Nat.le_refl _) _).alloc (by simp) _
  obtain ⟨pg, pv⟩ := blk_two w 28 55 [.slice A g.1.length c, .slice B g.2.1.length d, .slice C g.2.2.length e] [.int .i64 v.1, .string s, .int .i64 v.2.2]
  have TS := Lib.hid (fun W (hW : Below w.heap.size w W) => gset_any A B C g.1.length c g.2.1.length d g.2.2.length e g id k s v W (gr_below hW h) (tame_reach hreach) hs (WalkArith.wf_i64 hv1) (WalkArith.wf_i64 hv2))
  have Rg := Lib.hid (fun W (hW : Below w.heap.size w W) => gr_below hW h)
  have HK := Lib.hid (fun W (hW : Below w.heap.size w W) => hL.below hW)
  have Pg := Lib.hid pg
  have Pv := Lib.hid pv
  have H0 := Lib.hid hB0
  have Hs := Lib.hid hs
  clear hL hB0 pg pv h hreach hs hvv hv1 hv2
  generalize hNg : g.1.length = N at *
  have HNg := Lib.hid hNg
  clear hNg
  generalize hMg : g.2.1.length = M at *
  have HMg := Lib.hid hMg
  clear hMg
  generalize hKg : g.2.2.length = K at *
  have HKg := Lib.hid hKg
  clear hKg
  have Hv1 : Hid (v.1 = v.1) := Lib.hid rfl
  generalize hvn : v.1 = vn at *
  generalize hvr : v.2.2 = vr at *
  have Hvn := Lib.hid hvn
  have Hvr := Lib.hid hvr
  clear hvn hvr Hv1
  go_enter Tryz.func8, Tryz.ntmps8
  go_wp2_with fail
  generalize (w.alloc (.cells #[.slice A N c, .slice B M d, .slice C K e] 28)).alloc (.cells #[.int .i64 vn, .string s, .int .i64 vr] 55) = w1 at *
  refine (dawake_any _ (HK.out _ H0.out)).mono ?_
  rintro r wk ⟨rfl, hBk⟩
  have HA := Lib.hid (H0.out.trans (hBk.mono H0.out.size))
  replace Pg := Lib.hid (Pg.out.to hBk)
  replace Pv := Lib.hid (Pv.out.to hBk)
  replace Rg := Lib.hid (Rg.out _ HA.out)
  clear hBk H0
  have kc1 := Pg.out.cell (j := 0) rfl
  have kc2 := Pg.out.cell (j := 1) rfl
  have kc3 := Pg.out.cell (j := 2) rfl
  go_wp2_with fail
  refine (gfew_any A B C N c M d K e g _ Rg.out).mono ?_
  rintro r wq4 ⟨rfl, hBq⟩
  replace Pg := Lib.hid (Pg.out.to hBq)
  replace Pv := Lib.hid (Pv.out.to hBq)
  replace Rg := Lib.hid (gr_below hBq Rg.out)
  have HAn := Lib.hid (HA.out.trans (hBq.mono HA.out.size))
  clear HA
  have HA := HAn
  clear HAn
  clear hBq kc1 kc2 kc3
  cases fewG g
  · go_wp2
    go_ret
    exact ⟨rfl, HA.out⟩
  have kc5 := Pg.out.cell (j := 0) rfl
  have kc6 := Pg.out.cell (j := 1) rfl
  have kc7 := Pg.out.cell (j := 2) rfl
  have kc8 := Pv.out.cell (j := 0) rfl
  have kc9 := Pv.out.cell (j := 1) rfl
  have kc10 := Pv.out.cell (j := 2) rfl
  go_wp2_with fail
  refine (TS.out _ HA.out).mono ?_
  rintro r wq11 ⟨AH, cH, BH, dH, CH, eH, rfl, hH, hBq⟩
  replace Pg := Lib.hid (Pg.out.to hBq)
  replace Pv := Lib.hid (Pv.out.to hBq)
  replace Rg := Lib.hid (gr_below hBq Rg.out)
  have HAn := Lib.hid (HA.out.trans (hBq.mono HA.out.size))
  clear HA
  have HA := HAn
  clear HAn
  clear hBq kc5 kc6 kc7 kc8 kc9 kc10
  generalize hse : setE g id k v = se at *
  have Hse := Lib.hid hse
  clear hse TS
  generalize hNH : (setN g id k v).1.length = NH at *
  clear hNH
  generalize hMH : (setN g id k v).2.1.length = MH at *
  clear hMH
  generalize hKH : (setN g id k v).2.2.length = KH at *
  clear hKH
  have RH := Lib.hid hH
  clear hH
  have hBq : Below wq11.heap.size wq11 (wq11.alloc (.cells #[.slice AH NH cH, .slice BH MH dH, .slice CH KH eH] 28)) := (Below.refl _ wq11).alloc (Nat.le_refl _) _
  replace Pg := Lib.hid (Pg.out.to hBq)
  replace Pv := Lib.hid (Pv.out.to hBq)
  replace Rg := Lib.hid (gr_below hBq Rg.out)
  replace RH := Lib.hid (gr_below hBq RH.out)
  have HAn := Lib.hid (HA.out.trans (hBq.mono HA.out.size))
  clear HA
  have HA := HAn
  clear HAn
  have PH := Lib.hid (Blk.new wq11 28 [.slice AH NH cH, .slice BH MH dH, .slice CH KH eH])
  clear hBq
  have kc13 := Pg.out.cell (j := 0) rfl
  have kc14 := Pg.out.cell (j := 1) rfl
  have kc15 := Pg.out.cell (j := 2) rfl
  go_wp2_with fail
  generalize wq11.alloc (.cells #[.slice AH NH cH, .slice BH MH dH, .slice CH KH eH] 28) = wb12 at *
  refine (gfind_any A B C N c M d K e g id _ Rg.out).mono ?_
  rintro r wq16 ⟨rfl, hBq⟩
  replace Pg := Lib.hid (Pg.out.to hBq)
  replace Pv := Lib.hid (Pv.out.to hBq)
  replace PH := Lib.hid (PH.out.to hBq)
  replace Rg := Lib.hid (gr_below hBq Rg.out)
  replace RH := Lib.hid (gr_below hBq RH.out)
  have HAn := Lib.hid (HA.out.trans (hBq.mono HA.out.size))
  clear HA
  have HA := HAn
  clear HAn
  clear hBq kc13 kc14 kc15
  generalize hfi : findG g.2.1 id = fi at *
  have Hfi := Lib.hid hfi
  clear hfi
  have kc17 := Pg.out.cell (j := 0) rfl
  have kc18 := Pg.out.cell (j := 1) rfl
  have kc19 := Pg.out.cell (j := 2) rfl
  have kc20 := PH.out.cell (j := 0) rfl
  have kc21 := PH.out.cell (j := 1) rfl
  have kc22 := PH.out.cell (j := 2) rfl
  go_wp2_with fail
  refine (dmake_any A B C N c M d K e AH BH CH NH cH MH dH KH eH g (setN g id k v) _ (HK.out _ HA.out) Rg.out RH.out).mono ?_
  rintro r wq23 ⟨BD, dD, CD, eD, rfl, hD, hBq⟩
  replace Pg := Lib.hid (Pg.out.to hBq)
  replace Pv := Lib.hid (Pv.out.to hBq)
  replace PH := Lib.hid (PH.out.to hBq)
  replace Rg := Lib.hid (gr_below hBq Rg.out)
  replace RH := Lib.hid (gr_below hBq RH.out)
  have HAn := Lib.hid (HA.out.trans (hBq.mono HA.out.size))
  clear HA
  have HA := HAn
  clear HAn
  clear hBq kc17 kc18 kc19 kc20 kc21 kc22
  generalize huD : (makeD g (setN g id k v)).1 = uD at *
  have HuD := Lib.hid huD
  clear huD
  generalize hrD : (makeD g (setN g id k v)).2.1.length = rD at *
  have HrD := Lib.hid hrD
  clear hrD
  generalize hlD : (makeD g (setN g id k v)).2.2.length = lD at *
  have HlD := Lib.hid hlD
  clear hlD
  have RD := Lib.hid hD
  clear hD
  have hBq : Below wq23.heap.size wq23 (wq23.alloc (.cells #[.int .u32 uD, .slice BD rD dD, .slice CD lD eD] 32)) := (Below.refl _ wq23).alloc (Nat.le_refl _) _
  replace Pg := Lib.hid (Pg.out.to hBq)
  replace Pv := Lib.hid (Pv.out.to hBq)
  replace PH := Lib.hid (PH.out.to hBq)
  replace Rg := Lib.hid (gr_below hBq Rg.out)
  replace RH := Lib.hid (gr_below hBq RH.out)
  replace RD := Lib.hid (dlt_below hBq RD.out)
  have HAn := Lib.hid (HA.out.trans (hBq.mono HA.out.size))
  clear HA
  have HA := HAn
  clear HAn
  have PD := Lib.hid (Blk.new wq23 32 [.int .u32 uD, .slice BD rD dD, .slice CD lD eD])
  clear hBq
  generalize hme : makeE g (setN g id k v) = me at *
  have Hme := Lib.hid hme
  clear hme
  go_upto_region 8 with fail
  generalize wq23.alloc (.cells #[.int .u32 uD, .slice BD rD dD, .slice CD lD eD] 32) = wb24 at *
  have hMm : M ≤ 9223372036854775807 := by have := (slice_len (rGr_open Rg.out).2.1).2; simp only [maxLen] at this; omega
  by_cases hse : se = 0
  rotate_left
  · have h1 : (se != 0) = true := by simpa using hse
    have HSF := Lib.hid (fun W (hW : Below wb24.heap.size wb24 W) => (Pg.out.to hW).cell (j := 1) rfl)
    clear hse
    refine sch_start [(0, true), (1, true), (2, true), (3, true), (4, true), (5, true), (6, true), (7, true), (8, true), (9, true), (10, true), (11, true), (12, true), (13, true), (14, true), (15, true), (16, true), (17, true), (18, true), (19, true), (20, true), (21, true), (22, true), (23, true), (24, true), (25, true), (26, true), (27, true), (28, true), (29, true), (30, true), (31, true), (32, true), (33, true), (34, true), (35, true), (36, true), (37, true), (38, true), (39, true), (40, true), (41, true), (42, true), (43, true), (44, true), (45, true), (46, true), (47, true), (48, true), (49, true), (50, true)] (fun W => Below wb24.heap.size wb24 W) (by kernel_rfl) rfl (by kernel_rfl) (fun _ _ _ _ _ h => h) ((Below.refl _ wb24).drew) (fun hH => ?_)
    repeat (first | (refine sch_yes (v := ?_) rfl rfl ?_ hH ?_; rotate_left; (focus ((intro W hW; have s0 := HSF.out W hW; go_simp) <;> with_reducible rfl)); simp only [Act.put, List.setIfInBounds_toArray, List.set_cons_zero, List.set_cons_succ]) | (refine sch_no rfl rfl hH ?_; simp only [Act.put, List.setIfInBounds_toArray, List.set_cons_zero, List.set_cons_succ]))
    refine sch_done ?_
    go_wp2
    go_ret
    exact ⟨rfl, HA.out.trans (hH.mono HA.out.size)⟩
  have h1 : (se != 0) = false := by simpa using hse
  by_cases hme : me = 0
  rotate_left
  · have h2 : (me != 0) = true := by simpa using hme
    have HSF := Lib.hid (fun W (hW : Below wb24.heap.size wb24 W) => (Pg.out.to hW).cell (j := 1) rfl)
    clear hse hme
    refine sch_start [(0, true), (1, true), (2, true), (3, true), (4, true), (5, true), (6, true), (7, true), (8, true), (9, true), (10, true), (11, true), (12, true), (13, true), (14, true), (15, true), (16, true), (17, true), (18, true), (19, true), (20, true), (21, true), (22, true), (23, true), (24, true), (25, true), (26, true), (27, true), (28, true), (29, true), (30, true), (31, true), (32, true), (33, true), (34, true), (35, true), (36, true), (37, true), (38, true), (39, true), (40, true), (41, true), (42, true), (43, true), (44, true), (45, true), (46, true), (47, true), (48, true), (49, true), (50, true)] (fun W => Below wb24.heap.size wb24 W) (by kernel_rfl) rfl (by kernel_rfl) (fun _ _ _ _ _ h => h) ((Below.refl _ wb24).drew) (fun hH => ?_)
    repeat (first | (refine sch_yes (v := ?_) rfl rfl ?_ hH ?_; rotate_left; (focus ((intro W hW; have s0 := HSF.out W hW; go_simp) <;> with_reducible rfl)); simp only [Act.put, List.setIfInBounds_toArray, List.set_cons_zero, List.set_cons_succ]) | (refine sch_no rfl rfl hH ?_; simp only [Act.put, List.setIfInBounds_toArray, List.set_cons_zero, List.set_cons_succ]))
    refine sch_done ?_
    go_wp2
    go_ret
    exact ⟨rfl, HA.out.trans (hH.mono HA.out.size)⟩
  have h2 : (me != 0) = false := by simpa using hme
  have hse0 := Hse.out.trans hse
  have hme0 := Hme.out.trans hme
  obtain ⟨hmay, hf1, hk0', hk1, -⟩ := setE_0 hse0
  obtain ⟨I, ob, hI, hgi, hobid, -⟩ := findG_at hf1
  have hoe := objG_at hI hgi
  rw [hoe] at hk1
  obtain ⟨kn, hkn⟩ : ∃ kn : Nat, k = (kn : Int) := ⟨k.toNat, by omega⟩
  have hkl : kn < ob.2.2.length := by omega
  have hmo := mayG_obj hmay (List.mem_of_getElem? hgi)
  obtain ⟨t, ht⟩ : ∃ t : Nat, ob.2.1 = (t : Int) := ⟨ob.2.1.toNat, by have := hmo.t0; omega⟩
  have htN : t < N := by have := hmo.t1; have := HNg.out; omega
  obtain ⟨ty, hgt⟩ : ∃ ty, g.1[t]? = some ty := ⟨_, List.getElem?_eq_getElem (by have := HNg.out; omega)⟩
  obtain ⟨f, hfk⟩ : ∃ f, (fldsG g.1 ob.2.1)[kn]? = some f := ⟨_, List.getElem?_eq_getElem (by have := hmo.len; omega)⟩
  obtain ⟨v0, hv0⟩ : ∃ v0, ob.2.2[kn]? = some v0 := ⟨_, List.getElem?_eq_getElem hkl⟩
  have hIM : I < M := by have := (List.getElem?_eq_some_iff.1 hgi).1; have := HMg.out; omega
  have hfiI : fi = (I : Int) := Hfi.out.symm.trans hI
  have hordH : f.2.1 ≠ 5 → ordG (setN g id k v) = ordG g := fun h5 => by
    rw [hkn] at hse0 ⊢
    exact (set_objs hse0 hI hgi hfk h5).2.2
  have hitm : f.2.1 ≠ 5 → ∀ (j : Nat) x, (ordG g)[j]? = some x → (itemD g (setN g id k v) j x).2.2 = if x = id ∧ v0 ≠ v then [(k, v)] else [] := fun h5 j x hx => by
    rw [hkn] at hse0 ⊢
    exact small_item hse0 hI hgi hv0 hfk h5 hx
  obtain ⟨b, off, A2, c2, hBq, hb, x0, x1, x2, hvs, -, -⟩ := ob_at (rGr_open Rg.out).2.1 hgi
  obtain ⟨bt, offt, st, AF, cF, hAq, hbt, -, y1, -, -, hfs⟩ := typ_at (rGr_open Rg.out).1 hgt
  have hFe := fldsG_at ht hgt
  rw [← hFe] at y1 hfs
  obtain ⟨bf, offf, sx, tx, hAFq, hbf, -, z1, -, -, -, -, -, -⟩ := fld_at hfs hfk
  obtain ⟨bv, offv, sv, hA2q, hbv, w0, w1', w2, hsv, -, -, -⟩ := val_at hvs hv0
  rw [ht] at x1
  have hfl := hmo.len
  have Hnd := Lib.hid (ordG_nodup hmay)
  have Hit := Lib.hid hitm
  have HoH := Lib.hid hordH
  have HmE := Lib.hid hme0
  have HsV := Lib.hid hsv
  clear hse hme hse0 hme0 hmay hf1 hk0' hk1 hI hgi hobid hoe hmo hgt hfk hv0 hordH hitm hvs hfs hFe hsv ht
  subst hBq hAq hAFq hA2q hkn hfiI
  generalize ob.2.2.length = ol at *
  generalize hflE : (fldsG g.1 ob.2.1).length = fl at *
  have hkf : (kn : Int) < (fl : Int) := by omega
  have hkl' : (kn : Int) < (ol : Int) := by omega
  have hk0 : (0 : Int) ≤ (kn : Int) := by omega
  have hIl : (I : Int) < (M : Int) := by omega
  have hI0 : (0 : Int) ≤ (I : Int) := by omega
  have htl : (t : Int) < (N : Int) := by omega
  have ht0 : (0 : Int) ≤ (t : Int) := by omega
  have d1 : decide ((I : Int) < 0) = false := decide_eq_false (by omega)
  have d2 : decide ((M : Int) ≤ (I : Int)) = false := decide_eq_false (by omega)
  have d3 : decide ((kn : Int) < 0) = false := decide_eq_false (by omega)
  have d4 : decide ((ol : Int) ≤ (kn : Int)) = false := decide_eq_false (by omega)
  have d5 : decide (M ≤ I) = false := decide_eq_false (by omega)
  have d6 : decide (ol ≤ kn) = false := decide_eq_false (by omega)
  have HSF := Lib.hid (fun W (hW : Below wb24.heap.size wb24 W) => And.intro ((Pg.out.to hW).cell (j := 0) rfl) (And.intro ((Pg.out.to hW).cell (j := 1) rfl) (And.intro ((hW.cell (p := ⟨b, off + I * 3 + 1, none⟩) hb).trans x1) (And.intro ((hW.cell (p := ⟨b, off + I * 3 + 2, none⟩) hb).trans x2) (And.intro ((hW.cell (p := ⟨bt, offt + t * 2 + 1, none⟩) hbt).trans y1) (And.intro ((hW.cell (p := ⟨bf, offf + kn * 3 + 1, none⟩) hbf).trans z1) (And.intro ((hW.cell (p := ⟨bv, offv + kn * 3, none⟩) hbv).trans w0) (And.intro ((hW.cell (p := ⟨bv, offv + kn * 3 + 1, none⟩) hbv).trans w1') (And.intro ((hW.cell (p := ⟨bv, offv + kn * 3 + 2, none⟩) hbv).trans w2) (And.intro ((Pv.out.to hW).cell (j := 0) rfl) (And.intro ((Pv.out.to hW).cell (j := 1) rfl) ((Pv.out.to hW).cell (j := 2) rfl))))))))))))
  clear x0 x1 x2 y1 z1 w0 w1' w2 hflE
  generalize hkk : f.2.1 = kk at *
  clear hkk
  by_cases h5 : kk = 5
  · have h5' : (kk == 5) = true := by simpa using h5
    clear h5
    refine sch_start [(0, true), (1, true), (2, true), (3, true), (4, true), (5, true), (6, true), (7, true), (8, true), (9, true), (10, true), (11, true), (12, true), (13, true), (14, true), (15, true), (16, true), (17, true), (18, true), (19, true), (20, true), (21, true), (22, true), (23, true), (24, true), (25, true), (26, true), (27, true), (28, true), (29, true), (30, true), (31, true), (32, true), (33, true), (34, true), (35, true), (36, true), (37, true), (38, true), (39, true), (40, true), (41, true), (42, true), (43, true), (44, true), (45, true), (46, true), (47, true), (48, true), (49, true), (50, true)] (fun W => Below wb24.heap.size wb24 W) (by kernel_rfl) rfl (by kernel_rfl) (fun _ _ _ _ _ h => h) ((Below.refl _ wb24).drew) (fun hH => ?_)
    repeat (first | (refine sch_yes (v := ?_) rfl rfl ?_ hH ?_; rotate_left; (focus ((intro W hW; obtain ⟨s0, s1, s2, s3, s4, s5, -⟩ := HSF.out W hW; go_simp) <;> with_reducible rfl)); simp only [Act.put, List.setIfInBounds_toArray, List.set_cons_zero, List.set_cons_succ]) | (refine sch_no rfl rfl hH ?_; simp only [Act.put, List.setIfInBounds_toArray, List.set_cons_zero, List.set_cons_succ]))
    refine sch_done ?_
    go_wp2
    go_ret
    exact ⟨rfl, HA.out.trans (hH.mono HA.out.size)⟩
  have h5' : (kk == 5) = false := by simpa using h5
  have HI1 := Lib.hid (fun (j : Nat) (q : Itm) (hq : (makeD g (setN g id (kn : Int) v)).2.2[j]? = some q) => show ∃ x, (ordG g)[j]? = some x ∧ q.2.2 = (if x = id ∧ v0 ≠ v then [((kn : Int), v)] else []) from by
    obtain ⟨y, hy, rfl⟩ := item_atS HmE.out hq
    rw [HoH.out h5] at hy
    exact ⟨y, hy, Hit.out h5 j y hy⟩)
  have Hlo : Hid (lD = (ordG g).length) := Lib.hid (by rw [← HlD.out, makeD_yes HmE.out]; show ((ordG _).mapIdx _).length = _; rw [List.length_mapIdx, HoH.out h5])
  clear h5 Hit HoH HmE
  refine sch_start [(0, true), (1, true), (2, true), (3, true), (4, true), (5, true), (6, true), (7, true), (8, true), (9, true), (10, true), (11, true), (12, true), (13, true), (14, true), (15, true), (16, true), (17, true), (18, true), (19, true), (20, true), (21, true), (22, true), (23, true), (24, true), (25, true), (26, true), (27, true), (28, true), (29, true), (30, true), (31, true), (32, true), (33, true), (34, true), (35, true), (36, true), (37, true), (38, true), (39, true), (40, true), (41, true), (42, true), (43, true), (44, true), (45, true), (46, true), (47, true), (48, true), (49, true), (50, true)] (fun W => Below wb24.heap.size wb24 W) (by kernel_rfl) rfl (by kernel_rfl) (fun _ _ _ _ _ h => h) ((Below.refl _ wb24).drew) (fun hH => ?_)
  repeat (first | (refine sch_yes (v := ?_) rfl rfl ?_ hH ?_; rotate_left; (focus ((intro W hW; obtain ⟨s0, s1, s2, s3, s4, s5, -⟩ := HSF.out W hW; go_simp) <;> with_reducible rfl)); simp only [Act.put, List.setIfInBounds_toArray, List.set_cons_zero, List.set_cons_succ]) | (refine sch_no rfl rfl hH ?_; simp only [Act.put, List.setIfInBounds_toArray, List.set_cons_zero, List.set_cons_succ]))
  refine sch_done ?_
  have HA8 := Lib.hid (HA.out.trans (hH.mono HA.out.size))
  have HD8 := Lib.hid (dlt_below hH RD.out)
  have PD8 := Lib.hid (PD.out.to hH)
  have HSG := Lib.hid (fun W (hW : Below wb24.drew.heap.size wb24.drew W) => HSF.out W (hH.trans (hW.mono hH.size)))
  have PDw := Lib.hid (fun W (hW : Below wb24.drew.heap.size wb24.drew W) => (PD8.out.to hW).cell (j := 2) rfl)
  have hlb : lD ≤ 1000000 := by have := makeD_fewS g (setN g id (kn : Int) v); have := HlD.out; omega
  have m2 := PDw.out _ (Below.refl _ _)
  clear hH d1 d2 d3 d4 d5 d6
  generalize wb24.drew = wd at *
  go_wp2
  clear m2
  go_loopw [16, 17] (fun nv iv w' => ∃ (j : Nat), j ≤ lD ∧ nv = .int .i64 ((cntS id v0 v (ordG g) j : Nat) : Int) ∧ iv = .int .i64 (j : Int) ∧ Hid (Below wd.heap.size wd w')) (fun _ iv _ => lD - (intOf iv).toNat)
  case atStart => exact ⟨0, by omega, by rw [cntS, List.take_zero]; simp, rfl, Lib.hid (Below.refl _ _)⟩
  case round =>
    rename World => wr
    obtain ⟨j, hj, rfl, rfl, hB⟩ := hrel
    have m2 := PDw.out _ hB.out
    have hcl := cntS_le id v0 v (ordG g) j
    by_cases hin : j < lD
    · obtain ⟨q, hq⟩ : ∃ q, (makeD g (setN g id (kn : Int) v)).2.2[j]? = some q := ⟨_, List.getElem?_eq_getElem (by have := HlD.out; omega)⟩
      obtain ⟨x, hx, hset⟩ := HI1.out j q hq
      have hcs := cntS_step (id := id) (v0 := v0) (v := v) Hnd.out hx
      obtain ⟨bi, offi, Ai, ci, hCq, hbi, i0, i1, i2, hcels, -, -⟩ := itm_at (rDlt_open (dlt_below hB.out HD8.out)).2.2.2 hq
      have hil : (j : Int) < (lD : Int) := by omega
      have hi0 : (0 : Int) ≤ (j : Int) := by omega
      subst hCq
      by_cases hxv : x = id ∧ v0 ≠ v
      · rw [if_pos hxv] at hset hcs
        rw [hset] at i2 hcels
        obtain ⟨bc, offc, sc, hAi, hbc, k0, k1, k2, k3, hsc, -, -, -, -⟩ := cel_at hcels (show ([((kn : Int), v)] : List Cel)[0]? = some ((kn : Int), v) from rfl)
        have hq2 : ∀ W, (binOp .neq 55 (.agg #[.int .i64 vn, .string sc, .int .i64 vr]) (.agg #[.int .i64 vn, .string s, .int .i64 vr])).run Tryz.prog W = .ok (.bool false) W := fun W => by
          rw [vl_neq, vl_is, hsc, Hs.out]
          simp
        have heg := sval_guard
        simp only [Nat.zero_mul, Nat.add_zero, List.length_cons, List.length_nil, Hvn.out, Hvr.out] at i2 k0 k1 k2 k3
        subst hAi
        have HSQ := Lib.hid (fun W (hW : Below wr.heap.size wr W) => And.intro (PDw.out W (hB.out.trans (hW.mono hB.out.size))) (And.intro ((hW.cell (p := ⟨bi, offi + j * 3 + 2, none⟩) hbi).trans i2) (And.intro ((hW.cell (p := ⟨bc, offc, none⟩) hbc).trans k0) (And.intro ((hW.cell (p := ⟨bc, offc + 1, none⟩) hbc).trans k1) (And.intro ((hW.cell (p := ⟨bc, offc + 2, none⟩) hbc).trans k2) (And.intro ((hW.cell (p := ⟨bc, offc + 3, none⟩) hbc).trans k3) ((HSG.out W (hB.out.trans (hW.mono hB.out.size))).2.2.2.2.2.2.2.2.2)))))))
        have Hcs := Lib.hid hcs
        have h0 : cntS id v0 v (ordG g) j = 0 := by have := cntS_le id v0 v (ordG g) (j + 1); omega
        rw [h0]
        rw [h0, Nat.zero_add] at Hcs
        clear hq hx hset hcs hcels hxv hcl h0 hsc k0 k1 k2 k3
        go_upto_region 15 with fail
        clear m2 i0 i1 i2
        refine sch_start [(0, true), (1, true), (2, true), (3, true), (4, true), (5, true), (6, true), (7, true), (8, true), (9, true), (10, true), (11, true), (12, true), (13, true), (14, true), (15, true), (16, true), (17, true), (18, true), (19, true), (20, true), (21, true), (22, true), (23, true), (24, true), (25, true), (26, true), (27, true), (28, true), (29, true), (30, true), (31, true), (32, true), (33, true)] (fun W => Below wr.heap.size wr W) (by kernel_rfl) rfl (by kernel_rfl) (fun _ _ _ _ _ h => h) ((Below.refl _ wr).drew) (fun hH => ?_)
        repeat (first | (refine sch_yes (v := ?_) rfl rfl ?_ hH ?_; rotate_left; (focus ((intro W hW; obtain ⟨s0, s1, s2, s3, s4, s5, s6, s7, s8⟩ := HSQ.out W hW; go_simp) <;> with_reducible rfl)); simp only [Act.put, List.setIfInBounds_toArray, List.set_cons_zero, List.set_cons_succ]) | (refine sch_no rfl rfl hH ?_; simp only [Act.put, List.setIfInBounds_toArray, List.set_cons_zero, List.set_cons_succ]))
        refine sch_done ?_
        go_wp2
        go_roundw
        case rel => exact ⟨j + 1, by omega, by rw [Hcs.out]; rfl, by go_num, Lib.hid (hB.out.trans (hH.mono hB.out.size))⟩
        case measure => simp [intOf]; omega
      · rw [if_neg hxv] at hset hcs
        rw [hset] at i2
        simp only [List.length_nil] at i2
        have HSQ := Lib.hid (fun W (hW : Below wr.heap.size wr W) => And.intro (PDw.out W (hB.out.trans (hW.mono hB.out.size))) ((hW.cell (p := ⟨bi, offi + j * 3 + 2, none⟩) hbi).trans i2))
        have Hcs := Lib.hid hcs
        clear hq hx hset hcs hcels hxv
        generalize cntS id v0 v (ordG g) j = nn at *
        go_upto_region 15 with fail
        clear m2 i0 i1 i2
        refine sch_start [(0, true), (1, true), (2, true), (3, true), (4, true), (5, true), (6, true), (7, true), (8, true), (9, true), (10, true), (11, true), (12, true), (13, true), (14, true), (15, true), (16, true), (17, true), (18, true), (19, true), (20, true), (21, true), (22, true), (23, true), (24, true), (25, true), (26, true), (27, true), (28, true), (29, true), (30, true), (31, true), (32, true), (33, true)] (fun W => Below wr.heap.size wr W) (by kernel_rfl) rfl (by kernel_rfl) (fun _ _ _ _ _ h => h) ((Below.refl _ wr).drew) (fun hH => ?_)
        repeat (first | (refine sch_yes (v := ?_) rfl rfl ?_ hH ?_; rotate_left; (focus ((intro W hW; obtain ⟨s0, s1⟩ := HSQ.out W hW; go_simp) <;> with_reducible rfl)); simp only [Act.put, List.setIfInBounds_toArray, List.set_cons_zero, List.set_cons_succ]) | (refine sch_no rfl rfl hH ?_; simp only [Act.put, List.setIfInBounds_toArray, List.set_cons_zero, List.set_cons_succ]))
        refine sch_done ?_
        go_wp2
        go_roundw
        case rel => exact ⟨j + 1, by omega, by rw [Hcs.out]; rfl, by go_num, Lib.hid (hB.out.trans (hH.mono hB.out.size))⟩
        case measure => simp [intOf]; omega
    · have hne := fun h => cntS_ne (id := id) (v0 := v0) (v := v) (l := ordG g) (j := j) h
      have hq2 : v0 ≠ v → ∀ W, (binOp .neq 55 (.agg #[.int .i64 v0.1, .string sv, .int .i64 v0.2.2]) (.agg #[.int .i64 vn, .string s, .int .i64 vr])).run Tryz.prog W = .ok (.bool true) W := fun hn W => by
        rw [vl_neq, vl_is, HsV.out, Hs.out, ← Hvn.out, ← Hvr.out, decide_eq_false (fun h : (v0.1, v0.2.1, v0.2.2) = (v.1, v.2.1, v.2.2) => hn h)]
        rfl
      have heg := sval_guard
      have hnil : ¬ ((j : Int) < (lD : Int)) := by omega
      have HSQ := Lib.hid (fun W (hW : Below wr.heap.size wr W) => HSG.out W (hB.out.trans (hW.mono hB.out.size)))
      generalize hnn : cntS id v0 v (ordG g) j = nn at *
      clear hnn
      go_upto_region 17 with fail
      clear m2
      have hor : nn = 0 ∨ nn = 1 := by omega
      rcases hor with rfl | rfl
      · refine sch_start [(0, true), (1, true), (2, true), (3, true), (4, true), (5, true), (6, true), (7, true), (8, true), (9, true), (10, true), (11, true), (12, true), (13, true), (14, true), (15, true), (16, true), (17, true), (18, true), (19, true)] (fun W => Below wr.heap.size wr W) (by kernel_rfl) rfl (by kernel_rfl) (fun _ _ _ _ _ h => h) ((Below.refl _ wr).drew) (fun hH => ?_)
        repeat (first | (refine sch_yes (v := ?_) rfl rfl ?_ hH ?_; rotate_left; (focus ((intro W hW; obtain ⟨s0, s1, s2, s3, s4, s5, s6, s7, s8, s9, s10, s11⟩ := HSQ.out W hW; go_simp) <;> with_reducible rfl)); simp only [Act.put, List.setIfInBounds_toArray, List.set_cons_zero, List.set_cons_succ]) | (refine sch_no rfl rfl hH ?_; simp only [Act.put, List.setIfInBounds_toArray, List.set_cons_zero, List.set_cons_succ]))
        refine sch_done ?_
        go_wp2
        go_ret
        exact ⟨rfl, HA8.out.trans ((hB.out.trans (hH.mono hB.out.size)).mono HA8.out.size)⟩
      · have hq3 := hq2 (hne (by omega))
        clear hq2 hne
        generalize v0.1 = v0n at *
        generalize v0.2.2 = v0r at *
        refine sch_start [(0, true), (1, true), (2, true), (3, true), (4, true), (5, true), (6, true), (7, true), (8, true), (9, true), (10, true), (11, true), (12, true), (13, true), (14, true), (15, true), (16, true), (17, true), (18, true), (19, true)] (fun W => Below wr.heap.size wr W) (by kernel_rfl) rfl (by kernel_rfl) (fun _ _ _ _ _ h => h) ((Below.refl _ wr).drew) (fun hH => ?_)
        repeat (first | (refine sch_yes (v := ?_) rfl rfl ?_ hH ?_; rotate_left; (focus ((intro W hW; obtain ⟨s0, s1, s2, s3, s4, s5, s6, s7, s8, s9, s10, s11⟩ := HSQ.out W hW; go_simp) <;> with_reducible rfl)); simp only [Act.put, List.setIfInBounds_toArray, List.set_cons_zero, List.set_cons_succ]) | (refine sch_no rfl rfl hH ?_; simp only [Act.put, List.setIfInBounds_toArray, List.set_cons_zero, List.set_cons_succ]))
        refine sch_done ?_
        go_wp2
        go_ret
        exact ⟨rfl, HA8.out.trans ((hB.out.trans (hH.mono hB.out.size)).mono HA8.out.size)⟩
end Go.Proofs.YtclbjbhpncpmbaaGreatDoor
